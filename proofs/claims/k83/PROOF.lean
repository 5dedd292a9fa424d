import PyProof.Rows.All
import Wide.All
import OpenK.AllK
import Wide.FinOn
import Lean
import PyProof.EqAt
import PyProof.EqKinds
import PyProof.TupleCall
import PyProof.ListMulRoad
import KE.KRevIter
import PyProof.ZipIter
import PyProof.TupleIter
import PyProof.Rows.SortWalk
import PyProof.Rows.SortStr
import PyProof.Rows.StrWeight2
import PyProof.ConsumeWalk
import PyProof.SliceStr2
import PyProof.ListRange
import PyProof.TupleOfSeq
import PyProof.P3In
import PyProof.AttrMissHeap
import KE.KDictOf
import PyProof.StrBlockI
import PyProof.WalksEnum
import PyProof.EnumMake
import PyProof.DictWalks
import PyProof.SetRoads
import PyProof.SetNew
import PyProof.Rows.SetFrom
import PyProof.CollectWalk
import PyProof.StrWalks
import PyProof.FString5
import PyProof.Rows.SortShell
import PyProof.SeqI3
import PyProof.SliceList
import KE.KSortTup
import PyProof.FactsAll.dict_values
import PyProof.DictItemsLoops
import Open.Tops
import PyProof.DictDisplay
import PyProof.Rows.TupDisplay
import PySem.Challenge.RW_whens_k83_renamed
local macro_rules(kind:=Lean.Parser.Command.declaration)
|x=>if x[0][4].getNumArgs==0&&x[1][1][0].getId != `lw&&(x[1].isOfKind ``Lean.Parser.Command.definition||x[1].isOfKind ``Lean.Parser.Command.abbrev)then pure (x.setArg 0 (x[0].setArg 4 (Lean.mkNullNode #[Lean.mkNode ``Lean.Parser.Command.noncomputable #[Lean.mkAtom "noncomputable"]])))else Lean.Macro.throwUnsupported
local macro_rules
|`(#[0])=>`(by omega)
|`(#[1])=>`(by decide)
|`(#[2])=>`(by simp)
|`(#[3])=>`(by decide +kernel)
|`(#[4,$x])=>`(by simpa using $x)
set_option Elab.async false
set_option linter.all false
set_option maxRecDepth 100000
set_option maxHeartbeats 4000000
universe u v
section
open PySem
abbrev ad:=PySem.W.Frag
theorem ae{α β:Type}{M A E s}{m:Sem α}{f:α->Sem β}{Q:β->Shared->Prop}(h:wpAny M A m (fun a=>wpAny M A (f a) Q E) E s):wpAny M A (m>>=f) Q E s:=wpAny_bind h
theorem af{α:Type}{M A E s}{a:α}{Q:α->Shared->Prop}(h:Q a s):wpAny M A (pure a) Q E s:=wpAny_pure h
theorem ag{h:Heap}{a o}(e:h.get? a=some o):a<h.objs.size:=Heap.lt_size e
theorem ah{h:Heap}{a p}(o:Obj)(e:h.get? a=some p):(h.push o).get? a=some p:=Heap.get?_push_of_some o e
theorem ai(h:Heap){o:Obj}(e:o.isFreed=false):(h.push o).get? h.objs.size=some o:=Heap.get?_push_size h e
theorem aj{a b c:Nat}(h:a<b)(k:b<=c):a<c:=Nat.lt_of_lt_of_le h k
theorem ak(a:Nat):a<=a:=Nat.le_refl a
theorem am:¬false=true:=Bool.false_ne_true
theorem ao{a b:Nat}(h:a<b):a≠b:=Nat.ne_of_lt h
theorem aq{α:Type}(y:α){a l}(h:a∈l):a∈y::l:=List.mem_cons_of_mem y h
theorem au{α:Type u}{β:Type v}{f:α->β}{a l}:(a::l).map f=f a::l.map f:=rfl
theorem av{α:Type u}{β:Type v}{l:List α}(f:α->β):(l.map f).length=l.length:=List.length_map f
theorem ay{α:Type u}{l:List α}:l.toArray.size=l.length:=rfl
end
namespace L2
open PySem PySem.Spec PyProof.Rows
noncomputable instance decPy:DecidableEq PyData:=fun _ _=>Classical.propDecidable _
mutual
def isK:PyData->Bool
 | .int _=>true
 | .str x=>PyData.strOk x
 | .tuple xs=>isKs xs
 | .none | .bool _ | .list _ | .dict _=>false
def isKs:List PyData->Bool
 | []=>true
 | x::xs=>isK x&&isKs xs
end
mutual
def uB(w:World):PyData->Int
 | .int i=>hashInt i
 | .str x=>hashStr w x
 | .tuple xs=>reduceHash (Builtin.Tuple.tupleHashOf (hashKs w xs))
 | .none | .bool _ | .list _ | .dict _=>0
def hashKs(w:World):List PyData->List Int
 | []=>[]
 | x::xs=>uB w x::hashKs w xs
end
mutual
def wJ:PyData->Nat
 | .int _ | .str _=>1
 | .tuple xs=>drawsKs xs+1
 | .none | .bool _ | .list _ | .dict _=>0
def drawsKs:List PyData->Nat
 | []=>0
 | x::xs=>wJ x+drawsKs xs
end
mutual
theorem pQ:∀ p:PyData,isK p=true->p.canLay0=true
 | .int _,_=>rfl
 | .str _,h=>h
 | .tuple xs,h=>isKs_lay xs h
 | .none,h | .bool _,h | .list _,h | .dict _,h=>by simp[isK]at h
theorem isKs_lay:∀ ps:List PyData,isKs ps=true->PyData.canLayAll0 ps=true
 | [],_=>rfl
 | x::xs,h=>by
  simp only[isKs,Bool.and_eq_true]at h;simp only[PyData.canLayAll0,pQ x h.1,isKs_lay xs h.2,Bool.and_self]
end
mutual
theorem Iq:∀ p q:PyData,isK p=true->isK q=true->p.eqv q=decide (p=q)
 | .int i,.int j,_,_=>by
  simp only[PyData.eqv,PyData.int.injEq];exact Bool.eq_iff_iff.mpr #[2]
 | .str x,.str y,_,_=>by
  simp only[PyData.eqv,PyData.str.injEq];exact Bool.eq_iff_iff.mpr #[2]
 | .tuple xs,.tuple ys,h,h'=>by
  have e:=isKs_eqv xs ys h h'
  simp only[PyData.eqv,PyData.tuple.injEq];exact e
 | .int i,.str y,_,_ | .str y,.int i,_,_ | .int i,.tuple y,_,_ | .tuple y,.int i,_,_ | .str i,.tuple y,_,_ | .tuple y,.str i,_,_=>by
  simp only[PyData.eqv];exact(decide_eq_false (fun e=>nomatch e)).symm
 | .none,_,h,_ | .bool _,_,h,_ | .list _,_,h,_ | .dict _,_,h,_=>by simp[isK]at h
 | .int _,.none,_,h | .int _,.bool _,_,h | .int _,.list _,_,h | .int _,.dict _,_,h=>by simp[isK]at h
 | .str _,.none,_,h | .str _,.bool _,_,h | .str _,.list _,_,h | .str _,.dict _,_,h=>by simp[isK]at h
 | .tuple _,.none,_,h | .tuple _,.bool _,_,h | .tuple _,.list _,_,h | .tuple _,.dict _,_,h=>by simp[isK]at h
theorem isKs_eqv:∀ p q:List PyData,isKs p=true->isKs q=true->PyData.eqvAll p q=decide (p=q)
 | [],[],_,_=>by simp[PyData.eqvAll]
 | [],_::_,_,_=>by simp[PyData.eqvAll]
 | _::_,[],_,_=>by simp[PyData.eqvAll]
 | x::xs,y::ys,h,h'=>by
  simp only[isKs,Bool.and_eq_true]at h h';simp only[PyData.eqvAll,Iq x y h.1 h'.1,isKs_eqv xs ys h.2 h'.2,List.cons.injEq];exact(Bool.decide_and _ _).symm
end
mutual
theorem Du{h h':Heap}{d:Addr}{o:Obj}{es ep}(ho:h.get? d=some o)(hd:o.data=.dict es ep)(hs:Heap.SameBut d h h') :
  ∀ (p:PyData) (v:Value) (as:List Addr),isK p=true->Reads h v p as->Reads h' v p as
 | .int _,_,_,_,r=>by cases r;exact .int _ _
 | .str _,_,_,_,r=>by cases r;exact .str _ _
 | .tuple xs,_,_,hk,r=>by
  cases r with
  | tuple h1 h2 h3 h4 =>
   rename_i a ob vs n;have hne:a≠d:=by
    rintro rfl;obtain rfl:ob=o:=Option.some.inj (h1.symm.trans ho);rw[hd]at h3;exact nomatch h3
   exact .tuple ((hs.2 _ hne).trans h1) h2 h3 (readsAll_keep ho hd hs xs _ _ hk h4)
 | .none,_,_,h,_ | .bool _,_,_,h,_ | .list _,_,_,h,_ | .dict _,_,_,h,_=>by simp[isK]at h
theorem readsAll_keep{h h':Heap}{d:Addr}{o:Obj}{es ep}(ho:h.get? d=some o)(hd:o.data=.dict es ep)(hs:Heap.SameBut d h h') :
  ∀ (ps:List PyData) (vs:List Value) (as:List Addr),isKs ps=true->ReadsAll h vs ps as->ReadsAll h' vs ps as
 | [],_,_,_,r=>by cases r;exact .nil
 | x::xs,_,_,hk,r=>by
  simp only[isKs,Bool.and_eq_true]at hk
  cases r with
  | cons r1 r2=>exact .cons (Du ho hd hs x _ _ hk.1 r1) (readsAll_keep ho hd hs xs _ _ hk.2 r2)
end
section
variable {prog:Program}{w:World}
mutual
theorem yT:∀ (p:PyData) (v:Value) (A:Around) (E:Value->Shared->Prop) (s:Shared) (as:List Addr) (Q:Int->Shared->Prop),isK p=true->Reads s.heap v p as->A.units+p.depth<cLine ->
  Q (uB w p) {s with toks:=s.toks+wJ p}->wpAny (model prog w) A (pyHash v) Q E s
 | .int i,_,A,E,s,_,Q,_,r,_,h=>by cases r;exact wpAny_pyHash_int h
 | .str x,_,A,E,s,_,Q,_,r,_,h=>by cases r;exact wpAny_pyHash_str h
 | .tuple xs,_,A,E,s,_,Q,hk,r,hu,h=>by
  cases r with
  | tuple h1 h2 h3 h4 =>
   refine PySem.W.pyHash_slot (T:="tuple") ⟨_,h1,h2⟩ F.slot_tuple_hash F.entry_tuple_hash (F.args_tuple_hash_1 _) (beq_builtin_none _) (.inr #[0]) ?_
   show wpAny _ _ (Builtin.Tuple.tupleItemsOf (.ref _)>>=_) _ _ s
   refine ae (wpAny_tupleItemsOf h1 h3 ?_);refine ae ?_;rw[<- Array.forIn_toList];refine hash_readsAll xs _ A.in1 E s _ #[] _ hk h4 (by simp only[PyData.depth,Around.in1_units]at hu ⊢;omega) fun b hb=>?_
   show wpAny _ _ (retInt (Builtin.Tuple.tupleHashOf b.toList)) _ _ _
   rw[hb];exact ae (wpAny_mkInt (af ⟨_,_,rfl,h⟩))
 | .none,_,_,_,_,_,_,h,_,_,_ | .bool _,_,_,_,_,_,_,h,_,_,_ | .list _,_,_,_,_,_,_,h,_,_,_ | .dict _,_,_,_,_,_,_,h,_,_,_=>by simp[isK]at h
theorem hash_readsAll:∀ (ps:List PyData) (vs:List Value) (A:Around) (E:Value->Shared->Prop) (s:Shared) (as:List Addr) (b:Array Int) (Q:Array Int->Shared->Prop),isKs ps=true->ReadsAll s.heap vs ps as->A.units+PyData.depthAll ps<cLine ->
  (∀ b',b'.toList=b.toList++hashKs w ps->Q b' {s with toks:=s.toks+drawsKs ps}) ->
  wpAny (model prog w) A (forIn vs b fun x r=>do let h <- pyHash x;pure PUnit.unit;pure (ForInStep.yield (r.push h))) Q E s
 | [],_,A,E,s,_,b,Q,_,x,_,h=>by cases x;exact af (h b (by simp[hashKs]))
 | k::xs,_,A,E,s,_,b,Q,hk,x,hu,h=>by
  cases x with
  | cons x1 x2 =>
   simp only[isKs,Bool.and_eq_true,PyData.depthAll]at hk hu;rw[List.forIn_cons];refine ae (ae (yT k _ A E s _ _ hk.1 x1 #[0] ?_))
   refine ae (af (af ?_));refine hash_readsAll xs _ A E _ _ _ Q hk.2 x2 #[0] fun b' hb=>?_
   have:=h b' (by simp[hb,hashKs])
   simpa[drawsKs,Nat.add_assoc] using this
end
mutual
theorem Ed:∀ (p:PyData) (v:Value) (A:Around) (E:Value->Shared->Prop) (s:Shared) (as:List Addr) (n:Nat) (Q:Bool->Shared->Prop),isK p=true->Reads s.heap v p as->p.depth<=n ->
  Q true s->wpAny (model prog w) A (eqIsQuiet n v) Q E s
 | .int i,_,A,E,s,_,n,Q,_,r,_,h=>by cases r;rw[eqIsQuiet_byValue _ rfl];exact af h
 | .str x,_,A,E,s,_,n,Q,_,r,_,h=>by cases r;rw[eqIsQuiet_byValue _ rfl];exact af h
 | .tuple xs,_,A,E,s,_,n,Q,hk,r,hn,h=>by
  cases r with
  | tuple h1 h2 h3 h4 =>
   have hT:s.TypeIs (.ref _) "tuple":=⟨_,h1,h2⟩
   unfold eqIsQuiet;refine ae (wpAny_specialOf hT F.slot_tuple_eq.lookup ?_);show wpAny _ _ (isInstance (.ref _) (.type "tuple")>>=_) _ _ s
   refine ae (wpAny_isInstance hT isSubtype_tuple_tuple ?_);simp only[Bool.not_true,Bool.false_eq_true,if_false];simp only[PyData.depth]at hn;obtain⟨n',rfl⟩:∃ n',n=n'+1:=⟨n-1,by omega⟩
   refine ae (wpAny_seqItems h1 h3 ?_);refine ae ?_;show wpAny _ _ (forIn _ _ _) _ _ s
   rw[<- Array.forIn_toList];refine wpAny_forIn_list _ (fun rest r s'=>r.1=none/\s'=s/\∃ ps as,isKs ps=true/\PyData.depthAll ps<=n'/\(∀ q∈ps,q∈xs)/\ReadsAll s.heap rest ps as) _ ?_ ?_ _ _ ⟨rfl,rfl,xs,_,hk,by omega,fun _ z=>z,h4⟩
   ·rintro v rest r s' ⟨hr,rfl,ps,as',hks,hd,hmem,ra⟩
    cases ra with
    | cons r1 r2 =>
     rename_i q qs as1 as2;simp only[isKs,Bool.and_eq_true,PyData.depthAll]at hks hd;have hq:q∈xs:=hmem q List.mem_cons_self
     have hdep:sizeOf q<sizeOf (PyData.tuple xs):=by have:=List.sizeOf_lt_of_mem hq;simp;omega
     refine ae (Ed q v A E _ _ _ _ hks.1 r1 #[0] ?_)
     simp only[Bool.not_true,Bool.false_eq_true,if_false];exact af ⟨rfl,rfl,qs,_,hks.2,by omega,fun z hz=>hmem z (aq _ hz),r2⟩
   ·rintro⟨r1,r2⟩ s' ⟨hr,rfl,_⟩;simp only at hr;subst hr;exact af h
 | .none,_,_,_,_,_,_,_,h,_,_,_ | .bool _,_,_,_,_,_,_,_,h,_,_,_ | .list _,_,_,_,_,_,_,_,h,_,_,_ | .dict _,_,_,_,_,_,_,_,h,_,_,_=>by simp[isK]at h
termination_by p=>sizeOf p
end
end
def iH(prog:Program)(w:World):HeapKind prog w (List PyData) where
 is:=fun h ks a=>isKs ks=true/\PyData.depthAll ks<=6/\∃ as,Reads h (.ref a) (.tuple ks) as
 hash:=fun ks=>uB w (.tuple ks)
 draws:=fun ks=>wJ (.tuple ks)
 room:=fun A=>A.units+20<cLine
 inj:=fun {h a x y} hx hy=>by
  obtain⟨k1,_,_,r1⟩:=hx;obtain⟨k2,_,_,r2⟩:=hy;have e:=SeqAt.Reads.unique _ _ _ _ _ (pQ (.tuple x) k1) r1 r2
  exact PyData.tuple.inj e
 keeps:=fun x ho hd hs=>let ⟨k1,k2,as,r⟩:=x;⟨k1,k2,as,Du ho hd hs _ _ _ k1 r⟩
 pyHash:=fun {A E s k a Q} hu hk h=>by
  obtain⟨k1,k2,as,r⟩:=hk;exact yT (.tuple k) _ A E s as Q k1 r (by simp only[PyData.depth];omega) h
 eqBool:=fun {A E s x y a b Q} hu hx hy h=>by
  obtain⟨k1,d1,as,r1⟩:=hx;obtain⟨k2,d2,bs,r2⟩:=hy;refine SeqAt.eqAt_reads (.tuple x) (.tuple y) A s _ _ _ _ r1 r2 (pQ (.tuple x) k1) (pQ (.tuple y) k2) (by simp only[PyData.depth];omega) prog w E Q ?_
  rw[Iq (.tuple x) (.tuple y) k1 k2];have e:decide (PyData.tuple x=PyData.tuple y)=decide (x=y):=by
   simp only[PyData.tuple.injEq]
  rw[e];exact h
 quiet:=fun {A E s k a Q} hk h=>by
  obtain⟨k1,k2,as,r⟩:=hk;exact Ed (.tuple k) _ A E s as 8 Q k1 r (by simp only[PyData.depth];omega) h
abbrev aL:=Sum Int Str
def iI:aL->Value->Bool
 | .inl k,v=>Value.isInt k v
 | .inr x,v=>Value.isStrOf x v
def N6(w:World):aL->Int
 | .inl k=>hashInt k
 | .inr x=>hashStr w x
theorem gA:∀ {k:aL} {v:Value},iI k v=true->(∃ i t,k=Sum.inl i/\v=Value.int i t)\/(∃ x t,k=Sum.inr x/\v=Value.str x t)
 | .inl i,v,h=>by
  obtain⟨t,e⟩:=Value.isInt_shape (k:=i) (v:=v) h;exact .inl ⟨i,t,rfl,e⟩
 | .inr x,v,h=>by
  obtain⟨t,e⟩:=Value.isStrOf_shape (x:=x) (v:=v) h;exact .inr ⟨x,t,rfl,e⟩
theorem B4(i:Int)(t:Tok):iI (.inl i) (.int i t)=true:=by simp[iI,Value.isInt]
theorem Z7(x:Str)(t:Tok):iI (.inr x) (.str x t)=true:=by simp[iI,Value.isStrOf]
theorem AY(a b:Int):decide ((Sum.inl a:aL)=Sum.inl b)=(a==b):=by
 by_cases e:a=b
 ·subst e;simp
 ·have h:¬ (Sum.inl a:aL)=Sum.inl b:=fun q=>e (Sum.inl.inj q)
  rw[decide_eq_false h];exact(beq_eq_false_iff_ne.mpr e).symm
theorem p9(a b:Str):decide ((Sum.inr a:aL)=Sum.inr b)=decide (a=b):=by
 by_cases e:a=b
 ·subst e;simp
 ·have h:¬ (Sum.inr a:aL)=Sum.inr b:=fun q=>e (Sum.inr.inj q)
  rw[decide_eq_false h,decide_eq_false e]
theorem AO(a:Int)(b:Str):decide ((Sum.inl a:aL)=Sum.inr b)=false:=decide_eq_false (fun q=>nomatch q)
theorem Uh(a:Str)(b:Int):decide ((Sum.inr a:aL)=Sum.inl b)=false:=decide_eq_false (fun q=>nomatch q)
def bX(prog:Program)(w:World):PySem.KeyKind prog w aL where
 is:=iI
 hash:=N6 w
 inj:=fun v a b ha hb=>by
  rcases gA ha with⟨i,t,rfl,rfl⟩ | ⟨x,t,rfl,rfl⟩
  ·rcases gA hb with⟨j,u,rfl,e⟩ | ⟨y,u,rfl,e⟩
   ·injection e with e1 _;rw[e1]
   ·exact nomatch e
  ·rcases gA hb with⟨j,u,rfl,e⟩ | ⟨y,u,rfl,e⟩
   ·exact nomatch e
   ·injection e with e1 _;rw[e1]
 byValue:=fun k v h=>by
  rcases gA h with⟨i,t,rfl,rfl⟩ | ⟨x,t,rfl,rfl⟩<;>rfl
 pyHash:=fun hv h=>by
  rcases gA hv with⟨i,t,rfl,rfl⟩ | ⟨x,t,rfl,rfl⟩
  ·exact wpAny_pyHash_int h
  ·exact wpAny_pyHash_str h
 eqBool:=fun hu hv h=>by
  rcases gA hu with⟨i,t,rfl,rfl⟩ | ⟨x,t,rfl,rfl⟩
  ·rcases gA hv with⟨j,u,rfl,rfl⟩ | ⟨y,u,rfl,rfl⟩
   ·rw[AY]at h;exact wpAny_eqBool_int h
   ·rw[AO]at h;exact SeqAt.EqAt.int_str i t y u _ _ _ _ h
  ·rcases gA hv with⟨j,u,rfl,rfl⟩ | ⟨y,u,rfl,rfl⟩
   ·rw[Uh]at h;exact SeqAt.EqAt.str_int x t j u _ _ _ _ h
   ·rw[p9]at h;exact wpAny_eqBool_str h
 «strs»:=fun k x t v h=>by
  rcases gA h with⟨i,u,rfl,e⟩ | ⟨y,u,rfl,e⟩
  ·exact nomatch e
  ·injection e with e1 _
   subst e1
   cases v<;>rfl
theorem EY(prog:Program)(w:World)(i:Int)(t:Tok):(bX prog w).is (.inl i) (.int i t)=true:=B4 i t
theorem Sl(prog:Program)(w:World)(x:Str)(t:Tok):(bX prog w).is (.inr x) (.str x t)=true:=Z7 x t
inductive V where
 | non | bl (b:Bool) | int (i:Int) | str (x:Str) | byt (b:Array UInt8) | flt (b:UInt64) | ref (a:Addr) | ty (n:String)
 deriving DecidableEq
def RelV:V->Value->Prop
 | .non,u=>u=Value.none
 | .bl b,u=>u=Value.bool b
 | .int i,u=>∃ t,u=Value.int i t
 | .str x,u=>∃ t,u=Value.str x t
 | .byt b,u=>∃ t,u=Value.bytes b t
 | .flt b,u=>∃ t,u=Value.float b t
 | .ref a,u=>u=Value.ref a
 | .ty n,u=>u=Value.type n
abbrev Vals:List V->List Value->Prop:=Paired RelV
theorem Vals.length{xs:List V}{us:List Value}(r:Vals xs us):xs.length=us.length:=Paired.length r
theorem Vals.get:∀ {xs:List V} {us:List Value} {i:Nat} {x:V},Vals xs us->xs[i]?=some x->∃ u,us[i]?=some u/\RelV x u
 | _,_,_,_,.nil,e=>by simp at e
 | _,_,0,_,.cons r _,e=>by simp at e;subst e;exact⟨_,rfl,r⟩
 | _,_,i+1,x,.cons _ t,e=>by
  obtain⟨u,h1,h2⟩:=Vals.get (i:=i) (x:=x) t #[4,e]
  exact⟨u,by simpa using h1,h2⟩
theorem Vals.set{x:V}{u:Value}(r:RelV x u):∀ {xs:List V} {us:List Value} (i:Nat),Vals xs us->Vals (xs.set i x) (us.set i u)
 | _,_,_,.nil=>.nil
 | _,_,0,.cons _ t=>.cons r t
 | _,_,i+1,.cons q t=>.cons q (Vals.set r i t)
theorem Vals.append:∀ {xs ys:List V} {us ws:List Value},Vals xs us->Vals ys ws->Vals (xs++ys) (us++ws)
 | _,_,_,_,.nil,s=>s
 | _,_,_,_,.cons r t,s=>.cons r (Vals.append t s)
theorem Vals.take:∀ {xs:List V} {us:List Value} (n:Nat),Vals xs us->Vals (xs.take n) (us.take n)
 | _,_,0,_=>.nil
 | _,_,_+1,.nil=>.nil
 | _,_,n+1,.cons r t=>.cons r (Vals.take n t)
theorem Vals.drop:∀ {xs:List V} {us:List Value} (n:Nat),Vals xs us->Vals (xs.drop n) (us.drop n)
 | _,_,0,r=>r
 | _,_,_+1,.nil=>.nil
 | _,_,n+1,.cons _ t=>Vals.drop n t
def RelO:Option V->Option Value->Prop
 | some v,some u=>RelV v u
 | none,none=>True
 | _,_=>False
def KV{κ:Type}:List (κ×V)->List (κ×Value)->Prop:=Paired fun(p:κ×V) (q:κ×Value)=>p.1=q.1/\RelV p.2 q.2
def kV:aL->V
 | .inl i=>.int i
 | .inr x=>.str x
inductive HO where
 | lst (xs:List V)
 | tup (xs:List V)
 | dK (kvs:List (aL×V)) | dT (kvs:List (List aL×V)) | dN (K:ad) (kvs:List (List PyData×V))
 | set (S:Int->Bool) (n:Nat)
 | ins (C dx:Addr) (fs:List (Str×V))
 | own (x:Addr)
 | xd (fs:List (Str×V))
 | met (f x:Addr)
 | rng (lo hi:Int)
 | frz (o:Obj) (u:HO)
 | tbl (ps:Array Value)
 | ext (φ:Heap->Prop)
abbrev Hp:=Addr->Option HO
def upd(H:Hp)(a:Addr)(o:HO):Hp:=fun b=>if b=a then some o else H b
theorem cA{H:Hp}{a:Addr}{o:HO}:upd H a o a=some o:=by unfold upd;rw[if_pos rfl]
theorem bF{H:Hp}{a b:Addr}{o:HO}(h:b≠a):upd H a o b=H b:=by unfold upd;rw[if_neg h]
theorem AN{H:Hp}{a b:Addr}{o u:HO}(h:H a=some o)(h':H b=some u)(d:o≠u):a≠b:=by
 intro e;subst e;rw[h]at h';exact d (Option.some.inj h')
theorem kN{H:Hp}{a b:Addr}{o:HO}(h:H a=some o)(h':H b=none):a≠b:=by
 intro e;subst e;rw[h]at h';cases h'
def NoD(h:Heap)(a:Addr):Prop:=∃ o,h.get? a=some o/\o.dict=none
theorem NoD.new(h:Heap)(c:Value)(d:Data)(hf:Obj.isFreed {cls:=c,data:=d}=false:=by rfl):NoD (h.push {cls:=c,data:=d}) h.objs.size:=⟨_,ai _ hf,rfl⟩
theorem NoD.keep{h h':Heap}{a:Addr}(x:NoD h a)(k:∀ o,h.get? a=some o->h'.get? a=some o):NoD h' a:=let ⟨o,e,d⟩:=x;⟨o,k _ e,d⟩
def TupAt(K:ad)(H:Hp)(a:Addr)(xs:List V):Prop:=(H a=some (.tup xs)\/∃ o,H a=some (.frz o (.tup xs))) \/
  ∃ (o:Obj) (its:Array Value) (n:Nat),K.lookup a=some o/\(o.cls=.type "tuple"/\o.dict=none)/\o.data=.seq its n/\its.size<=sizeLine/\Vals xs its.toList
mutual
def NKV(K:ad)(H:Hp):PyData->V->Prop
 | .int i,v=>v=.int i
 | .str x,v=>v=.str x
 | .tuple xs,v=>∃ a vs,v=.ref a/\TupAt K H a vs/\NKVs K H xs vs
 | .none,_ | .bool _,_ | .list _,_ | .dict _,_=>False
def NKVs(K:ad)(H:Hp):List PyData->List V->Prop
 | [],vs=>vs=[]
 | x::xs,vs=>∃ v r,vs=v::r/\NKV K H x v/\NKVs K H xs r
end
section
variable {K:ad}{H H':Hp}
theorem TupAt.stay{a:Addr}{xs:List V}(x:TupAt K H a xs)(ht:∀ b xs,H b=some (.tup xs)->H' b=some (.tup xs))(hf:∀ b o u,H b=some (.frz o u)->H' b=some (.frz o u)):TupAt K H' a xs:=by
 rcases x with (x | ⟨o,x⟩) | x
 ·exact .inl (.inl (ht _ _ x))
 ·exact .inl (.inr ⟨o,hf _ _ _ x⟩)
 ·exact .inr x
mutual
theorem NKV.stay(ht:∀ b xs,H b=some (.tup xs)->H' b=some (.tup xs))(hf:∀ b o u,H b=some (.frz o u)->H' b=some (.frz o u)):∀ (p:PyData) (v:V),NKV K H p v->NKV K H' p v
 | .int _,_,x=>by simpa only[NKV] using x
 | .str _,_,x=>by simpa only[NKV] using x
 | .tuple xs,_,x=>by
  simp only[NKV]at x ⊢;obtain⟨a,vs,e,x1,x2⟩:=x;exact⟨a,vs,e,x1.stay ht hf,NKVs.stay ht hf xs vs x2⟩
 | .none,_,x | .bool _,_,x | .list _,_,x | .dict _,_,x=>by simp only[NKV]at x
theorem NKVs.stay(ht:∀ b xs,H b=some (.tup xs)->H' b=some (.tup xs))(hf:∀ b o u,H b=some (.frz o u)->H' b=some (.frz o u)):∀ (ps:List PyData) (vs:List V),NKVs K H ps vs->NKVs K H' ps vs
 | [],_,x=>by simpa only[NKVs] using x
 | p::ps,_,x=>by
  simp only[NKVs]at x ⊢;obtain⟨v,r,e,x1,x2⟩:=x;exact⟨v,r,e,NKV.stay ht hf p v x1,NKVs.stay ht hf ps r x2⟩
end
end
section
variable (P:Program)(w:World)
def ObjOk(H:Hp)(h:Heap)(a:Addr):HO->Prop
 | .lst xs=>xs.length<=sizeLine/\∃ (its:List Value) (n:Nat),Vals xs its/\h.get? a=some {cls:=.type "list",data:=.seq its.toArray n}
 | .tup xs=>(xs.length<=sizeLine/\NoD h a)/\∃ its:List Value,Vals xs its/\IsTup h a its.toArray
 | .dK kvs=>kvs.length<=sizeLine/\(a==sysModules)=false/\∃ vs,KV kvs vs/\h.DictOf (bX P w) a vs
 | .dT kvs=>kvs.length<=sizeLine/\(a==sysModules)=false/\∃ xs:List (List aL×Addr×Value),
   Paired (fun(p:List aL×V) (q:List aL×Addr×Value)=>p.1=q.1/\H q.2.1=some (.tup (p.1.map kV))/\RelV p.2 q.2.2) kvs xs /\
   ∃ o es ep,h.get? a=some o/\o.ExactDict/\o.data=.dict es ep/\es.toList=xs.map (entryOfKey (tupleKind (bX P w)))/\(xs.map (·.1)).Nodup
 | .dN K kvs=>kvs.length<=sizeLine/\(a==sysModules)=false/\∃ xs:List (List PyData×Addr×Value),
   Paired (fun(p:List PyData×V) (q:List PyData×Addr×Value)=>p.1=q.1/\(isKs p.1=true/\PyData.depthAll p.1<=6/\NKV K H (.tuple p.1) (.ref q.2.1))/\RelV p.2 q.2.2) kvs xs /\
   ∃ o es ep,h.get? a=some o/\o.ExactDict/\o.data=.dict es ep/\es.toList=xs.map (entryOfKey (iH P w))/\(xs.map (·.1)).Nodup
 | .set S n=>h.SetOf (intKind P w) a S n
 | .ins C dx fs=>H dx=some (.own a)/\fs.length<=1000/\dx≠a/\h.get? a=some (PySem.W.instObj C dx) /\
   ∃ mA,h.Ns1 dx mA/\(∀ f,RelO (fs.lookup f) (mA f))/\PySem.Within mA (fs.map (·.1))
 | .own _=>∃ o,h.get? a=some o
 | .xd fs=>∃ mA,h.Ns1 a mA/\∀ f,RelO (fs.lookup f) (mA f)
 | .rng lo hi=>∃ t u v,h.get? a=some {cls:=.type "range",data:=.fields #[.int lo t,.int hi u,.int 1 v]}
 | .frz o u=>h.get? a=some o/\ObjOk H h a u
 | .tbl ps=>h.get? a=some {cls:=.none,data:=.fields ps}
 | .met f x=>h.get? a=some (PySem.W.methodObj (.ref f) (.ref x))
 | .ext φ=>φ h/\(∃ o,h.get? a=some o)/\∀ h1 h2:Heap,φ h1->(∀ o,h1.get? a=some o->h2.get? a=some o)->φ h2
def HOk(H:Hp)(h:Heap):Prop:=∀ a o,H a=some o->ObjOk P w H h a o
end
section
variable {P:Program}{w:World}{H H':Hp}{h h':Heap}{a:Addr}{o:HO}
theorem ObjOk.lt(x:ObjOk P w H h a o):a<h.objs.size:=by
 cases o with
 | lst xs=>obtain⟨_,_,_,_,e⟩:=x;exact ag e
 | tup xs=>obtain⟨_,_,_,p⟩:=x;exact p.lt
 | dK kvs=>obtain⟨_,_,_,_,o,_,_,e,_⟩:=x;exact ag e
 | dT kvs=>obtain⟨_,_,_,_,o,_,_,e,_⟩:=x;exact ag e
 | dN K kvs=>obtain⟨_,_,_,_,o,_,_,e,_⟩:=x;exact ag e
 | set S n=>obtain⟨o,_,_,_,e,_⟩:=x;exact ag e
 | ins C dx fs=>obtain⟨_,_,_,e,_⟩:=x;exact ag e
 | own y=>obtain⟨_,e⟩:=x;exact ag e
 | xd fs=>obtain⟨_,⟨_,_,_,e,_⟩,_⟩:=x;exact ag e
 | rng lo hi=>obtain⟨_,_,_,e⟩:=x;exact ag e
 | frz ob u=>obtain⟨e,_⟩:=x;exact ag e
 | tbl ps=>exact ag (show h.get? a=some _ from x)
 | met f y=>exact ag (show h.get? a=some _ from x)
 | ext φ=>obtain⟨_,⟨_,e⟩,_⟩:=x;exact ag e
theorem Paired.mapP{α β:Type}{F G:α->β->Prop}:∀ {l₁:List α} {l₂:List β},Paired F l₁ l₂->(∀ a b,F a b->G a b)->Paired G l₁ l₂
 | _,_,.nil,_=>.nil
 | _,_,.cons r t,f=>.cons (f _ _ r) (Paired.mapP t f)
theorem ObjOk.stay(x:ObjOk P w H h a o)(k:∀ b u,(b=a\/H b=some (.own a))->h.get? b=some u->h'.get? b=some u)
  (ho:∀ b,H b=some (.own a)->H' b=some (.own a)) (ht:∀ b xs,H b=some (.tup xs)->H' b=some (.tup xs)) (hf:∀ b ob u,H b=some (.frz ob u)->H' b=some (.frz ob u)):ObjOk P w H' h' a o:=by
 induction o with
 | lst xs=>obtain⟨z,its,n,r,e⟩:=x;exact⟨z,its,n,r,k _ _ (.inl rfl) e⟩
 | tup xs=>obtain⟨z,its,r,ob,e,c⟩:=x;exact⟨⟨z.1,z.2.keep fun _ e=>k _ _ (.inl rfl) e⟩,its,r,ob,k _ _ (.inl rfl) e,c⟩
 | dK kvs=>obtain⟨z,y,vs,r,ob,es,ep,e,c⟩:=x;exact⟨z,y,vs,r,ob,es,ep,k _ _ (.inl rfl) e,c⟩
 | dT kvs =>
  obtain⟨z,y,xs,r,ob,es,ep,e,c⟩:=x;exact⟨z,y,xs,Paired.mapP r fun p q z=>⟨z.1,ht _ _ z.2.1,z.2.2⟩,ob,es,ep,k _ _ (.inl rfl) e,c⟩
 | dN K kvs =>
  obtain⟨z,y,xs,r,ob,es,ep,e,c⟩:=x;exact⟨z,y,xs,Paired.mapP r fun p q z=>⟨z.1,⟨z.2.1.1,z.2.1.2.1,NKV.stay ht hf _ _ z.2.1.2.2⟩,z.2.2⟩,ob,es,ep,k _ _ (.inl rfl) e,c⟩
 | set S n=>obtain⟨ob,es,ep,t,e,c⟩:=x;exact⟨ob,es,ep,t,k _ _ (.inl rfl) e,c⟩
 | ins C dx fs =>
  obtain⟨d,z,ne,e,mA,⟨od,es,ep,e2,c⟩,r⟩:=x;exact⟨ho _ d,z,ne,k _ _ (.inl rfl) e,mA,⟨od,es,ep,k _ _ (.inr d) e2,c⟩,r⟩
 | own y=>obtain⟨ob,e⟩:=x;exact⟨ob,k _ _ (.inl rfl) e⟩
 | xd fs=>obtain⟨mA,⟨od,es,ep,e,c⟩,r⟩:=x;exact⟨mA,⟨od,es,ep,k _ _ (.inl rfl) e,c⟩,r⟩
 | rng lo hi=>obtain⟨t,u,v,e⟩:=x;exact⟨t,u,v,k _ _ (.inl rfl) e⟩
 | frz ob u ih=>obtain⟨e,q⟩:=x;exact⟨k _ _ (.inl rfl) e,ih q⟩
 | tbl ps =>
  have e:h.get? a=some {cls:=.none,data:=.fields ps}:=x
  show h'.get? a=some {cls:=.none,data:=.fields ps}
  exact k a _ (.inl rfl) e
 | met f y =>
  have e:h.get? a=some (PySem.W.methodObj (.ref f) (.ref y)):=x
  show h'.get? a=some (PySem.W.methodObj (.ref f) (.ref y))
  exact k a _ (.inl rfl) e
 | ext φ=>obtain⟨p,⟨o,e⟩,st⟩:=x;exact⟨st _ _ p fun o q=>k _ _ (.inl rfl) q,⟨o,k _ _ (.inl rfl) e⟩,st⟩
theorem HOk.lt(x:HOk P w H h)(e:H a=some o):a<h.objs.size:=(x a o e).lt
theorem HOk.fresh(x:HOk P w H h)(e:h.objs.size<=a):H a=none:=by
 cases q:H a with
 | none=>rfl
 | some u=>exact absurd (aj (x.lt q) e) (Nat.lt_irrefl _)
theorem HOk.kept(x:HOk P w H h)(k:∀ b u,h.get? b=some u->h'.get? b=some u):HOk P w H h':=fun a o e =>
 (x a o e).stay (fun b u _ q=>k b u q) (fun _ q=>q) (fun _ _ q=>q) fun _ _ _ q=>q
theorem HOk.laid(x:HOk P w H h)(k:∀ b u,h.get? b=some u->h'.get? b=some u)(hp:h.objs.size<=a)(new:ObjOk P w (upd H a o) h' a o):HOk P w (upd H a o) h':=fun b u e=>by
 have hn:=x.fresh hp
 by_cases hb:b=a
 ·subst hb;rw[cA]at e;cases e;exact new
 ·rw[bF hb]at e;exact(x b u e).stay (fun c v _ q=>k c v q) (fun c q=>by rw[bF (kN q hn)];exact q) (fun c xs q=>by rw[bF (kN q hn)];exact q) fun c ob u q=>by rw[bF (kN q hn)];exact q
end
def Rd(H:Hp)(a:Addr)(u:HO):Prop:=H a=some u\/∃ o,H a=some (.frz o u)
theorem Rd.of{H:Hp}{a:Addr}{u:HO}(h:H a=some u):Rd H a u:=.inl h
theorem Rd.ok{P:Program}{w:World}{H:Hp}{h:Heap}{a:Addr}{u:HO}(r:Rd H a u)(x:HOk P w H h):ObjOk P w H h a u:=by
 rcases r with r | ⟨o,r⟩
 ·exact x a u r
 ·obtain⟨_,q⟩:=x a _ r;exact q
def nX:Option HO->Prop
 | some (.lst _)=>True
 | some (.dK _)=>True
 | some (.dT _)=>True
 | some (.dN _ _)=>True
 | some (.set _ _)=>True
 | some (.ins _ _ _)=>True
 | some (.ext _)=>True
 | _=>False
section
variable {P:Program}{w:World}{H:Hp}{h h':Heap}{x e:Addr}{o':HO}
theorem HOk.write(ok:HOk P w H h)(mu:nX (H x))(he:e=x\/H e=some (.own x))(k:∀ b u,b≠e->h.get? b=some u->h'.get? b=some u)(heo:∃ u,h'.get? e=some u)
  (new:ObjOk P w (upd H x o') h' x o'):HOk P w (upd H x o') h':=fun b u q=>by
 have nown:∀ c y,H c=some (.own y)->c≠x:=fun c y r z=>by subst z;rw[r]at mu;exact mu
 have ntup:∀ c xs,H c=some (.tup xs)->c≠x:=fun c xs r z=>by subst z;rw[r]at mu;exact mu
 by_cases hb:b=x
 ·subst hb;rw[cA]at q;cases q;exact new
 ·rw[bF hb]at q
  by_cases hbe:b=e
  ·have q':H b=some (.own x):=by
    rcases he with z | z
    ·exact absurd (hbe.trans z) hb
    ·rw[hbe];exact z
   rw[q]at q';cases q';obtain⟨v,hv⟩:=heo;exact⟨v,by rw[hbe];exact hv⟩
  ·refine(ok b u q).stay (fun c v hc r=>k c v ?_ r) (fun c r=>by rw[bF (nown c b r)];exact r) (fun c xs r=>by rw[bF (ntup c xs r)];exact r) fun c ob u r=>by rw[bF (fun z=>by subst z;rw[r]at mu;exact mu)];exact r
   rcases hc with rfl | hc
   ·exact hbe
   ·rintro rfl;rcases he with z | z
    ·exact nown c b hc z
    ·rw[hc]at z;cases z;exact hb rfl
end
structure Un (fs ex:List Addr) (H H':Hp) (h h':Heap):Prop where
 keep:∀ b o,h.get? b=some o->H b=none->b∉fs->b∉ex->h'.get? b=some o
 slot:∀ b o,h.get? b=some o->H b=none->b∈fs->b∉ex->∃ sl,h'.get? b=some {o with slots:=sl}
 free:∀ b o,h.get? b=some o->H b=none->b∉ex->H' b=none
 there:∀ b o,h.get? b=some o->b∉ex->∃ o',h'.get? b=some o'
 tups:∀ b xs,H b=some (.tup xs)->H' b=some (.tup xs)
 frzs:∀ b o u,H b=some (.frz o u)->H' b=some (.frz o u)
 tbls:∀ b ps,H b=some (.tbl ps)->∃ more,H' b=some (.tbl (ps++more))
section
variable {fs fs' ex ex':List Addr}{H H1 H2:Hp}{h h1 h2 h':Heap}{a x e:Addr}{o:HO}
theorem Un.any(u:Un fs ex H H1 h h1){b:Addr}{ob:Obj}(q:h.get? b=some ob)(n:H b=none)(hx:b∉ex):∃ sl,h1.get? b=some {ob with slots:=sl}:=by
 by_cases hb:b∈fs
 ·exact u.slot b ob q n hb hx
 ·exact⟨ob.slots,u.keep b ob q n hb hx⟩
theorem Un.trans(a:Un fs ex H H1 h h1)(b:Un fs ex H1 H2 h1 h2):Un fs ex H H2 h h2 where
 keep:=fun c ob q n hc hx=>b.keep c ob (a.keep c ob q n hc hx) (a.free c ob q n hx) hc hx
 slot:=fun c ob q n hc hx=>by
  obtain⟨sl,e1⟩:=a.slot c ob q n hc hx;obtain⟨sl',e2⟩:=b.slot c _ e1 (a.free c ob q n hx) hc hx;exact⟨sl',e2⟩
 free:=fun c ob q n hx=>by
  obtain⟨o',e1⟩:=a.there c ob q hx;exact b.free c o' e1 (a.free c ob q n hx) hx
 there:=fun c ob q hx=>by
  obtain⟨o',e1⟩:=a.there c ob q hx;exact b.there c o' e1 hx
 tups:=fun c xs q=>b.tups c xs (a.tups c xs q)
 frzs:=fun c ob xs q=>b.frzs c ob xs (a.frzs c ob xs q)
 tbls:=fun c ps q=>by
  obtain⟨m1,e1⟩:=a.tbls c ps q;obtain⟨m2,e2⟩:=b.tbls c _ e1;exact⟨m1++m2,by rw[e2,Array.append_assoc]⟩
theorem Un.kept(k:∀ b u,h.get? b=some u->h'.get? b=some u):Un fs ex H H h h' :=
 ⟨fun b ob q _ _ _=>k b ob q,fun b ob q _ _ _=>⟨ob.slots,k b ob q⟩,fun _ _ _ n _=>n,fun b ob q _=>⟨ob,k b ob q⟩,fun _ _ q=>q,fun _ _ _ q=>q,fun _ ps q=>⟨#[],by rw[q];simp⟩⟩
theorem Un.refl:Un fs ex H H h h:=Un.kept fun _ _ q=>q
theorem Un.laid(k:∀ b u,h.get? b=some u->h'.get? b=some u)(hp:h.objs.size<=a)(hn:H a=none):Un fs ex H (upd H a o) h h' where
 keep:=fun b u q _ _ _=>k b u q
 slot:=fun b u q _ _ _=>⟨u.slots,k b u q⟩
 free:=fun b u q n _=>by rw[bF (ao (aj (ag q) hp))];exact n
 there:=fun b u q _=>⟨u,k b u q⟩
 tups:=fun b xs q=>by rw[bF (kN q hn)];exact q
 frzs:=fun b u xs q=>by rw[bF (kN q hn)];exact q
 tbls:=fun b ps q=>⟨#[],by rw[bF (kN q hn),q];simp⟩
theorem Un.write(mu:nX (H x))(he:e=x\/H e=some (.own x))(k:∀ b u,b≠e->h.get? b=some u->h'.get? b=some u)(heo:∃ u,h'.get? e=some u):Un fs ex H (upd H x o) h h':=by
 have hx:∀ b,H b=none->b≠x:=fun b n z=>by subst z;rw[n]at mu;exact mu
 have hb:∀ b,H b=none->b≠e:=fun b n z=>by
  subst z;rcases he with r | r
  ·exact hx b n r
  ·rw[n]at r;cases r
 have hm:∀ b u,H b=some u->¬ nX (some u)->b≠x:=fun b u q nm z=>by subst z;rw[q]at mu;exact nm mu
 refine⟨fun b u q n _ _=>k b u (hb b n) q,fun b u q n _ _=>⟨u.slots,k b u (hb b n) q⟩,fun b u q n _=>by rw[bF (hx b n)];exact n,fun b u q _=>?_,
  fun b xs q=>by rw[bF (hm b _ q fun z=>z)];exact q,fun b u xs q=>by rw[bF (hm b _ q fun z=>z)];exact q,fun b ps q=>⟨#[],by rw[bF (hm b _ q fun z=>z),q];simp⟩⟩
 by_cases hbe:b=e
 ·subst hbe;exact heo
 ·exact⟨u,k b u hbe q⟩
theorem Un.mono(u:Un fs ex H H1 h h1)(hs:∀ b∈fs,b∈fs')(hx:∀ b∈ex,b∈ex'):Un fs' ex' H H1 h h1 :=
 ⟨fun b ob q n hb he=>u.keep b ob q n (fun z=>hb (hs b z)) fun z=>he (hx b z),fun _ _ q n _ he=>u.any q n fun z=>he (hx _ z),fun b ob q n he=>u.free b ob q n fun z=>he (hx b z),fun b ob q he=>u.there b ob q fun z=>he (hx b z),u.tups,u.frzs,u.tbls⟩
end
def qP(h:Heap)(H:Hp):List Addr:=(List.range h.objs.size).filter fun a=>(H a).isSome
def jJ(h:Heap)(H:Hp):Heap:=PySem.W.hideAll h (qP h H)
theorem Vp(h:Heap)(H:Hp):(jJ h H).objs.size=h.objs.size:=PySem.W.hideAll_size _ _
theorem Yq{h:Heap}{H:Hp}{b:Addr}{o:Obj}(e:h.get? b=some o)(n:H b=none):(jJ h H).get? b=some o :=
 PySem.W.hideAll_get _ e fun hm=>by
  have q:(H b).isSome=true:=(List.mem_filter.mp hm).2
  rw[n]at q;simp at q
theorem W3{h:Heap}{H:Hp}{b:Addr}{o:Obj}(e:(jJ h H).get? b=some o):h.get? b=some o/\H b=none:=by
 have e':h.get? b=some o:=PySem.W.of_hideAll (qP h H) e
 refine⟨e',?_⟩
 cases q:H b with
 | none=>rfl
 | some x =>
  have hm:b∈qP h H:=List.mem_filter.mpr ⟨List.mem_range.mpr (ag e'),by simp[q]⟩
  have z:(jJ h H).get? b=none:=PySem.W.hideAll_none (qP h H) hm
  rw[z]at e;cases e
def G9(g h:Heap)(L:Addr):List (Addr×Obj):=(List.range h.objs.size).filterMap fun a=>if a=L\/(g.get? a).isSome=true then none else (h.get? a).map fun o=>(a,o)
def rest(g h:Heap)(L d:Addr):List (Addr×Obj):=(G9 g h L).filter fun p=>decide (p.1≠d)
structure Mod (K:ad) (mg:Str->Option Value) (base:Heap):Prop where
 kin:K.In base
 glob:base.Ns mainGlobals mg
 blt:∃ mb,base.Ns builtinsNs mb/\∀ x:Str,x≠"__name__"->mb x=bootBuiltins x
 nolimit:base.NoLimit
structure Cx where
 prog:Program
 w:World
 K:ad
 mg:Str->Option Value
 base:Heap
 A:Around
 N:List Str
 s₀:Shared
 H₀:Hp
 env:Env
 outer:List Env
 stack:List Env
 ex:List Addr
 fn:Str->Bool
 calm:Bool
 pn:List (Addr×Obj)
 xe:Value->Shared->Prop
def gJ(l:List Env):List Addr:=l.filterMap (·.frame)
abbrev Cx.fs(X:Cx):List Addr:=gJ X.outer
def gX(sc:Scope)(x:Str):Prop:=sc.names.lookup x=some .local\/sc.names.lookup x=some .cell\/sc.names.lookup x=some .free
def hU(sc:Scope)(x:Str):Prop:=sc.names.lookup x=some .local\/sc.names.lookup x=some .cell
def Y4(env:Env)(h:Heap)(m:Str->Option Value)(x:Str)(u:Value):Prop :=
 (env.kindOf x=some .local/\m x=some u)\/((env.kindOf x=some .cell\/env.kindOf x=some .free)/\∃ c,env.cells.lookup x=some c/\h.IsCell c (some u))
structure Cx.Ok (X:Cx):Prop where
 mod:Mod X.K X.mg X.base
 kind:X.env.scope.kind=.function
 glob:X.env.globals=mainGlobals
 blt:X.env.builtins=builtinsNs
 above:X.s₀.heap.objs.size<=X.env.locals
 inj:∀ x y c,X.env.cells.lookup x=some c->X.env.cells.lookup y=some c->x=y
 has:∀ x,(X.env.kindOf x=some .cell\/X.env.kindOf x=some .free)->∃ c,X.env.cells.lookup x=some c
 cab:∀ x c,X.fn x=true->X.env.cells.lookup x=some c->X.s₀.heap.objs.size<=c
 hd:X.calm=true->X.A.handled=none
 frames:X.A.frames=some X.stack
 stk:X.stack=X.outer\/(X.stack=X.env::X.outer/\X.env.frame=some X.env.locals)
 exf:∀ b∈X.ex,b≠X.env.locals/\∀ x c,X.env.cells.lookup x=some c->c≠b
 bs:∀ b o,X.base.get? b=some o->X.s₀.heap.get? b=some o/\X.H₀ b=none
 bsz:X.base.objs.size<=X.s₀.heap.objs.size
 noex:∀ b o,X.base.get? b=some o->b∉X.ex
 exfs:∀ b∈X.ex,b∉X.fs
 funs:X.s₀.heap.FunFrames X.base X.outer
 frf:∀ b∈X.fs,X.H₀ b=none
structure Inv (X:Cx) (pins:List (Addr×Obj)) (σ:List (Option V)) (H:Hp) (s:Shared):Prop where
 ok:X.Ok
 os:s.os=X.s₀.os
 bare:AllBare s.gens
 base:Un X.fs X.ex X.H₀ H X.s₀.heap s.heap
 loc:∃ m,s.heap.Ns X.env.locals m/\∀ (i:Nat) (x:Str) (v:V),X.N[i]?=some x->σ[i]?=some (some v)->gX X.env.scope x->∃ u,RelV v u/\Y4 X.env s.heap m x u
 cell:∀ x c,X.env.cells.lookup x=some c->∃ v,s.heap.IsCell c v
 free:H X.env.locals=none
 freeC:∀ x c,X.env.cells.lookup x=some c->H c=none
 pin:∀ p∈X.pn++pins,s.heap.get? p.1=some p.2/\H p.1=none/\p.1≠X.env.locals/\p.1∉X.fs/\∀ v,p.2.data≠.cell v
 hok:HOk X.prog X.w H s.heap
 len:σ.length=X.N.length
section
variable {X:Cx}{pins:List (Addr×Obj)}{σ:List (Option V)}{H H':Hp}{s:Shared}{h':Heap}
theorem Cx.Ok.nofr(ok:X.Ok){b:Addr}{o:Obj}(e:X.base.get? b=some o):b∉X.fs:=fun hb=>by
 have:=(ok.funs.mem hb).1
 rw[e]at this;cases this
theorem Inv.bs(I:Inv X pins σ H s):∀ b o,X.base.get? b=some o->s.heap.get? b=some o/\H b=none:=fun b o e =>
 ⟨I.base.keep b o (I.ok.bs b o e).1 (I.ok.bs b o e).2 (I.ok.nofr e) (I.ok.noex b o e),I.base.free b o (I.ok.bs b o e).1 (I.ok.bs b o e).2 (I.ok.noex b o e)⟩
theorem Inv.bk(I:Inv X pins σ H s):∀ b o,X.base.get? b=some o->s.heap.get? b=some o:=fun b o e=>(I.bs b o e).1
theorem Inv.mod(I:Inv X pins σ H s):Mod X.K X.mg X.base:=I.ok.mod
theorem Inv.kIn(I:Inv X pins σ H s):X.K.In s.heap:=I.ok.mod.kin.keeps I.bk
theorem Inv.nolimit(I:Inv X pins σ H s):s.heap.NoLimit:=I.ok.mod.nolimit.keeps I.bk
theorem Inv.fr(I:Inv X pins σ H s):∃ m,Fr X.base X.env.locals s.heap m :=
 let ⟨m,hn,_⟩:=I.loc
 ⟨m,hn,I.bk,Nat.le_trans I.ok.bsz I.ok.above⟩
theorem Inv.lt(I:Inv X pins σ H s):X.env.locals<s.heap.objs.size:=let ⟨_,hn,_⟩:=I.loc;hn.lt
theorem Inv.sz(I:Inv X pins σ H s):X.s₀.heap.objs.size<=s.heap.objs.size:=Nat.le_trans I.ok.above (Nat.le_of_lt I.lt)
theorem Inv.nofs(I:Inv X pins σ H s){a:Addr}(h:s.heap.objs.size<=a):a∉X.fs:=fun hb=>by
 obtain⟨_,o,ho,_⟩:=I.ok.funs.mem hb;exact absurd (aj (ag ho) (Nat.le_trans I.sz h)) (Nat.lt_irrefl _)
theorem Inv.cne(I:Inv X pins σ H s):∀ x c,X.env.cells.lookup x=some c->c≠X.env.locals:=fun x c e z=>by
 obtain⟨v,o,ho,hd⟩:=I.cell x c e;obtain⟨m,⟨o',es,ep,ho',hd',_⟩,_⟩:=I.loc;rw[z,ho']at ho;cases ho;rw[hd']at hd;cases hd
theorem Inv.funs(I:Inv X pins σ H s):s.heap.FunFrames X.base X.outer:=by
 have all:∀ (l:List Env),(∀ b∈gJ l,b∈X.fs)->X.s₀.heap.FunFrames X.base l->s.heap.FunFrames X.base l:=by
  intro l
  induction l with
  | nil=>intro _ _;trivial
  | cons env r ih =>
   intro hs hl;obtain⟨hk,⟨L,o,hf,hn,ho,hd⟩,hr⟩:=hl;have hL:L∈X.fs:=hs L (by unfold gJ;rw[List.filterMap_cons,hf];exact List.mem_cons_self)
   obtain⟨sl,e⟩:=I.base.slot L o ho (I.ok.frf L hL) hL fun z=>I.ok.exfs L z hL;exact⟨hk,⟨L,_,hf,hn,e,hd⟩,ih (fun b hb=>hs b (by unfold gJ;rw[List.filterMap_cons,hf];exact aq _ hb)) hr⟩
 exact all X.outer (fun _ hb=>hb) I.ok.funs
theorem Inv.stack(I:Inv X pins σ H s):s.heap.FunFrames X.base X.stack:=by
 rcases I.ok.stk with e | ⟨e,hf⟩
 ·rw[e];exact I.funs
 ·rw[e];obtain⟨m,hn,_⟩:=I.loc;refine .cons (by rw[I.ok.kind];decide) hf hn ?_ I.funs
  exact Heap.get?_none_of_le (Nat.le_trans I.ok.bsz I.ok.above)
theorem Inv.stkSub(I:Inv X pins σ H s):∀ b∈gJ X.stack,b∈X.env.locals::X.fs:=fun b hb=>by
 rcases I.ok.stk with e | ⟨e,hf⟩
 ·rw[e]at hb;exact aq _ hb
 ·rw[e]at hb;unfold gJ at hb;rw[List.filterMap_cons,hf]at hb;exact hb
theorem Inv.stkFree(I:Inv X pins σ H s):∀ b∈gJ X.stack,H b=none:=fun b hb=>by
 rcases List.mem_cons.mp (I.stkSub b hb) with e | hb
 ·rw[e];exact I.free
 ·obtain⟨_,o,ho,_⟩:=I.ok.funs.mem hb;exact I.base.free b o ho (I.ok.frf b hb) fun z=>I.ok.exfs b z hb
theorem Inv.step{g':Array GenState}{t':Nat}{d':Drawn}{ch:List Addr}(I:Inv X pins σ H s)
  (hch:∀ b∈ch,(b∈X.ex\/X.s₀.heap.objs.size<=b)/\b≠X.env.locals/\(∀ x c,X.env.cells.lookup x=some c->c≠b)/\∀ p∈X.pn++pins,p.1≠b)
  (keep:∀ b o,b≠X.env.locals->b∉X.fs->b∉ch->s.heap.get? b=some o->H b=none->h'.get? b=some o)
  (slot:∀ b o,b≠X.env.locals->b∈X.fs->b∉ch->s.heap.get? b=some o->H b=none->∃ sl,h'.get? b=some {o with slots:=sl}) (free:∀ b o,b∉ch->s.heap.get? b=some o->H b=none->H' b=none)
  (there:∀ b o,b∉ch->s.heap.get? b=some o->∃ o',h'.get? b=some o')
  (tups:∀ b xs,H b=some (.tup xs)->H' b=some (.tup xs)) (frzs:∀ b o u,H b=some (.frz o u)->H' b=some (.frz o u)) (tbls:∀ b ps,H b=some (.tbl ps)->∃ more,H' b=some (.tbl (ps++more)))
  (ns:∀ m,s.heap.Ns X.env.locals m->h'.Ns X.env.locals m) (hok:HOk X.prog X.w H' h') (hg:AllBare g') :
  Inv X pins σ H' {s with heap:=h',gens:=g',drawn:=d',toks:=t'}:=by
 have neL:∀ b o,X.s₀.heap.get? b=some o->b≠X.env.locals:=fun b o e=>ao (aj (ag e) I.ok.above)
 have neC:∀ b o,X.s₀.heap.get? b=some o->b∉X.ex->b∉ch:=fun b o e hx hb=>by
  rcases (hch b hb).1 with z | z
  ·exact hx z
  ·exact absurd (aj (ag e) z) (Nat.lt_irrefl _)
 have cellK:∀ x c,X.env.cells.lookup x=some c->∀ v,s.heap.IsCell c v->h'.IsCell c v:=fun x c e v ⟨o,ho,hd⟩=>by
  have nch:c∉ch:=fun z=>(hch c z).2.2.1 x c e rfl
  by_cases hc:c∈X.fs
  ·obtain⟨sl,q⟩:=slot c o (I.cne x c e) hc nch ho (I.freeC x c e);exact⟨_,q,hd⟩
  ·exact⟨o,keep c o (I.cne x c e) hc nch ho (I.freeC x c e),hd⟩
 refine⟨I.ok,I.os,hg,⟨fun b o e n hb hx=>?_,fun b o e n hb hx=>?_,fun b o e n hx=>?_,fun b o e hx=>?_,fun b xs e=>tups b xs (I.base.tups b xs e),fun b o xs e=>frzs b o xs (I.base.frzs b o xs e),fun b ps e=>?_⟩,?_,fun x c e=>?_,?_,fun x c e=>?_,fun p hp=>?_,hok,I.len⟩
 ·exact keep b o (neL b o e) hb (neC b o e hx) (I.base.keep b o e n hb hx) (I.base.free b o e n hx)
 ·obtain⟨sl,e1⟩:=I.base.slot b o e n hb hx;obtain⟨sl',e2⟩:=slot b _ (neL b o e) hb (neC b o e hx) e1 (I.base.free b o e n hx);exact⟨sl',e2⟩
 ·obtain⟨o',e1⟩:=I.base.there b o e hx;exact free b o' (neC b o e hx) e1 (I.base.free b o e n hx)
 ·obtain⟨o',e1⟩:=I.base.there b o e hx;exact there b o' (neC b o e hx) e1
 ·obtain⟨m1,e1⟩:=I.base.tbls b ps e;obtain⟨m2,e2⟩:=tbls b _ e1;exact⟨m1++m2,by rw[e2,Array.append_assoc]⟩
 ·obtain⟨m,hn,hl⟩:=I.loc;refine⟨m,ns m hn,fun i x v e1 e2 e3=>?_⟩;obtain⟨u,r,l⟩:=hl i x v e1 e2 e3;refine⟨u,r,?_⟩;rcases l with l | ⟨k,c,e,z⟩
  ·exact .inl l
  ·exact .inr ⟨k,c,e,cellK x c e _ z⟩
 ·obtain⟨v,z⟩:=I.cell x c e;exact⟨v,cellK x c e v z⟩
 ·obtain⟨m,⟨o,_,_,ho,_⟩,_⟩:=I.loc;exact free _ o (fun z=>(hch _ z).2.1 rfl) ho I.free
 ·obtain⟨v,o,ho,hd⟩:=I.cell x c e;exact free c o (fun z=>(hch c z).2.2.1 x c e rfl) ho (I.freeC x c e)
 ·obtain⟨e,n,ne,nf,d⟩:=I.pin p hp;have nch:p.1∉ch:=fun z=>(hch p.1 z).2.2.2 p hp rfl
  exact⟨keep p.1 p.2 ne nf nch e n,free p.1 p.2 nch e n,ne,nf,d⟩
theorem Inv.un{t':Nat}(I:Inv X pins σ H s)(u:Un X.fs [] H H' s.heap h')(hok:HOk X.prog X.w H' h'):Inv X pins σ H' {s with heap:=h',toks:=t'}:=by
 obtain⟨m,⟨o,es,ep,ho,r⟩,_⟩:=id I.loc;obtain⟨sl,hL⟩:=u.any ho I.free #[2]
 exact I.step (g':=s.gens) (d':=s.drawn) (ch:=[]) (fun _ z=>nomatch z) (fun b o _ hb _ e n=>u.keep b o e n hb #[2]) (fun b o _ hb _ e n=>u.slot b o e n hb #[2]) (fun b o _ e n=>u.free b o e n #[2]) (fun b o _ e=>u.there b o e #[2]) u.tups u.frzs u.tbls (fun m' hm=>by
  obtain⟨o',es',ep',ho',r'⟩:=hm;rw[ho]at ho';cases ho';exact⟨_,es',ep',hL,r'⟩) hok I.bare
theorem Inv.call{g':Array GenState}{t':Nat}{d':Drawn}{ch:List Addr}(I:Inv X pins σ H s)(u:Un (gJ X.stack) ch H H' s.heap h')(hok:HOk X.prog X.w H' h')(hg:AllBare g')
  (hch:∀ b∈ch,(b∈X.ex\/X.s₀.heap.objs.size<=b)/\b≠X.env.locals/\(∀ x c,X.env.cells.lookup x=some c->c≠b)/\∀ p∈X.pn++pins,p.1≠b) :
  Inv X pins σ H' {s with heap:=h',gens:=g',drawn:=d',toks:=t'}:=by
 obtain⟨m,⟨o,es,ep,ho,r⟩,_⟩:=id I.loc;obtain⟨sl,hL⟩:=u.any ho I.free fun z=>(hch _ z).2.1 rfl;exact I.step (ch:=ch) hch (fun b o hL hb hc e n=>u.keep b o e n (fun z=>(List.mem_cons.mp (I.stkSub b z)).elim hL hb) hc) (fun b o _ _ hc e n=>u.any e n hc) (fun b o hc e n=>u.free b o e n hc) (fun b o hc e=>u.there b o e hc) u.tups u.frzs u.tbls (fun m' hm=>by
  obtain⟨o',es',ep',ho',r'⟩:=hm;rw[ho]at ho';cases ho';exact⟨_,es',ep',hL,r'⟩) hok hg
theorem Inv.turned{t':Nat}{it:Addr}(I:Inv X pins σ H s)(k:∀ b o,b≠it->s.heap.get? b=some o->h'.get? b=some o)(hn:H it=none)(hL:it≠X.env.locals)
  (h1:it∈X.ex\/X.s₀.heap.objs.size<=it) (h2:∀ x c,X.env.cells.lookup x=some c->c≠it) (h3:∀ p∈X.pn++pins,p.1≠it):Inv X pins σ H {s with heap:=h',toks:=t'}:=by
 have nit:∀ b u,H b=some u->b≠it:=fun b u e z=>by rw[z,hn]at e;cases e
 refine I.step (g':=s.gens) (d':=s.drawn) (ch:=[it]) (fun b hb=>?_) (fun b o _ _ hc e _=>k b o (fun z=>hc (by simp[z])) e) (fun b o _ _ hc e _=>⟨o.slots,k b o (fun z=>hc (by simp[z])) e⟩) (fun _ _ _ _ n=>n)
  (fun b o hc e=>⟨o,k b o (fun z=>hc (by simp[z])) e⟩) (fun _ _ e=>e) (fun _ _ _ e=>e) (fun b ps e=>⟨#[],by rw[e];simp⟩) (fun m hm=>?_) (fun b u e=>?_) I.bare
 ·have e:b=it:=by simpa using hb
  subst e;exact⟨h1,hL,h2,h3⟩
 ·obtain⟨o,es,ep,ho,r⟩:=hm;exact⟨o,es,ep,k _ o (Ne.symm hL) ho,r⟩
 ·refine(I.hok b u e).stay (fun c v hc q=>k c v ?_ q) (fun _ q=>q) (fun _ _ q=>q) fun _ _ _ q=>q;rcases hc with z | z
  ·rw[z];exact nit b u e
  ·exact nit c _ z
theorem Inv.tok(I:Inv X pins σ H s)(t:Nat):Inv X pins σ H {s with toks:=t}:=I.un (h':=s.heap) (t':=t) Un.refl I.hok
theorem Inv.kept{t':Nat}(I:Inv X pins σ H s)(k:∀ b u,s.heap.get? b=some u->h'.get? b=some u):Inv X pins σ H {s with heap:=h',toks:=t'}:=I.un (Un.kept k) (I.hok.kept k)
theorem Inv.laid{a:Addr}{o:HO}{t':Nat}(I:Inv X pins σ H s)(k:∀ b u,s.heap.get? b=some u->h'.get? b=some u)(hp:s.heap.objs.size<=a)(new:ObjOk X.prog X.w (upd H a o) h' a o) :
  Inv X pins σ (upd H a o) {s with heap:=h',toks:=t'}:=I.un (Un.laid k hp (I.hok.fresh hp)) (I.hok.laid k hp new)
theorem Inv.write{x e:Addr}{o:HO}{t':Nat}(I:Inv X pins σ H s)(mu:nX (H x))(he:e=x\/H e=some (.own x))(k:∀ b u,b≠e->s.heap.get? b=some u->h'.get? b=some u)(heo:∃ u,h'.get? e=some u)
  (new:ObjOk X.prog X.w (upd H x o) h' x o):Inv X pins σ (upd H x o) {s with heap:=h',toks:=t'}:=I.un (Un.write mu he k heo) (I.hok.write mu he k heo new)
theorem Inv.pins_of{pins':List (Addr×Obj)}(I:Inv X pins σ H s)(h:∀ p∈pins',s.heap.get? p.1=some p.2/\H p.1=none/\p.1≠X.env.locals/\p.1∉X.fs/\∀ v,p.2.data≠.cell v):Inv X pins' σ H s :=
 ⟨I.ok,I.os,I.bare,I.base,I.loc,I.cell,I.free,I.freeC,fun p hp=>(List.mem_append.mp hp).elim (fun z=>I.pin p (List.mem_append_left _ z)) (h p),I.hok,I.len⟩
theorem Mv{N:List Str}(hN:N.Nodup){i j:Nat}{x:Str}(a:N[i]?=some x)(b:N[j]?=some x):i=j:=by
 obtain⟨h1,e1⟩:=List.getElem?_eq_some_iff.mp a;obtain⟨h2,e2⟩:=List.getElem?_eq_some_iff.mp b;exact(List.getElem_inj hN).mp (e1.trans e2.symm)
theorem Hl{M:Model}{A:Around}{E:Value->Shared->Prop}{i:Nat}{x:Str}{v:V}{u:Value}{Q:Unit->Shared->Prop}(I:Inv X pins σ H s)(hN:X.N.Nodup)(hi:X.N[i]?=some x)(hx:hU X.env.scope x)(r:RelV v u)
  (h:∀ s',Inv X pins (σ.set i (some v)) H s'->(∃ a,Heap.SameBut a s.heap s'.heap/\(a=X.env.locals\/X.env.cells.lookup x=some a))->Q () s') (hf:X.fn x=true\/X.env.scope.names.lookup x=some .local:=by first | exact .inl rfl | exact .inr rfl | assumption):wpAny M A (storeName X.env x u) Q E s:=by
 obtain⟨m,hn,hl⟩:=id I.loc;have hcls:(X.env.scope.kind==.class||(X.env.scope.kind==.module&&X.env.locals != X.env.globals))=false:=by rw[I.ok.kind];rfl
 have hiσ:i<σ.length:=by rw[I.len];exact(List.getElem?_eq_some_iff.mp hi).1
 have cne:=I.cne
 have tracked:∀ {a:Addr} {h':Heap},(∃ o,s.heap.get? a=some o/\H a=none)->Heap.SameBut a s.heap h'->HOk X.prog X.w H h':=fun {a h'} ha hs b ob e=>by
  obtain⟨_,_,hfree⟩:=ha;refine(I.hok b ob e).stay (fun c w' hc q=>(hs.2 c ?_).trans q) (fun _ q=>q) (fun _ _ q=>q) fun _ _ _ q=>q;rintro rfl;rcases hc with rfl | hc
  ·rw[hfree]at e;cases e
  ·rw[hfree]at hc;cases hc
 rcases hx with hk | hk
 ·refine wpAny_storeName_local hk hn (fun h' hn' hs=>?_) hcls;obtain⟨oL,_,_,hoL,_⟩:=id hn;refine h _ ⟨I.ok,I.os,I.bare,⟨fun b o e n hb hx=>?_,fun b o e n hb hx=>?_,I.base.free,fun b o e hx=>?_,I.base.tups,I.base.frzs,I.base.tbls⟩,⟨_,hn',fun j y v' e1 e2 e3=>?_⟩,fun y c e=>?_,I.free,I.freeC,fun p hp=>?_,tracked ⟨oL,hoL,I.free⟩ hs,by simpa using I.len⟩ ⟨_,hs,.inl rfl⟩
  ·exact(hs.2 b (ao (aj (ag e) I.ok.above))).trans (I.base.keep b o e n hb hx)
  ·obtain⟨sl,e1⟩:=I.base.slot b o e n hb hx;exact⟨sl,(hs.2 b (ao (aj (ag e) I.ok.above))).trans e1⟩
  ·obtain⟨o',e1⟩:=I.base.there b o e hx;exact⟨o',(hs.2 b (ao (aj (ag e) I.ok.above))).trans e1⟩
  ·by_cases hj:j=i
   ·subst hj;rw[hi]at e1;cases e1;rw[List.getElem?_set_self hiσ]at e2
    cases e2
    exact⟨u,r,.inl ⟨hk,by simp⟩⟩
   ·rw[List.getElem?_set_ne (Ne.symm hj)]at e2;obtain⟨u',r',q⟩:=hl j y v' e1 e2 e3;refine⟨u',r',?_⟩;rcases q with⟨k,e⟩ | ⟨k,c,e,z⟩
    ·refine .inl ⟨k,?_⟩;have:y≠x:=fun e=>hj (Mv hN e1 (e▸hi))
     simp[this,e]
    ·exact .inr ⟨k,c,e,z.sameBut hs (cne y c e)⟩
  ·obtain⟨w',z⟩:=I.cell y c e;exact⟨w',z.sameBut hs (cne y c e)⟩
  ·obtain⟨e,n,ne,nf,d⟩:=I.pin p hp;exact⟨(hs.2 p.1 ne).trans e,n,ne,nf,d⟩
 ·have hfn:X.fn x=true:=by
   rcases hf with z | z
   ·exact z
   ·rw[z]at hk;cases hk
  obtain⟨c,hc⟩:=I.ok.has x (.inl hk);obtain⟨w',z⟩:=I.cell x c hc;refine wpAny_storeName_cell I.ok.kind hk hc z (fun h' hc' hs=>?_);obtain⟨oc,hoc,hocd⟩:=id z;refine h {s with heap:=h'} ⟨I.ok,I.os,I.bare,⟨fun b o e n hb hx=>?_,fun b o e n hb hx=>?_,I.base.free,fun b o e hx=>?_,I.base.tups,I.base.frzs,I.base.tbls⟩,⟨m,hn.sameBut hs (Ne.symm (cne x c hc)),fun j y v' e1 e2 e3=>?_⟩,fun y c' e=>?_,I.free,I.freeC,fun p hp=>?_,tracked ⟨oc,hoc,I.freeC x c hc⟩ hs,by simpa using I.len⟩ ⟨c,hs,.inr hc⟩
  ·exact(hs.2 b (ao (aj (ag e) (I.ok.cab x c hfn hc)))).trans (I.base.keep b o e n hb hx)
  ·obtain⟨sl,e1⟩:=I.base.slot b o e n hb hx;exact⟨sl,(hs.2 b (ao (aj (ag e) (I.ok.cab x c hfn hc)))).trans e1⟩
  ·obtain⟨o',e1⟩:=I.base.there b o e hx;exact⟨o',(hs.2 b (ao (aj (ag e) (I.ok.cab x c hfn hc)))).trans e1⟩
  ·by_cases hj:j=i
   ·subst hj;rw[hi]at e1;cases e1;rw[List.getElem?_set_self hiσ]at e2
    cases e2
    exact⟨u,r,.inr ⟨.inl hk,c,hc,hc'⟩⟩
   ·rw[List.getElem?_set_ne (Ne.symm hj)]at e2;obtain⟨u',r',q⟩:=hl j y v' e1 e2 e3;refine⟨u',r',?_⟩;rcases q with q | ⟨k,c',e,z'⟩
    ·exact .inl q
    ·refine .inr ⟨k,c',e,z'.sameBut hs ?_⟩;rintro rfl;exact hj (Mv hN e1 (I.ok.inj _ _ _ e hc▸hi))
  ·by_cases hcc:c'=c
   ·subst hcc;exact⟨_,hc'⟩
   ·obtain⟨w2,z2⟩:=I.cell y c' e;exact⟨w2,z2.sameBut hs hcc⟩
  ·obtain⟨e,n,ne,nf,d⟩:=I.pin p hp;refine⟨(hs.2 p.1 ?_).trans e,n,ne,nf,d⟩;intro q;rw[q,hoc]at e;have q':oc=p.2:=Option.some.inj e
   exact d w' (by rw[<- q'];exact hocd)
theorem qF{M:Model}{A:Around}{E:Value->Shared->Prop}{i:Nat}{x:Str}{v:V}{u:Value}{Q:Unit->Shared->Prop}(I:Inv X pins σ H s)(hN:X.N.Nodup)(hi:X.N[i]?=some x)(hx:hU X.env.scope x)(r:RelV v u)
  (h:∀ s',Inv X pins (σ.set i (some v)) H s'->Q () s') (hf:X.fn x=true\/X.env.scope.names.lookup x=some .local:=by first | exact .inl rfl | exact .inr rfl | assumption):wpAny M A (storeName X.env x u) Q E s :=
 Hl I hN hi hx r (fun s' I' _=>h s' I') hf
theorem Inv.call'{s':Shared}{ch:List Addr}(I:Inv X pins σ H s)(ho:s'.os=s.os)(u:Un (gJ X.stack) ch H H' s.heap s'.heap)(hok:HOk X.prog X.w H' s'.heap)(hg:AllBare s'.gens)
  (hch:∀ b∈ch,(b∈X.ex\/X.s₀.heap.objs.size<=b)/\b≠X.env.locals/\(∀ x c,X.env.cells.lookup x=some c->c≠b)/\∀ p∈X.pn++pins,p.1≠b):Inv X pins σ H' s':=by
 obtain⟨h',g',d',t',o'⟩:=s';have e:o'=s.os:=ho
 subst e;exact I.call (g':=g') (t':=t') (d':=d') u hok hg hch
end
abbrev XK:=Value->Option Addr->Hp->Prop
abbrev St:=List (Option V)
abbrev VK:=V->Hp->Prop
abbrev TE:=St->Hp->VK->Prop
abbrev TT:=St->Hp->(Bool->Hp->Prop)->Prop
abbrev TA:=St->Hp->(List V->Hp->Prop)->Prop
structure Ends where
 nx:St->Hp->Prop
 rt:VK
 bk:St->Hp->Prop:=fun _ _=>False
 ct:St->Hp->Prop:=fun _ _=>False
abbrev TS:=Ends->St->Hp->Prop
def EP(X:Cx)(pins:List (Addr×Obj))(σ:St)(Q:VK)(u:Value)(s':Shared):Prop:=∃ v H',Inv X pins σ H' s'/\RelV v u/\Q v H'
def TP(X:Cx)(pins:List (Addr×Obj))(σ:St)(Q:Bool->Hp->Prop)(b:Bool)(s':Shared):Prop:=∃ H',Inv X pins σ H' s'/\Q b H'
def AP(X:Cx)(pins:List (Addr×Obj))(σ:St)(Q:List V->Hp->Prop)(us:List Value)(s':Shared):Prop:=∃ vs H',Inv X pins σ H' s'/\Vals vs us/\Q vs H'
def SP(X:Cx)(pins:List (Addr×Obj))(D:Ends)(f:Flow)(s':Shared):Prop :=
 match f with
 | .next=>∃ σ' H',Inv X pins σ' H' s'/\D.nx σ' H'
 | .brk=>∃ σ' H',Inv X pins σ' H' s'/\D.bk σ' H'
 | .cont=>∃ σ' H',Inv X pins σ' H' s'/\D.ct σ' H'
 | .ret u=>∃ v σ' H',Inv X pins σ' H' s'/\RelV v u/\D.rt v H'
def PE(X:Cx)(e:Expr)(t:TE):Prop :=
 ∀ (pins:List (Addr×Obj)) (s:Shared) (σ:St) (H:Hp) (Q:VK),Inv X pins σ H s->t σ H Q->wpAny (model X.prog X.w) X.A (eval e X.env) (EP X pins σ Q) X.xe s
def PT(X:Cx)(e:Expr)(t:TT):Prop :=
 ∀ (pins:List (Addr×Obj)) (s:Shared) (σ:St) (H:Hp) (Q:Bool->Hp->Prop),Inv X pins σ H s->t σ H Q->wpAny (model X.prog X.w) X.A (isTrue e X.env (eval e X.env)) (TP X pins σ Q) X.xe s
def PW(X:Cx)(e:Expr)(t:TT):Prop :=
 ∀ (whole:Sem Value) (pins:List (Addr×Obj)) (s:Shared) (σ:St) (H:Hp) (Q:Bool->Hp->Prop),Inv X pins σ H s->t σ H Q->wpAny (model X.prog X.w) X.A (isTrue e X.env whole) (TP X pins σ Q) X.xe s
theorem PW.pt{X:Cx}{e:Expr}{t:TT}(h:PW X e t):PT X e t:=h _
def PA(X:Cx)(es:List Expr)(t:TA):Prop :=
 ∀ (pos:Pos) (pins:List (Addr×Obj)) (s:Shared) (σ:St) (H:Hp) (Q:List V->Hp->Prop),Inv X pins σ H s->t σ H Q->wpAny (model X.prog X.w) X.A (spliced (backTo pos (starEach es X.env))) (AP X pins σ Q) X.xe s
def PS(X:Cx)(st:Stmt)(t:TS):Prop :=
 ∀ (pins:List (Addr×Obj)) (s:Shared) (σ:St) (H:Hp) (D:Ends),Inv X pins σ H s->t D σ H->wpAny (model X.prog X.w) X.A (exec st X.env) (SP X pins D) X.xe s
def PSs(X:Cx)(st:List Stmt)(t:TS):Prop :=
 ∀ (pins:List (Addr×Obj)) (s:Shared) (σ:St) (H:Hp) (D:Ends),Inv X pins σ H s->t D σ H->wpAny (model X.prog X.w) X.A (execs st X.env) (SP X pins D) X.xe s
theorem aS{α:Type}{t:Sem α}{Q Q':α->Shared->Prop}{M:Model}{A:Around}{E:Value->Shared->Prop}{s:Shared}(h:wpAny M A t Q E s)(hQ:∀ a s,Q a s->Q' a s):wpAny M A t Q' E s:=wpAny_mono h hQ fun _ _ x=>x
section
variable {X:Cx}
def Pn(i:Nat):TE:=fun σ H Q=>∃ v,σ[i]?=some (some v)/\Q v H
def tC(v:V):TE:=fun _ H Q=>Q v H
theorem Ir{i:Nat}{x:Str}{pos:Pos}(hN:X.N[i]?=some x)(hv:gX X.env.scope x)(hd:(x==("__debug__" : Str))=false:=by decide)(hcd:(x==("__classdict__" : Str))=false:=by decide):PE X (.Name x pos) (Pn i):=by
 intro pins s σ H Q I h;obtain⟨v,e,h⟩:=h;obtain⟨m,hn,hl⟩:=I.loc;obtain⟨u,r,l⟩:=hl i x v hN e hv;have fin:EP X pins σ Q u s:=⟨v,H,I,r,h⟩
 rcases l with⟨hk,hm⟩ | ⟨hk,c,hc,hcell⟩
 ·exact wpAny_Name (wpAny_loadName_local I.ok.kind hk hn hm fin) hd
 ·rcases hk with hk | hk
  ·exact wpAny_Name (wpAny_loadName_cell I.ok.kind hk hc hcell fin) hd
  ·exact wpAny_Name (wpAny_loadName_free I.ok.kind hk hc hcell fin hcd) hd
theorem BZ{i j pos}:PE X (.Constant (.int i) j pos) (tC (.int i)):=fun _ _ _ H _ I h=>wpAny_Constant_int ⟨.int i,H,I.tok _,⟨_,rfl⟩,h⟩
theorem Sr{b j pos}:PE X (.Constant (.bool b) j pos) (tC (.bl b)):=fun _ _ _ H _ I h=>Constant_bool ⟨.bl b,H,I,rfl,h⟩
theorem Yp{j pos}:PE X (.Constant .none j pos) (tC .non):=fun _ _ _ H _ I h=>Constant_none ⟨.non,H,I,rfl,h⟩
theorem Tn{x j pos}:PE X (.Constant (.str x) j pos) (tC (.str x)):=fun _ _ _ H _ I h=>Calls.Constant_str ⟨.str x,H,I.tok _,⟨_,rfl⟩,h⟩
def Gl(X:Cx)(x:Str):Prop:=X.env.kindOf x=some .globalImplicit
theorem tH{E:Value->Shared->Prop}{pins:List (Addr×Obj)}{s:Shared}{σ:St}{H:Hp}{x:Str}{u:Value}{pos:Pos}{Q:Value->Shared->Prop}(I:Inv X pins σ H s)(hg:Gl X x)(hm:X.mg x=some u)(h:Q u s)
  (hd:(x==("__debug__" : Str))=false:=by decide):wpAny (model X.prog X.w) X.A (eval (.Name x pos) X.env) Q E s :=
 Calls.Name_function_global I.ok.kind hg (Calls.loadGlobal_global (by rw[I.ok.glob];exact I.mod.glob.keeps I.bk) hm h) hd
theorem gU{E:Value->Shared->Prop}{pins:List (Addr×Obj)}{s:Shared}{σ:St}{H:Hp}{x:Str}{u:Value}{pos:Pos}{Q:Value->Shared->Prop}(I:Inv X pins σ H s)(hg:Gl X x)(hm:X.mg x=none)(hv:bootBuiltins x=some u)(h:Q u s)
  (hn:x≠"__name__":=by decide) (hd:(x==("__debug__" : Str))=false:=by decide):wpAny (model X.prog X.w) X.A (eval (.Name x pos) X.env) Q E s:=by
 obtain⟨mb,h1,h2⟩:=I.mod.blt;exact Calls.Name_function_global I.ok.kind hg (Calls.loadGlobal_builtin (by rw[I.ok.glob];exact I.mod.glob.keeps I.bk) hm (by rw[I.ok.blt];exact h1.keeps I.bk) ((h2 x hn).trans hv) h) hd
theorem Ol{x:Str}{v:V}{u:Value}{pos:Pos}(hg:Gl X x)(hm:X.mg x=some u)(r:RelV v u)(hd:(x==("__debug__" : Str))=false:=by decide):PE X (.Name x pos) (tC v) :=
 fun _ _ _ H _ I h=>tH I hg hm ⟨v,H,I,r,h⟩ hd
variable {a b:Expr}{ta tb:TE}{pos:Pos}
def tB(t:TE):TT:=fun σ H Q=>t σ H fun x H1=>∃ c,x=.bl c/\Q c H1
theorem Xh{e:Expr}{t:TE}(h:PE X e t)(he:∀ whole,isTrue e X.env whole=(do let v <- whole;standAt e.pos;holding [v] (truthy v)):=by intro _;rfl):PT X e (tB t):=by
 intro pins s σ H Q I hw;refine isTrue_plain (aS (h pins s σ H _ I hw) fun v s1 ⟨x,H1,I1,r1,q1⟩=>?_) (he _);obtain⟨d,rfl,q⟩:=q1
 cases r1
 exact wpAny_truthy_bool ⟨H1,I1,q⟩
variable {tA tB':TT}{rest:List Expr}
def Z4(t u:TT):TT:=fun σ H Q=>t σ H fun c H1=>if c=true then u σ H1 Q else Q false H1
def N5(t u:TT):TT:=fun σ H Q=>t σ H fun c H1=>if c=true then Q true H1 else u σ H1 Q
theorem G3(ha:PT X a tA):PW X (.BoolOp .And [a] pos) tA:=by
 intro wh pins s σ H Q I h;refine isTrue_and (aS (ha pins s σ H Q I h) fun c s1 e=>?_)
 cases c with
 | true=>exact isTrue_and_nil e
 | false=>exact e
theorem Xs(ha:PT X a tA):PW X (.BoolOp .Or [a] pos) tA:=by
 intro wh pins s σ H Q I h;refine isTrue_or (aS (ha pins s σ H Q I h) fun c s1 e=>?_)
 cases c with
 | false=>exact isTrue_or_nil e
 | true=>exact e
theorem G6(ha:PT X a tA)(hb:PW X (.BoolOp .And (b::rest) pos) tB'):PW X (.BoolOp .And (a::b::rest) pos) (Z4 tA tB'):=by
 intro wh pins s σ H Q I h;refine isTrue_and (aS (ha pins s σ H _ I h) fun c s1 ⟨H1,I1,q1⟩=>?_)
 cases c with
 | true=>exact hb wh pins s1 σ H1 Q I1 q1
 | false=>exact⟨H1,I1,q1⟩
theorem f6(ha:PT X a tA)(hb:PW X (.BoolOp .Or (b::rest) pos) tB'):PW X (.BoolOp .Or (a::b::rest) pos) (N5 tA tB'):=by
 intro wh pins s σ H Q I h;refine isTrue_or (aS (ha pins s σ H _ I h) fun c s1 ⟨H1,I1,q1⟩=>?_)
 cases c with
 | true=>exact⟨H1,I1,q1⟩
 | false=>exact hb wh pins s1 σ H1 Q I1 q1
def X6(ta tb:TE):TE:=fun σ H Q=>ta σ H fun x H1=>∃ c,x=.bl c/\if c=true then tb σ H1 Q else Q (.bl false) H1
def Vl(ta tb:TE):TE:=fun σ H Q=>ta σ H fun x H1=>∃ c,x=.bl c/\if c=true then Q (.bl true) H1 else tb σ H1 Q
def Xe(ta:TE):TE:=fun σ H Q=>ta σ H fun x H1=>∃ c,x=.bl c/\Q (.bl (!c)) H1
theorem G2{op}{t:TE}(h:PE X a t):PE X (.BoolOp op [a] pos) t:=fun pins s σ H Q I hw=>BoolOp_one (h pins s σ H Q I hw)
theorem X3(ha:PE X a ta)(hb:PE X (.BoolOp .And (b::rest) pos) tb):PE X (.BoolOp .And (a::b::rest) pos) (X6 ta tb):=by
 intro pins s σ H Q I h;refine BoolOp_and (aS (ha pins s σ H _ I h) fun v s1 ⟨x,H1,I1,r1,q1⟩=>?_);obtain⟨c,rfl,q1⟩:=q1
 cases r1
 refine wpAny_truthy_bool ?_
 cases c with
 | true=>exact hb pins s1 σ H1 Q I1 q1
 | false=>exact⟨.bl false,H1,I1,rfl,q1⟩
theorem BA(ha:PE X a ta)(hb:PE X (.BoolOp .Or (b::rest) pos) tb):PE X (.BoolOp .Or (a::b::rest) pos) (Vl ta tb):=by
 intro pins s σ H Q I h;refine BoolOp_or (aS (ha pins s σ H _ I h) fun v s1 ⟨x,H1,I1,r1,q1⟩=>?_);obtain⟨c,rfl,q1⟩:=q1
 cases r1
 refine wpAny_truthy_bool ?_
 cases c with
 | false=>exact hb pins s1 σ H1 Q I1 q1
 | true=>exact⟨.bl true,H1,I1,rfl,q1⟩
theorem BD(ha:PE X a ta):PE X (.UnaryOp .Not a pos) (Xe ta):=by
 intro pins s σ H Q I h;refine UnaryOp_ (aS (ha pins s σ H _ I h) fun v s1 ⟨x,H1,I1,r1,q1⟩=>?_);obtain⟨c,rfl,q1⟩:=q1
 cases r1
 exact not_of (wpAny_truthy_bool ⟨.bl (!c),H1,I1,rfl,q1⟩)
def BF(t:TT)(ta tb:TE):TE:=fun σ H Q=>t σ H fun c H1=>if c=true then ta σ H1 Q else tb σ H1 Q
theorem C0{c:Expr}(hc:PT X c tA)(ha:PE X a ta)(hb:PE X b tb):PE X (.IfExp c a b pos) (BF tA ta tb):=by
 intro pins s σ H Q I h;refine wpAny_IfExp (aS (hc pins s σ H _ I h) fun d s1 ⟨H1,I1,q1⟩=>?_)
 cases d with
 | true=>exact ha pins s1 σ H1 Q I1 q1
 | false=>exact hb pins s1 σ H1 Q I1 q1
end
def SqL(K:ad)(H:Hp)(a:Addr)(xs:List V):Prop :=
 Rd H a (.lst xs) \/
  ∃ (o:Obj) (its:Array Value) (n:Nat),K.lookup a=some o/\o.cls=.type "list"/\o.dict=none/\o.data=.seq its n/\its.size<=sizeLine/\Vals xs its.toList
def SqT(K:ad)(H:Hp)(a:Addr)(xs:List V):Prop :=
 Rd H a (.tup xs) \/
  ∃ (o:Obj) (its:Array Value) (n:Nat),K.lookup a=some o/\(o.cls=.type "tuple"/\o.dict=none)/\o.data=.seq its n/\its.size<=sizeLine/\Vals xs its.toList
def Ti:Value->Option V
 | .none=>some .non
 | .bool b=>some (.bl b)
 | .int i _=>some (.int i)
 | .str x _=>some (.str x)
 | .bytes b _=>some (.byt b)
 | .float b _=>some (.flt b)
 | .ref a=>some (.ref a)
 | .type n=>some (.ty n)
 | _=>none
theorem RelV.abs{x:V}{u:Value}(r:RelV x u):Ti u=some x:=by
 cases x with
 | non=>cases r;rfl
 | bl _=>cases r;rfl
 | int _=>obtain⟨t,rfl⟩:=r;rfl
 | str _=>obtain⟨t,rfl⟩:=r;rfl
 | byt _=>obtain⟨t,rfl⟩:=r;rfl
 | flt _=>obtain⟨t,rfl⟩:=r;rfl
 | ref _=>cases r;rfl
 | ty _=>cases r;rfl
theorem RelV.inj{x y:V}{u:Value}(r:RelV x u)(q:RelV y u):x=y:=Option.some.inj (r.abs.symm.trans q.abs)
theorem Vals.inj:∀ {xs ys:List V} {us:List Value},Vals xs us->Vals ys us->xs=ys
 | _,_,_,.nil,.nil=>rfl
 | _,_,_,.cons r t,.cons r' t'=>by rw[r.inj r',Vals.inj t t']
section
variable {X:Cx}{pins:List (Addr×Obj)}{σ:St}{H:Hp}{s:Shared}{a:Addr}{xs ys:List V}
theorem SqL.of{K:ad}(h:H a=some (.lst xs)):SqL K H a xs:=.inl (.inl h)
theorem SqT.of{K:ad}(h:H a=some (.tup xs)):SqT K H a xs:=.inl (.inl h)
theorem Inv.list(I:Inv X pins σ H s)(h:SqL X.K H a xs):∃ its:List Value,Vals xs its/\PlainL s.heap a its.toArray/\xs.length<=sizeLine:=by
 rcases h with h | ⟨o,its,n,hk,hc,hd,hs,hz,r⟩
 ·obtain⟨z,its,n,r,e⟩:=h.ok I.hok;exact⟨its,r,⟨_,n,e,rfl,rfl,rfl⟩,z⟩
 ·refine⟨its.toList,r,⟨o,n,I.kIn a o hk,hc,hd,by simpa using hs⟩,?_⟩
  have e:=r.length
  simp only[Array.length_toList]at e;omega
theorem Inv.tuple(I:Inv X pins σ H s)(h:SqT X.K H a xs):∃ its:List Value,Vals xs its/\IsTup s.heap a its.toArray/\xs.length<=sizeLine:=by
 rcases h with h | ⟨o,its,n,hk,hc,hs,hz,r⟩
 ·obtain⟨z,its,r,p⟩:=h.ok I.hok;exact⟨its,r,p,z.1⟩
 ·refine⟨its.toList,r,⟨o,I.kIn a o hk,hc.1,n,by simpa using hs⟩,?_⟩
  have e:=r.length
  simp only[Array.length_toList]at e;omega
theorem Inv.list_inj(I:Inv X pins σ H s)(h:SqL X.K H a xs)(h':SqL X.K H a ys):xs=ys:=by
 obtain⟨its,r,⟨o,n,e,_,_,d⟩,_⟩:=I.list h;obtain⟨its',r',⟨o',n',e',_,_,d'⟩,_⟩:=I.list h';rw[e]at e';cases e';rw[d]at d'
 injection d' with d1 _
 have:its=its':=by simpa using congrArg Array.toList d1
 subst this;exact r.inj r'
theorem Inv.tuple_inj(I:Inv X pins σ H s)(h:SqT X.K H a xs)(h':SqT X.K H a ys):xs=ys:=by
 obtain⟨its,r,⟨o,e,_,n,d⟩,_⟩:=I.tuple h;obtain⟨its',r',⟨o',e',_,n',d'⟩,_⟩:=I.tuple h';rw[e]at e';cases e';rw[d]at d'
 injection d' with d1 _
 have:its=its':=by simpa using congrArg Array.toList d1
 subst this;exact r.inj r'
end
abbrev Cx.wish(X:Cx)(E:Value->Shared->Prop):Cx:={X with xe:=E}
abbrev Cx.nox(X:Cx):Cx:=X.wish fun _ _=>False
theorem Cx.Ok.wish{X:Cx}(ok:X.Ok)(E:Value->Shared->Prop):(X.wish E).Ok :=
 ⟨ok.mod,ok.kind,ok.glob,ok.blt,ok.above,ok.inj,ok.has,ok.cab,ok.hd,ok.frames,ok.stk,ok.exf,ok.bs,ok.bsz,ok.noex,ok.exfs,ok.funs,ok.frf⟩
theorem Cx.Ok.unwish{X:Cx}{E:Value->Shared->Prop}(ok:(X.wish E).Ok):X.Ok :=
 ⟨ok.mod,ok.kind,ok.glob,ok.blt,ok.above,ok.inj,ok.has,ok.cab,ok.hd,ok.frames,ok.stk,ok.exf,ok.bs,ok.bsz,ok.noex,ok.exfs,ok.funs,ok.frf⟩
section
variable {X:Cx}{pins:List (Addr×Obj)}{σ:St}{H:Hp}{s:Shared}{E:Value->Shared->Prop}
theorem Inv.wish(I:Inv X pins σ H s)(E:Value->Shared->Prop):Inv (X.wish E) pins σ H s:=⟨I.ok.wish E,I.os,I.bare,I.base,I.loc,I.cell,I.free,I.freeC,I.pin,I.hok,I.len⟩
theorem Inv.unwish(I:Inv (X.wish E) pins σ H s):Inv X pins σ H s:=⟨I.ok.unwish,I.os,I.bare,I.base,I.loc,I.cell,I.free,I.freeC,I.pin,I.hok,I.len⟩
theorem SP.unwish{D:Ends}{f:Flow}{s':Shared}(h:SP (X.wish E) pins D f s'):SP X pins D f s':=by
 cases f with
 | next=>obtain⟨σ',H',I,q⟩:=h;exact⟨σ',H',I.unwish,q⟩
 | brk=>obtain⟨σ',H',I,q⟩:=h;exact⟨σ',H',I.unwish,q⟩
 | cont=>obtain⟨σ',H',I,q⟩:=h;exact⟨σ',H',I.unwish,q⟩
 | ret u=>obtain⟨v,σ',H',I,r,q⟩:=h;exact⟨v,σ',H',I.unwish,r,q⟩
theorem PE.nox{e:Expr}{t:TE}(h:PE X.nox e t):PE X e t:=fun pins s σ H Q I hw =>
 wpAny_mono (h pins s σ H Q (I.wish _) hw) (fun _ _ ⟨v,H',I',r,q⟩=>⟨v,H',I'.unwish,r,q⟩) fun _ _ z=>False.elim z
theorem PT.nox{e:Expr}{t:TT}(h:PT X.nox e t):PT X e t:=fun pins s σ H Q I hw =>
 wpAny_mono (h pins s σ H Q (I.wish _) hw) (fun _ _ ⟨H',I',q⟩=>⟨H',I'.unwish,q⟩) fun _ _ z=>False.elim z
theorem PSs.nox{st:List Stmt}{t:TS}(h:PSs X.nox st t):PSs X st t:=fun pins s σ H D I hw =>
 wpAny_mono (h pins s σ H D (I.wish _) hw) (fun _ _ q=>q.unwish) fun _ _ z=>False.elim z
end
section
variable {X:Cx}{st:Stmt}{rest:List Stmt}{t u:TS}{e:Expr}{te:TE}{pos:Pos}
def P2:TS:=fun D σ H=>D.nx σ H
def DQ(t u:TS):TS:=fun D σ H=>t {D with nx:=u D} σ H
theorem Uw:PSs X [] P2:=fun _ _ σ H _ I h=>wpAny_execs_nil ⟨σ,H,I,h⟩
theorem F9(h1:PS X st t)(h2:PSs X rest u):PSs X (st::rest) (DQ t u):=by
 intro pins s σ H D I h;refine wpAny_execs_cons (aS (h1 pins s σ H {D with nx:=u D} I h) fun f s1 q=>?_)
 cases f with
 | next =>
  obtain⟨σ',H',I',q⟩:=q;exact h2 pins s1 σ' H' D I' q
 | ret v=>exact q
 | brk=>exact q
 | cont=>exact q
theorem Inv.quiet{pins:List (Addr×Obj)}{σ:St}{H:Hp}{s:Shared}(I:Inv X pins σ H s):interactive X.env=false:=by simp[interactive,I.ok.kind]
def g7(te:TE):TS:=fun D σ H=>te σ H fun _ H1=>D.nx σ H1
theorem N3(he:PE X e te)(hs:swapsWith e none pos.line X.env=pure false:=by rfl):PS X (.Expr e pos) (g7 te):=by
 intro pins s σ H D I h;exact wpAny_Expr_any (aS (he pins s σ H _ I h) fun v s1 ⟨x,H1,I1,r1,q1⟩=>⟨σ,H1,I1,q1⟩) I.quiet hs
def GF(te:TE):TS:=fun D σ H=>te σ H D.rt
theorem U5(he:PE X e te):PS X (.Return (some e) pos) (GF te):=by
 intro pins s σ H D I h;exact wpAny_Return_some (aS (he pins s σ H _ I h) fun v s1 ⟨x,H1,I1,r1,q1⟩=>⟨x,σ,H1,I1,r1,q1⟩)
def FM(c:TT)(t u:TS):TS:=fun D σ H=>c σ H fun b H1=>if b=true then t D σ H1 else u D σ H1
theorem Wp{c:Expr}{a b:List Stmt}{tc:TT}(hc:PT X c tc)(ha:PSs X a t)(hb:PSs X b u):PS X (.If c a b pos) (FM tc t u):=by
 intro pins s σ H D I h;refine wpAny_If (aS (hc pins s σ H _ I h) fun d s1 ⟨H1,I1,q1⟩=>?_)
 cases d with
 | true=>exact ha pins s1 σ H1 D I1 q1
 | false=>exact hb pins s1 σ H1 D I1 q1
end
abbrev TG:=V->St->Hp->(St->Hp->Prop)->Prop
abbrev iK:=List V->St->Hp->(St->Hp->Prop)->Prop
def PG(X:Cx)(target:Expr)(t:TG):Prop :=
 ∀ (pins:List (Addr×Obj)) (s:Shared) (σ:St) (H:Hp) (v:V) (u:Value) (Q:St->Hp->Prop),Inv X pins σ H s->RelV v u->t v σ H Q ->
  wpAny (model X.prog X.w) X.A (assign target X.env u) (fun _ s'=>∃ σ' H',Inv X pins σ' H' s'/\Q σ' H') X.xe s
def PGs(X:Cx)(ts:List Expr)(t:iK):Prop :=
 ∀ (pins:List (Addr×Obj)) (s:Shared) (σ:St) (H:Hp) (vs:List V) (us:List Value) (Q:St->Hp->Prop),Inv X pins σ H s->Vals vs us->t vs σ H Q ->
  wpAny (model X.prog X.w) X.A (assignInOrder ((assignEach ts X.env).map (·.2)) us) (fun _ s'=>∃ σ' H',Inv X pins σ' H' s'/\Q σ' H') X.xe s
abbrev TSet:=V->V->V->Hp->(Hp->Prop)->Prop
def Ga(X:Cx)(t:TSet):Prop :=
 ∀ (pins:List (Addr×Obj)) (s:Shared) (σ:St) (H:Hp) (o i v:V) (ov iv u:Value) (Q:Hp->Prop),Inv X pins σ H s->RelV o ov->RelV i iv->RelV v u->t o i v H Q ->
  wpAny (model X.prog X.w) X.A (setItem ov iv u) (fun _ s'=>∃ H',Inv X pins σ H' s'/\Q H') X.xe s
section
variable {X:Cx}{pos:Pos}
def Jp(i:Nat):TG:=fun v σ H Q=>Q (σ.set i (some v)) H
theorem Su{i:Nat}{x:Str}(hN:X.N.Nodup)(hi:X.N[i]?=some x)(hx:hU X.env.scope x)(hf:X.fn x=true\/X.env.scope.names.lookup x=some .local:=by first | exact .inl rfl | exact .inr rfl | assumption):PG X (.Name x pos) (Jp i):=by
 intro pins s σ H v u Q I r h;exact wpAny_assign_Name (qF I hN hi hx r (fun s' I'=>⟨_,H,I',h⟩) hf)
def CD:iK:=fun vs σ H Q=>vs=[]/\Q σ H
def EG(t:TG)(u:iK):iK:=fun vs σ H Q=>∃ v r,vs=v::r/\t v σ H fun σ' H'=>u r σ' H' Q
theorem Q5:PGs X [] CD:=by
 intro pins s σ H vs us Q I r h;obtain⟨e,h⟩:=h;subst e
 cases r
 exact assignInOrder_nil ⟨σ,H,I,h⟩
theorem F0{e:Expr}{es:List Expr}{t:TG}{u:iK}(h1:PG X e t)(h2:PGs X es u)
  (hs:(assignEach (e::es) X.env).map (·.2)=assign e X.env::(assignEach es X.env).map (·.2):=by rfl):PGs X (e::es) (EG t u):=by
 intro pins s σ H vs us Q I r h;obtain⟨v,vr,e1,h⟩:=h;subst e1
 cases r with
 | cons r rr =>
  rw[hs];refine assignInOrder_cons (aS (h1 pins s σ H _ _ _ I r h) fun _ s1 ⟨σ1,H1,I1,q1⟩=>?_);exact h2 pins s1 σ1 H1 _ _ Q I1 rr q1
def j3(K:ad)(n:Nat)(t:iK):TG:=fun v σ H Q=>∃ a xs,v=.ref a/\SqT K H a xs/\xs.length=n/\t xs σ H Q
theorem d6{es:List Expr}{k:Nat}{t:iK}{n:Nat}(hc:X.calm=true)(h:PGs X es t)
  (hn:(assignEach es X.env).length=n:=by rfl) (hst:(assignEach es X.env).findIdx? (·.1)=none:=by rfl):PG X (.Tuple es k pos) (j3 X.K n t):=by
 intro pins s σ H v u Q I r hw;obtain⟨a,xs,e1,hq,hl,hw⟩:=hw;subst e1
 cases r
 obtain⟨its,rv,ht,hz⟩:=I.tuple hq;refine assign_Tuple_tuple (I.ok.hd hc) ht (by simp[hn,<- hl,rv.length]) hst fun h' hx=>?_
 have I1:Inv X pins σ H {s with heap:=h'}:=I.kept (t':=s.toks) fun b o e=>hx b o (ao (ag e)) e
 exact h pins _ σ H xs _ Q I1 #[4,rv] hw
def X0(to ti:TE)(t:TSet):TG:=fun v σ H Q=>to σ H fun o H1=>ti σ H1 fun i H2=>t o i v H2 fun H3=>Q σ H3
theorem Tl{o i:Expr}{to ti:TE}{t:TSet}(ho:PE X o to)(hi:PE X i ti)(hs:Ga X t)
  (ha:∀ v,assign (.Subscript o i pos) X.env v=(do
   let ov <- holding [v] (eval o X.env)
   let iv <- holding [v,ov] (eval i X.env)
   standAt pos
   holding [v,ov,iv] (setItem ov iv v)
   release [v,ov,iv] []):=by intro _;rfl):PG X (.Subscript o i pos) (X0 to ti t):=by
 intro pins s σ H v u Q I r h;rw[ha];refine ae (wpAny_holding (aS (ho pins s σ H _ I h) fun ov s1 ⟨x,H1,I1,r1,q1⟩=>?_));refine ae (wpAny_holding (aS (hi pins s1 σ H1 _ I1 q1) fun iv s2 ⟨y,H2,I2,r2,q2⟩=>?_));refine ae (wpAny_standAt (ae (wpAny_holding (aS (hs pins s2 σ H2 x y v ov iv u _ I2 r1 r2 r q2) fun _ s3 ⟨H3,I3,q3⟩=>?_))));exact wpAny_release ⟨σ,H3,I3,q3⟩
def Ot(te:TE)(g:TG):TS:=fun D σ H=>te σ H fun x H1=>g x σ H1 D.nx
theorem Ps{tg e:Expr}{te:TE}{g:TG}(he:PE X e te)(hg:PG X tg g)(hs:swapsWithSole [tg] e pos.line X.env=pure false:=by rfl)(hw:swappedStores [tg] e X.env=pure none:=by rfl)
  (h1:(assignEach [tg] X.env).map (·.2)=[assign tg X.env]:=by rfl):PS X (.Assign [tg] e pos) (Ot te g):=by
 intro pins s σ H D I h;refine wpAny_Assign_stores (aS (he pins s σ H _ I h) fun v s1 ⟨x,H1,I1,r1,q1⟩=>?_) hs hw;rw[h1];exact aS (hg pins s1 σ H1 x v _ I1 r1 q1) fun _ s2 q=>q
theorem BG{i:Nat}{x:Str}{e:Expr}{te:TE}{pos':Pos}(hN:X.N.Nodup)(hi:X.N[i]?=some x)(hx:hU X.env.scope x)(he:PE X e te)(hs:swapsWith e (some (.Name x pos')) pos.line X.env=pure false:=by rfl)(hf:X.fn x=true\/X.env.scope.names.lookup x=some .local:=by first | exact .inl rfl | exact .inr rfl | assumption) :
  PS X (.Assign [.Name x pos'] e pos) (Ot te (Jp i)):=by
 intro pins s σ H D I h;refine wpAny_Assign_Name (aS (he pins s σ H _ I h) fun v s1 ⟨y,H1,I1,r1,q1⟩=>?_) hs;exact qF I1 hN hi hx r1 (fun s2 I2=>⟨_,H1,I2,q1⟩) hf
def C3(i j:Nat)(ta:TA):TS:=fun D σ H=>ta σ H fun vs H1=>∃ v w,vs=[v,w]/\D.nx ((σ.set i (some v)).set j (some w)) H1
theorem Ss{i j:Nat}{x y:Str}{a b:Expr}{ta:TA}{px py pt:Pos}{kt k2 pt2}(hc:X.calm=true)(hN:X.N.Nodup)(hi:X.N[i]?=some x)(hj:X.N[j]?=some y)(hij:i≠j)
  (hx:X.env.scope.names.lookup x=some .local) (hy:X.env.scope.names.lookup y=some .local) (ha:PA X [a,b] ta)
  (hw:swappedStores [.Tuple [.Name x px,.Name y py] kt pt] (.Tuple [a,b] k2 pt2) X.env=pure (some [x,y]))
  (hs:swapsWithSole [.Tuple [.Name x px,.Name y py] kt pt] (.Tuple [a,b] k2 pt2) pos.line X.env=pure false:=by rfl) :
  PS X (.Assign [.Tuple [.Name x px,.Name y py] kt pt] (.Tuple [a,b] k2 pt2) pos) (C3 i j ta):=by
 intro pins s σ H D I h;rw[exec_Assign_arm];refine ae (wpAny_standAt ?_);rw[hs];refine ae (af ?_);rw[if_neg #[1]]
 refine ae (Tuple_ (aS (ha _ pins s σ H _ I h) fun us s1 ⟨vs,H1,I1,r1,q1⟩=>?_));obtain⟨v,w,e1,q1⟩:=q1;subst e1;obtain⟨u1,u2,rfl,rv,rw'⟩:∃ u1 u2,us=[u1,u2]/\RelV v u1/\RelV w u2:=by
  cases r1 with
  | cons p q =>
   cases q with
   | cons p' q' =>
    cases q'
    exact⟨_,_,rfl,p,p'⟩
 refine wpAny_newObj_type ?_ (by show 2<=sizeLine;decide)
 have I2:Inv X pins σ H1 {s1 with heap:=s1.heap.push {cls:=.type "tuple",data:=.seq [u1,u2].toArray}}:=I1.kept (t':=s1.toks) fun b o e=>ah _ e
 rw[hw];refine ae (af ?_);show wpAny (model X.prog X.w) X.A (do rule "assign.swapped-stores";let items <- unpackItems (.ref s1.heap.objs.size) 2 none;assignInOrder [fun v=>bindName X.env y v,fun v=>bindName X.env x v] items.reverse;pure Flow.next) _ _ _
 refine ae (wpAny_rule (ae (unpackItems_tuple (items:=#[u1,u2]) (I.ok.hd hc) (IsTup.new s1.heap _) fun h' hx'=>?_)));have I3:=I2.kept (h':=h') (t':=s1.toks) fun b o e=>hx' b o (ao (ag e)) e
 show wpAny _ _ (assignInOrder [fun v=>bindName X.env y v,fun v=>bindName X.env x v] [u2,u1]>>=fun _=>pure Flow.next) _ _ _
 refine ae (assignInOrder_cons (wpAny_bindName (qF I3 hN hj (.inl hy) rw' (fun s2 I4=>?_) (.inr hy))));refine assignInOrder_cons (wpAny_bindName (qF I4 hN hi (.inl hx) rv (fun s3 I5=>assignInOrder_nil (af ?_)) (.inr hx)));rw[List.set_comm _ _ (Ne.symm hij)]at I5;exact⟨_,H1,I5,q1⟩
def V5(c:TT)(tb:TS):TS:=fun D σ H=>∃ W:Nat->St->Hp->Prop,(∃ m,W m σ H)/\∀ m σ H,W m σ H ->
 c σ H fun b H1=>if b=true then ∃ N:St->Hp->Prop,(∀ σ' H',N σ' H'->∃ m',m'<m/\W m' σ' H')/\tb {D with nx:=N,ct:=N,bk:=D.nx} σ H1 else D.nx σ H1
theorem Zc{c:Expr}{body:List Stmt}{tc:TT}{tb:TS}(hp:PassesOwn (model X.prog X.w) X.A X.env X.xe)(hc:PT X c tc)(hb:PSs X body tb):PS X (.While c body [] pos) (V5 tc tb):=by
 intro pins s σ H D I h;obtain⟨W,⟨m0,w0⟩,turn⟩:=h;refine wpAny_While (codeAny_whileLoop (fun n s'=>∃ σ' H',Inv X pins σ' H' s'/\W n σ' H') ?_ m0 ⟨σ,H,I,w0⟩);rintro n s1 ⟨σ1,H1,I1,w1⟩;refine wpAny_passesOwn hp (aS (hc pins s1 σ1 H1 _ I1 (turn n σ1 H1 w1)) fun b s2 ⟨H2,I2,q2⟩=>?_)
 cases b with
 | true =>
  obtain⟨N,hN,q2⟩:=q2;rw[if_pos rfl];refine wpAny_passesOwn hp (aS (hb pins s2 σ1 H2 _ I2 q2) fun f s3 q3=>?_)
  cases f with
  | next =>
   obtain⟨σ3,H3,I3,n3⟩:=q3;obtain⟨m',hm,w3⟩:=hN σ3 H3 n3;exact⟨m',hm,σ3,H3,I3,w3⟩
  | cont =>
   obtain⟨σ3,H3,I3,n3⟩:=q3;obtain⟨m',hm,w3⟩:=hN σ3 H3 n3;exact⟨m',hm,σ3,H3,I3,w3⟩
  | brk=>exact q3
  | ret v=>exact q3
 | false =>
  rw[if_neg am];exact wpAny_execs_nil ⟨σ1,H2,I2,q2⟩
end
structure It where
 go:Nat->Hp->Prop
 yld:Nat->Hp->V->Hp->Prop
 stop:Nat->Hp->Prop
def cK(X:Cx)(pins:List (Addr×Obj))(H:Hp)(b:Addr):Prop :=
 H b=none/\b≠X.env.locals/\b∉X.fs/\(b∈X.ex\/X.s₀.heap.objs.size<=b)/\(∀ x c,X.env.cells.lookup x=some c->c≠b)/\∀ p∈X.pn++pins,p.1≠b
theorem Inv.fpOk{X:Cx}{pins:List (Addr×Obj)}{σ:St}{H H':Hp}{s:Shared}{b:Addr}(I:Inv X pins σ H s)(hb:s.heap.objs.size<=b)(hn:H' b=none):cK X pins H' b:=by
 refine⟨hn,Nat.ne_of_gt (aj I.lt hb),I.nofs hb,.inr (Nat.le_trans I.sz hb),fun x c e z=>?_,fun p hp z=>?_⟩
 ·obtain⟨v,q⟩:=I.cell x c e;exact absurd (aj q.lt (by rw[z];exact hb)) (Nat.lt_irrefl _)
 ·exact absurd (aj (ag (I.pin p hp).1) (by rw[z];exact hb)) (Nat.lt_irrefl _)
structure Turn (P:Program) (w:World) (K:ad) (tg:Expr) (J:It) (fp:List Addr) (it:Addr) (tn:Nat->Heap->Prop):Prop where
 mem:it∈fp
 obj:∀ i h,tn i h->∀ b∈fp,∃ o,h.get? b=some o/\∀ v,o.data≠.cell v
 keep:∀ i h h',tn i h->(∀ b∈fp,∀ o,h.get? b=some o->h'.get? b=some o)->tn i h'
 item:∀ (X:Cx),X.prog=P->X.w=w->X.K=K->X.calm=true->∀ (i:Nat) (pins:List (Addr×Obj)) (s:Shared) (σ:St) (H:Hp) (E:Value->Shared->Prop),Inv X pins σ H s->(∀ b∈fp,cK X pins H b)->tn i s.heap->J.go i H ->
  wpAny (model P w) X.A (pyNext (.ref it)) (fun r s1=>∃ u,r=some u /\
   wpAny (model P w) X.A (letOwnedTupleGo tg (.ref it) u) (fun _ s2=>∃ x H',Inv X pins σ H' s2/\RelV x u/\J.yld i H x H'/\tn (i+1) s2.heap/\∀ b∈fp,H' b=none) E s1) E s
 done:∀ (X:Cx),X.prog=P->X.w=w->X.K=K->X.calm=true->∀ (i:Nat) (pins:List (Addr×Obj)) (s:Shared) (σ:St) (H:Hp) (E:Value->Shared->Prop),Inv X pins σ H s->(∀ b∈fp,cK X pins H b)->tn i s.heap->J.stop i H ->
  wpAny (model P w) X.A (pyNext (.ref it)) (fun r s1=>r=none/\Inv X pins σ H s1) E s
 self:∀ (A:Around) (i:Nat) (s:Shared) (Q:Value->Shared->Prop) (E:Value->Shared->Prop),tn i s.heap->Q (.ref it) s->wpAny (model P w) A (pyIter (.ref it)) Q E s
abbrev TI:=St->Hp->(It->Hp->Prop)->Prop
def uL(X:Cx)(pins:List (Addr×Obj))(σ:St)(tg:Expr)(R:It->Hp->Prop)(itv:Value)(s2:Shared):Prop :=
 ∃ (it:Addr) (fp:List Addr) (tn:Nat->Heap->Prop) (J:It) (H':Hp),itv=.ref it/\Inv X pins σ H' s2/\Turn X.prog X.w X.K tg J fp it tn/\tn 0 s2.heap/\(∀ b∈fp,cK X pins H' b)/\R J H'
def PI(X:Cx)(tg iter:Expr)(wi:TI):Prop :=
 ∀ (pins:List (Addr×Obj)) (s:Shared) (σ:St) (H:Hp) (R:It->Hp->Prop),Inv X pins σ H s->wi σ H R ->
  wpAny (model X.prog X.w) X.A (eval iter X.env) (fun v s1=>wpAny (model X.prog X.w) X.A (pyIter v) (uL X pins σ tg R) X.xe s1) X.xe s
theorem nY{M:Model}{A:Around}{E:Value->Shared->Prop}{s:Shared}{tg:Expr}{it:Addr}{u:Value}{o:Obj}{n:String}{vs:Array Value}{Q:Unit->Shared->Prop}(ho:s.heap.get? it=some o)(hc:o.cls=.type n)(hd:o.data=.fields vs)
  (hn:["enumerate","zip","dict_itemiterator","dict_reverseitemiterator","odict_iterator","itertools.zip_longest","itertools.pairwise"].contains n=false) (hQ:Q () s):wpAny M A (letOwnedTupleGo tg (.ref it) u) Q E s:=by
 unfold letOwnedTupleGo
 cases tg<;>first
  | exact af hQ
  | (cases u<;>first
    | exact af hQ
    | (refine ae (wpAny_load ho ?_)
       rw[hc,hd];show wpAny M A (if (["enumerate","zip","dict_itemiterator","dict_reverseitemiterator","odict_iterator","itertools.zip_longest","itertools.pairwise"].contains n&&vs[0]? == some (rawInt _))=true then _ else _) Q E s
       rw[if_neg (by intro h;rw[hn,Bool.false_and]at h;cases h)]
       exact af hQ))
def oC(K:ad)(a:Addr):It :=
 ⟨fun i H=>∃ xs x,SqL K H a xs/\xs[i]?=some x,fun i H x H'=>H'=H/\∀ xs,SqL K H a xs->xs[i]?=some x,fun i H=>∃ xs,SqL K H a xs/\xs.length<=i⟩
def rQ(K:ad)(a:Addr):It :=
 ⟨fun i H=>∃ xs x,SqT K H a xs/\xs[i]?=some x,fun i H x H'=>H'=H/\∀ xs,SqT K H a xs->xs[i]?=some x,fun i H=>∃ xs,SqT K H a xs/\xs.length<=i⟩
def qZ(lo:Int)(n:Nat):It:=⟨fun i _=>i<n,fun i H x H'=>H'=H/\x=.int (lo+i),fun i _=>n<=i⟩
theorem Um{P:Program}{w:World}{K:ad}{tg:Expr}(a it:Addr):Turn P w K tg (oC K a) [it] it (fun i h=>h.IsListIter it a i) where
 mem:=by simp
 obj:=fun i h st b hb=>by
  have e:b=it:=by simpa using hb
  subst e;obtain⟨o,e,c,d⟩:=st;exact⟨o,e,fun v z=>by rw[d]at z;cases z⟩
 keep:=fun i h h' st k=>st.at fun o e=>k it #[2] o e
 item:=by
  intro X hP hw hK hc i pins s σ H E I hf st hg;subst hP hw hK;obtain⟨xs,x,hq,hx⟩:=hg;obtain⟨its,rv,p,hz⟩:=I.list hq;obtain⟨u,hu,ru⟩:=rv.get hx;obtain⟨f0,f1,f2,f3,f4,f5⟩:=hf it #[2]
  refine wpAny_pyNext_list_item st p.isList (x:=u) #[4,hu] fun h' st' sb=>?_
  have I1:Inv X pins σ H {s with heap:=h'}:=I.turned (t':=s.toks) (fun b o hb e=>(sb.2 b hb).trans e) f0 f1 f3 f4 f5
  obtain⟨o,e,c,d⟩:=id st';exact⟨u,rfl,nY (s:={s with heap:=h'}) e c d #[1] ⟨x,H,I1,ru,⟨rfl,fun ys hy=>by rw[I.list_inj hy hq];exact hx⟩,st',fun b hb=>(hf b hb).1⟩⟩
 done:=by
  intro X hP hw hK hc i pins s σ H E I hf st hg;subst hP hw hK;obtain⟨xs,hq,hx⟩:=hg;obtain⟨its,rv,p,hz⟩:=I.list hq;obtain⟨f0,f1,f2,f3,f4,f5⟩:=hf it #[2]
  have hl:=rv.length
  exact wpAny_pyNext_list_end (I.ok.hd hc) st p.isList (by simp;omega) fun h' eb=>⟨rfl,I.turned (t':=s.toks) (fun b o hb e=>eb b o hb e) f0 f1 f3 f4 f5⟩
 self:=fun _ _ _ _ _ st h=>wpAny_pyIter_listiter st h
theorem DZ{P:Program}{w:World}{K:ad}{tg:Expr}(a it:Addr):Turn P w K tg (rQ K a) [it] it (fun i h=>h.IsTupleIter it a i) where
 mem:=by simp
 obj:=fun i h st b hb=>by
  have e:b=it:=by simpa using hb
  subst e;obtain⟨o,e,c,d⟩:=st;exact⟨o,e,fun v z=>by rw[d]at z;cases z⟩
 keep:=fun i h h' st k=>st.at fun o e=>k it #[2] o e
 item:=by
  intro X hP hw hK hc i pins s σ H E I hf st hg;subst hP hw hK;obtain⟨xs,x,hq,hx⟩:=hg;obtain⟨its,rv,p,hz⟩:=I.tuple hq;obtain⟨u,hu,ru⟩:=rv.get hx;obtain⟨f0,f1,f2,f3,f4,f5⟩:=hf it #[2]
  refine wpAny_pyNext_tuple_item st (show s.heap.IsTuple a its.toArray from p) (x:=u) #[4,hu] fun h' st' sb=>?_
  have I1:Inv X pins σ H {s with heap:=h'}:=I.turned (t':=s.toks) (fun b o hb e=>(sb.2 b hb).trans e) f0 f1 f3 f4 f5
  obtain⟨o,e,c,d⟩:=id st';exact⟨u,rfl,nY (s:={s with heap:=h'}) e c d #[1] ⟨x,H,I1,ru,⟨rfl,fun ys hy=>by rw[I.tuple_inj hy hq];exact hx⟩,st',fun b hb=>(hf b hb).1⟩⟩
 done:=by
  intro X hP hw hK hc i pins s σ H E I hf st hg;subst hP hw hK;obtain⟨xs,hq,hx⟩:=hg;obtain⟨its,rv,p,hz⟩:=I.tuple hq;obtain⟨f0,f1,f2,f3,f4,f5⟩:=hf it #[2]
  have hl:=rv.length
  exact wpAny_pyNext_tuple_end (I.ok.hd hc) st (show s.heap.IsTuple a its.toArray from p) (by simp;omega) fun h' eb=>⟨rfl,I.turned (t':=s.toks) (fun b o hb e=>eb b o hb e) f0 f1 f3 f4 f5⟩
 self:=fun _ _ _ _ _ st h=>wpAny_pyIter_tupleiter st h
theorem J3{P:Program}{w:World}{K:ad}{tg:Expr}(it:Addr)(lo:Int)(n:Nat):Turn P w K tg (qZ lo n) [it] it (fun i h=>IsRangeIter h it (lo+(i:Nat)*1) ((n:Int)-(i:Nat)) 1) where
 mem:=by simp
 obj:=fun i h st b hb=>by
  have e:b=it:=by simpa using hb
  subst e;exact⟨_,st,fun v z=>by
   have z':Data.fields _=Data.cell v:=z
   cases z'⟩
 keep:=fun i h h' st k=>k it #[2] _ st
 item:=by
  intro X hP hw hK hc i pins s σ H E I hf st hg;subst hP hw hK;obtain⟨f0,f1,f2,f3,f4,f5⟩:=hf it #[2]
  have W:=Walks.range (prog:=X.prog) (w:=X.w) (I.ok.hd hc) it lo 1 n
  refine W.item i s _ _ hg st fun v h' tk hv st' kk=>?_;obtain⟨t,rfl⟩:=hv;have I1:Inv X pins σ H {s with heap:=h',toks:=tk}:=I.turned (fun b o hb e=>kk b o #[4,hb] e) f0 f1 f3 f4 f5
  refine⟨_,rfl,nY (s:={s with heap:=h',toks:=tk}) (n:="range_iterator") st' rfl rfl #[1] ⟨.int (lo+i),H,I1,⟨t,?_⟩,⟨rfl,rfl⟩,st',fun b hb=>(hf b hb).1⟩⟩
  rw[Int.mul_one]
 done:=by
  intro X hP hw hK hc i pins s σ H E I hf st hg;subst hP hw hK;obtain⟨f0,f1,f2,f3,f4,f5⟩:=hf it #[2]
  exact wpAny_pyNext_range_end (I.ok.hd hc) st (by have:n<=i:=hg;omega) fun h' eb=>⟨rfl,I.turned (t':=s.toks) (fun b o hb e=>eb b o hb e) f0 f1 f3 f4 f5⟩
 self:=fun _ _ _ _ _ st h=>wpAny_pyIter_rangeiter st h
section
variable {X:Cx}{tg:Expr}
theorem Mz{pins:List (Addr×Obj)}{σ:St}{H:Hp}{s:Shared}{R:It->Hp->Prop}{E:Value->Shared->Prop}{lo hi:Int}{t u v:Tok}{tk:Nat}(I:Inv X pins σ H s)(h1:-(2^62)<=lo)(h2:lo<2^62)(h3:-(2^62)<=hi)(h4:hi<2^62)
  (q:R (qZ lo (hi-lo).toNat) H):wpAny (model X.prog X.w) X.A (pyIter (.ref s.heap.objs.size)) (uL X pins σ tg R) E {s with heap:=s.heap.push {cls:=.type "range",data:=.fields #[.int lo t,.int hi u,.int 1 v]},toks:=tk}:=by
 refine wpAny_pyIter_range (IsRange.new ..) (small_one h1 h2 h3 h4) ?_;have I1:Inv X pins σ H {s with heap:=s.heap.push {cls:=.type "range",data:=.fields #[.int lo t,.int hi u,.int 1 v]},toks:=tk}:=I.kept fun b o e=>ah _ e
 refine⟨(s.heap.push {cls:=.type "range",data:=.fields #[.int lo t,.int hi u,.int 1 v]}).objs.size,[(s.heap.push {cls:=.type "range",data:=.fields #[.int lo t,.int hi u,.int 1 v]}).objs.size],_,_,H,rfl,
  I1.kept (t':=tk) fun b o e=>ah _ e,J3 _ lo (hi-lo).toNat,?_,fun b hb=>?_,q⟩
 ·have e1:lo+((0:Nat):Int)*1=lo:=by simp
  have e2:(((hi-lo).toNat:Nat):Int)-((0:Nat):Int)=Builtin.Range.rangeSize lo hi 1:=by rw[rangeSize_one];split<;>omega
  show IsRangeIter _ _ (lo+((0:Nat):Int)*1) ((((hi-lo).toNat:Nat):Int)-((0:Nat):Int)) 1
  rw[e1,e2];exact ai _ rfl
 ·have e:b=(s.heap.push {cls:=.type "range",data:=.fields #[.int lo t,.int hi u,.int 1 v]}).objs.size:=by simpa using hb
  subst e;exact I1.fpOk (ak _) (I1.hok.fresh (ak _))
def Uy(ta:TA):TI:=fun σ H R=>ta σ H fun vs H1=>∃ j:Int,vs=[.int j]/\-(2^62)<=j/\j<2^62/\R (qZ 0 j.toNat) H1
def Vw(ta:TA):TI:=fun σ H R=>ta σ H fun vs H1=>∃ i j:Int,vs=[.int i,.int j]/\(-(2^62)<=i/\i<2^62/\-(2^62)<=j/\j<2^62)/\R (qZ i (j-i).toNat) H1
theorem V2{a:Expr}{ta:TA}{p pos:Pos}(hg:Gl X "range")(hm:X.mg "range"=none)(ha:PA X [a] ta)(hs:starEach [a] X.env=[(false,eval a X.env)]:=by rfl):PI X tg (.Call (.Name "range" p) [a] [] pos) (Uy ta):=by
 intro pins s σ H R I h;refine Call_ (gU I hg hm boot_range (PyProof.Rows.callWith_type1 (aS (ha pos pins s σ H _ I h) fun us s1 ⟨vs,H1,I1,r1,q1⟩=>?_) hs rfl));obtain⟨j,e,q1,q2,q⟩:=q1;subst e
 cases r1 with
 | cons r rr =>
  cases rr
  obtain⟨t,rfl⟩:=r;exact call_range_1 (Mz I1 #[0] #[0] q1 q2 #[4,q])
theorem Ze{a b:Expr}{ta:TA}{p pos:Pos}(hg:Gl X "range")(hm:X.mg "range"=none)(ha:PA X [a,b] ta)(hs:starEach [a,b] X.env=[(false,eval a X.env),(false,eval b X.env)]:=by rfl)(hs2:starEach [b] X.env=[(false,eval b X.env)]:=by rfl) :
  PI X tg (.Call (.Name "range" p) [a,b] [] pos) (Vw ta):=by
 intro pins s σ H R I h;refine Call_ (gU I hg hm boot_range (PyProof.Rows.callWith_type1 (aS (ha pos pins s σ H _ I h) fun us s1 ⟨vs,H1,I1,r1,q1⟩=>?_) (by rw[hs,hs2]) (by rw[hs2];rfl)))
 obtain⟨i,j,e,⟨q1,q2,q3,q4⟩,q⟩:=q1;subst e
 cases r1 with
 | cons r rr =>
  cases rr with
  | cons r' rr =>
   cases rr
   obtain⟨t,rfl⟩:=r;obtain⟨t',rfl⟩:=r';exact call_range_2 (Mz I1 q1 q2 q3 q4 q)
def Ys(wi:TI)(g:TG)(tb:TS):TS:=fun D σ H=>wi σ H fun J H1=>∃ W:Nat->Nat->St->Hp->Prop,(∃ m,W 0 m σ H1)/\∀ i m σ H,W i m σ H ->
 (J.stop i H/\D.nx σ H)\/(J.go i H/\∃ N:St->Hp->Prop,(∀ σ' H',N σ' H'->∃ m',m'<m/\W (i+1) m' σ' H')/\∀ x H',J.yld i H x H'->g x σ H' fun σ2 H2=>tb {D with nx:=N,ct:=N,bk:=D.nx} σ2 H2)
def kA(fp:List Addr)(h:Heap):List (Addr×Obj):=fp.filterMap fun b=>(h.get? b).map fun o=>(b,o)
theorem iP{fp:List Addr}{h:Heap}{b:Addr}{o:Obj}(hb:b∈fp)(e:h.get? b=some o):(b,o)∈kA fp h:=List.mem_filterMap.mpr ⟨b,hb,by rw[e];rfl⟩
theorem L6{fp:List Addr}{h:Heap}{p:Addr×Obj}(hp:p∈kA fp h):p.1∈fp/\h.get? p.1=some p.2:=by
 obtain⟨b,hb,e⟩:=List.mem_filterMap.mp hp
 cases q:h.get? b with
 | none=>rw[q]at e;cases e
 | some o =>
  rw[q]at e;have e':(b,o)=p:=Option.some.inj e
  subst e';exact⟨hb,q⟩
theorem Inv.pinned{pins:List (Addr×Obj)}{σ:St}{H:Hp}{s:Shared}{fp:List Addr}(I:Inv X pins σ H s)(hf:∀ b∈fp,cK X pins H b)(ho:∀ b∈fp,∃ o,s.heap.get? b=some o/\∀ v,o.data≠.cell v):Inv X (pins++kA fp s.heap) σ H s :=
 I.pins_of fun p hp=>(List.mem_append.mp hp).elim (fun z=>I.pin p (List.mem_append_right _ z)) fun z=>by
  obtain⟨hb,e⟩:=L6 z;obtain⟨f0,f1,f2,_⟩:=hf p.1 hb;obtain⟨o,e',d⟩:=ho p.1 hb;rw[e]at e';cases e';exact⟨e,f0,f1,f2,d⟩
theorem Inv.unpinned{pins pl:List (Addr×Obj)}{σ:St}{H:Hp}{s:Shared}(I:Inv X (pins++pl) σ H s):Inv X pins σ H s:=I.pins_of fun p hp=>I.pin p (List.mem_append_right _ (List.mem_append_left _ hp))
theorem U0{iter:Expr}{body:List Stmt}{wi:TI}{g:TG}{tb:TS}{pos:Pos}(hp:PassesOwn (model X.prog X.w) X.A X.env X.xe)(hc:X.calm=true)(hi:PI X tg iter wi)(hg:PG X tg g)(hb:PSs X body tb)
  (hs:∀ x,foldedSetIterable iter X.env x=pure x:=by intro _;rfl):PS X (.For tg iter body [] pos) (Ys wi g tb):=by
 intro pins s σ H D I h;refine wpAny_For (aS (hi pins s σ H _ I h) fun v s1 h1=>aS h1 fun itv s2 h2=>?_) hs;obtain⟨it,fp,tn,J,H2,e,I2,T,st2,f2,W,⟨m0,w0⟩,turn⟩:=h2;subst e
 -- what stays true of the iterator's objects through the loop
 have stat:∀ {H':Hp},(∀ b∈fp,H' b=none)->∀ b∈fp,cK X pins H' b:=fun hn b hb=>⟨hn b hb,(f2 b hb).2⟩
 refine codeAny_forLoop_any (fun n s'=>∃ i σ' H',Inv X pins σ' H' s'/\tn i s'.heap/\(∀ b∈fp,H' b=none)/\W i n σ' H') ?_ m0 ⟨0,σ,H2,I2,st2,fun b hb=>(f2 b hb).1,w0⟩;rintro n s3 ⟨i,σ3,H3,I3,st3,fr3,w3⟩;rcases turn i n σ3 H3 w3 with⟨stop,qn⟩ | ⟨go,N,hN,step⟩
 ·refine wpAny_passesOwn hp (aS (T.done X rfl rfl rfl hc i pins s3 σ3 H3 X.xe I3 (stat fr3) st3 stop) fun r s4 ⟨hr,I4⟩=>?_);subst hr;exact wpAny_execs_nil ⟨σ3,H3,I4,qn⟩
 ·refine wpAny_passesOwn hp (aS (T.item X rfl rfl rfl hc i pins s3 σ3 H3 X.xe I3 (stat fr3) st3 go) fun r s4 ⟨u,hr,h4⟩=>?_);subst hr;refine wpAny_passesOwn hp (aS h4 fun _ s5 ⟨x,H5,I5,r5,y5,st5,fr5⟩=>?_);have I5':=I5.pinned (stat fr5) (T.obj _ _ st5)
  refine wpAny_passesOwn hp (aS (hg _ s5 σ3 H5 x u _ I5' r5 (step x H5 y5)) fun _ s6 ⟨σ6,H6,I6,q6⟩=>?_);refine wpAny_passesOwn hp (aS (hb _ s6 σ6 H6 _ I6 q6) fun f s7 q7=>?_);have again:∀ {σ7:St} {H7:Hp},Inv X (pins++kA fp s5.heap) σ7 H7 s7->N σ7 H7->∃ m,m<n/\∃ i σ' H',Inv X pins σ' H' s7/\tn i s7.heap/\(∀ b∈fp,H' b=none)/\W i m σ' H':=fun {σ7 H7} I7 n7=>by
   obtain⟨m',hm,w7⟩:=hN σ7 H7 n7;refine⟨m',hm,i+1,σ7,H7,I7.unpinned,T.keep _ _ _ st5 fun b hb o e=>(I7.pin (b,o) (List.mem_append_right _ (List.mem_append_right _ (iP hb e)))).1,fun b hb=>?_,w7⟩;obtain⟨o,e,d⟩:=T.obj _ _ st5 b hb;exact(I7.pin (b,o) (List.mem_append_right _ (List.mem_append_right _ (iP hb e)))).2.1
  cases f with
  | next=>obtain⟨σ7,H7,I7,n7⟩:=q7;exact again I7 n7
  | cont=>obtain⟨σ7,H7,I7,n7⟩:=q7;exact again I7 n7
  | brk=>obtain⟨σ7,H7,I7,q7⟩:=q7;exact⟨σ7,H7,I7.unpinned,q7⟩
  | ret v=>obtain⟨x7,σ7,H7,I7,r7,q7⟩:=q7;exact⟨x7,σ7,H7,I7.unpinned,r7,q7⟩
end
abbrev R2:=V->V->Hp->VK->Prop
def OpR(X:Cx)(f:Value->Value->Sem Value)(r:R2):Prop :=
 ∀ (pins:List (Addr×Obj)) (s:Shared) (σ:St) (H:Hp) (x y:V) (v u:Value) (Q:VK),Inv X pins σ H s->RelV x v->RelV y u->r x y H Q ->
  wpAny (model X.prog X.w) X.A (f v u) (EP X pins σ Q) X.xe s
def tK(X:Cx)(f:Value->Sem Value)(r:V->Hp->VK->Prop):Prop :=
 ∀ (pins:List (Addr×Obj)) (s:Shared) (σ:St) (H:Hp) (x:V) (v:Value) (Q:VK),Inv X pins σ H s->RelV x v->r x H Q ->
  wpAny (model X.prog X.w) X.A (f v) (EP X pins σ Q) X.xe s
def CallR(X:Cx)(f:Value)(r:List V->Hp->VK->Prop):Prop :=
 ∀ (pins:List (Addr×Obj)) (s:Shared) (σ:St) (H:Hp) (xs:List V) (us:List Value) (Q:VK),Inv X pins σ H s->Vals xs us->r xs H Q ->
  wpAny (model X.prog X.w) X.A (call f us) (EP X pins σ Q) X.xe s
def v9(r:R2)(ta tb:TE):TE:=fun σ H Q=>ta σ H fun x H1=>tb σ H1 fun y H2=>r x y H2 Q
def Za(r:V->Hp->VK->Prop)(ta:TE):TE:=fun σ H Q=>ta σ H fun x H1=>r x H1 Q
def rI(C:Int->Int->Prop)(g:Int->Int->V):R2:=fun x y H Q=>∃ i j,x=.int i/\y=.int j/\C i j/\Q (g i j) H
def lC(g:Int->Int->V):R2:=fun x y H Q=>∃ i j,x=.int i/\y=.int j/\Q (g i j) H
def rU(g:Int->V):V->Hp->VK->Prop:=fun x H Q=>∃ i,x=.int i/\Q (g i) H
section
variable {X:Cx}{a b c:Expr}{ta tb tc:TE}{pos:Pos}
theorem Bs(ha:PE X a ta)(hb:PE X b tb){pins:List (Addr×Obj)}{s:Shared}{σ:St}{H:Hp}{R:V->V->Hp->Prop}(I:Inv X pins σ H s)
  (h:ta σ H fun x H1=>tb σ H1 fun y H2=>R x y H2) {Q:Value->Shared->Prop} {f:Value->Value->Sem Value}
  (hf:∀ v u s2 x y H2,Inv X pins σ H2 s2->RelV x v->RelV y u->R x y H2->wpAny (model X.prog X.w) X.A (f v u) Q X.xe s2) :
  wpAny (model X.prog X.w) X.A (eval a X.env) (fun v s₁=>wpAny (model X.prog X.w) X.A (eval b X.env) (fun u s₂=>wpAny (model X.prog X.w) X.A (f v u) Q X.xe s₂) X.xe s₁) X.xe s:=by
 refine aS (ha pins s σ H _ I h) fun v s1 ⟨x,H1,I1,r1,q1⟩=>?_;refine aS (hb pins s1 σ H1 _ I1 q1) fun u s2 ⟨y,H2,I2,r2,q2⟩=>?_;exact hf v u s2 x y H2 I2 r1 r2 q2
theorem Te{op:UnaryOp}{r:V->Hp->VK->Prop}(ho:tK X (unaryOp op) r)(ha:PE X a ta):PE X (.UnaryOp op a pos) (Za r ta):=by
 intro pins s σ H Q I h;exact UnaryOp_ (aS (ha pins s σ H _ I h) fun v s1 ⟨x,H1,I1,r1,q1⟩=>ho pins s1 σ H1 x v Q I1 r1 q1)
theorem Lu{f:Value->Value->Sem Value}{C:Int->Int->Prop}{g:Int->Int->Int}
  (rule:∀ (i j:Int) (t u:Tok) (s:Shared) (Q:Value->Shared->Prop) (E:Value->Shared->Prop),C i j->Q (.int (g i j) s.toks) {s with toks:=s.toks+1}->wpAny (model X.prog X.w) X.A (f (.int i t) (.int j u)) Q E s) :
  OpR X f (rI C fun i j=>.int (g i j)):=by
 intro pins s σ H x y v u Q I rx ry h;obtain⟨i,j,rfl,rfl,hc,q⟩:=h;obtain⟨t,rfl⟩:=rx;obtain⟨t',rfl⟩:=ry;exact rule i j t t' s _ _ hc ⟨.int (g i j),H,I.tok _,⟨_,rfl⟩,q⟩
theorem Rm{f:Value->Value->Sem Value}{g:Int->Int->Int}
  (rule:∀ (i j:Int) (t u:Tok) (s:Shared) (Q:Value->Shared->Prop) (E:Value->Shared->Prop),Q (.int (g i j) s.toks) {s with toks:=s.toks+1}->wpAny (model X.prog X.w) X.A (f (.int i t) (.int j u)) Q E s) :
  OpR X f (lC fun i j=>.int (g i j)):=by
 intro pins s σ H x y v u Q I rx ry h;obtain⟨i,j,rfl,rfl,q⟩:=h;obtain⟨t,rfl⟩:=rx;obtain⟨t',rfl⟩:=ry;exact rule i j t t' s _ _ ⟨.int (g i j),H,I.tok _,⟨_,rfl⟩,q⟩
theorem vX{f:Value->Value->Sem Value}{g:Int->Int->Bool}
  (rule:∀ (i j:Int) (t u:Tok) (s:Shared) (Q:Value->Shared->Prop) (E:Value->Shared->Prop),Q (.bool (g i j)) s->wpAny (model X.prog X.w) X.A (f (.int i t) (.int j u)) Q E s) :
  OpR X f (lC fun i j=>.bl (g i j)):=by
 intro pins s σ H x y v u Q I rx ry h;obtain⟨i,j,rfl,rfl,q⟩:=h;obtain⟨t,rfl⟩:=rx;obtain⟨t',rfl⟩:=ry;exact rule i j t t' s _ _ ⟨.bl (g i j),H,I,rfl,q⟩
def Yg(i j:Int):Prop:=0<=j/\j<=1000000/\i.natAbs<2^64
def CMul(i j:Int):Prop:=(-(2^64)<i/\i<2^64)\/(-(2^64)<j/\j<2^64)
theorem CMul.ok{i j:Int}(h:CMul i j):IntMulOk i j:=by
 rcases h with⟨h1,h2⟩ | ⟨h1,h2⟩
 ·exact .of_left (intBits_le_64 h1 h2)
 ·exact .of_right (intBits_le_64 h1 h2)
theorem B6:OpR X (binaryOp .Add) (lC fun i j=>.int (i+j)):=Rm fun _ _ _ _ _ _ _ q=>add_int q
theorem Wq:OpR X (binaryOp .Sub) (lC fun i j=>.int (i-j)):=Rm fun _ _ _ _ _ _ _ q=>sub_int q
theorem l5:OpR X (binaryOp .Mod) (rI (fun _ j=>j≠0) fun i j=>.int (i.fmod j)):=Lu fun _ _ _ _ _ _ _ hc q=>mod_int' hc q
theorem FX:OpR X (binaryOp .Pow) (rI Yg fun i j=>.int (i^j.toNat)):=Lu fun _ _ _ _ _ _ _ hc q=>pow_int_small hc.1 hc.2.1 hc.2.2 q
theorem Uf{f:Value->Sem Value}{g:Int->Int}
  (rule:∀ (i:Int) (t:Tok) (s:Shared) (Q:Value->Shared->Prop) (E:Value->Shared->Prop),Q (.int (g i) s.toks) {s with toks:=s.toks+1}->wpAny (model X.prog X.w) X.A (f (.int i t)) Q E s) :
  tK X f (rU fun i=>.int (g i)):=by
 intro pins s σ H x v Q I rx h;obtain⟨i,rfl,q⟩:=h;obtain⟨t,rfl⟩:=rx;exact rule i t s _ _ ⟨.int (g i),H,I.tok _,⟨_,rfl⟩,q⟩
theorem R4:tK X (unaryOp .USub) (rU fun i=>.int (-i)):=Uf fun _ _ _ _ _ q=>neg_int q
end
def Ah:V->V->Bool
 | .non,.non=>true | .non,.int _=>true | .int _,.non=>true | .non,.bl _=>true | .bl _,.non=>true | .non,.str _=>true | .str _,.non=>true
 | .int _,.int _=>true | .bl _,.bl _=>true | .str _,.str _=>true | .byt _,.byt _=>true
 | .int _,.str _=>true | .str _,.int _=>true | .bl _,.str _=>true | .str _,.bl _=>true
 | _,_=>false
def A5:R2:=fun x y H Q=>Ah x y=true/\Q (.bl (decide (x=y))) H
def DB:R2:=fun x y H Q=>Ah x y=true/\Q (.bl (!decide (x=y))) H
theorem Hf{i j:Int}:decide (V.int i=V.int j)=(i==j):=by
 rw[Bool.eq_iff_iff];simp
theorem Hc{i j:Bool}:decide (V.bl i=V.bl j)=(i==j):=by
 rw[Bool.eq_iff_iff];simp
theorem Aq{i j:Str}:decide (V.str i=V.str j)=(i==j):=by
 rw[Bool.eq_iff_iff];simp
theorem Kf{i j:Array UInt8}:decide (V.byt i=V.byt j)=(i.toList==j.toList):=by
 rw[Bool.eq_iff_iff]
 cases i
 cases j
 simp
section
variable {X:Cx}{a b c:Expr}{ta tb tc:TE}{pos:Pos}
theorem cN{pins:List (Addr×Obj)}{σ:St}{H:Hp}{s:Shared}{Q:VK}{k k':Bool}(I:Inv X pins σ H s)(q:Q (.bl k) H)(e:k=k'):EP X pins σ Q (.bool k') s:=by
 subst e;exact⟨.bl k,H,I,rfl,q⟩
theorem r8:OpR X (compareOp .Eq) A5:=by
 intro pins s σ H x y v u Q I rx ry h;obtain⟨hs,q⟩:=h
 cases x with
 | non =>
  cases rx
  cases y with
  | non=>cases ry;exact PySem.EqNone.eq_none_none (cN I q #[2])
  | bl j=>cases ry;exact PySem.EqNone.eq_none_bool (cN I q #[2])
  | int j=>obtain⟨t',rfl⟩:=ry;exact PySem.EqNone.eq_none_int (cN I q #[2])
  | str j=>obtain⟨t',rfl⟩:=ry;exact PySem.EqNone.eq_none_str (cN I q #[2])
  | _=>exact absurd (show false=true from hs) am
 | bl i =>
  cases rx
  cases y with
  | non=>cases ry;exact PySem.EqNone.eq_bool_none (cN I q #[2])
  | bl j=>cases ry;exact eq_bool (cN I q Hc)
  | str j=>obtain⟨t',rfl⟩:=ry;exact PySem.EqMixed.eq_bool_str (cN I q #[2])
  | _=>exact absurd (show false=true from hs) am
 | int i =>
  obtain⟨t,rfl⟩:=rx
  cases y with
  | non=>cases ry;exact PySem.EqNone.eq_int_none (cN I q #[2])
  | int j=>obtain⟨t',rfl⟩:=ry;exact eq_int (cN I q Hf)
  | str j=>obtain⟨t',rfl⟩:=ry;exact PySem.EqMixed.eq_int_str (cN I q #[2])
  | _=>exact absurd (show false=true from hs) am
 | str i =>
  obtain⟨t,rfl⟩:=rx
  cases y with
  | non=>cases ry;exact PySem.EqNone.eq_str_none (cN I q #[2])
  | bl j=>cases ry;exact PySem.EqMixed.eq_str_bool (cN I q #[2])
  | int j=>obtain⟨t',rfl⟩:=ry;exact PySem.EqMixed.eq_str_int (cN I q #[2])
  | str j=>obtain⟨t',rfl⟩:=ry;exact eq_str (cN I q Aq)
  | _=>exact absurd (show false=true from hs) am
 | byt i =>
  obtain⟨t,rfl⟩:=rx
  cases y with
  | byt j=>obtain⟨t',rfl⟩:=ry;exact PySem.W.eq_bytes (cN I q Kf)
  | _=>exact absurd (show false=true from hs) am
 | _=>cases y<;>exact absurd (show false=true from hs) am
theorem FF:OpR X (compareOp .NotEq) DB:=by
 intro pins s σ H x y v u Q I rx ry h;obtain⟨hs,q⟩:=h
 cases x with
 | non =>
  cases rx
  cases y with
  | non=>cases ry;exact PySem.EqNone.ne_none_none (cN I q #[2])
  | bl j=>cases ry;exact PySem.EqNone.ne_none_bool (cN I q #[2])
  | int j=>obtain⟨t',rfl⟩:=ry;exact PySem.EqNone.ne_none_int (cN I q #[2])
  | str j=>obtain⟨t',rfl⟩:=ry;exact PySem.EqNone.ne_none_str (cN I q #[2])
  | _=>exact absurd (show false=true from hs) am
 | bl i =>
  cases rx
  cases y with
  | non=>cases ry;exact PySem.EqNone.ne_bool_none (cN I q #[2])
  | bl j=>cases ry;exact ne_bool (cN I q (congrArg not Hc))
  | str j=>obtain⟨t',rfl⟩:=ry;exact PySem.EqMixed.ne_bool_str (cN I q #[2])
  | _=>exact absurd (show false=true from hs) am
 | int i =>
  obtain⟨t,rfl⟩:=rx
  cases y with
  | non=>cases ry;exact PySem.EqNone.ne_int_none (cN I q #[2])
  | int j=>obtain⟨t',rfl⟩:=ry;exact ne_int (cN I q (congrArg not Hf))
  | str j=>obtain⟨t',rfl⟩:=ry;exact PySem.EqMixed.ne_int_str (cN I q #[2])
  | _=>exact absurd (show false=true from hs) am
 | str i =>
  obtain⟨t,rfl⟩:=rx
  cases y with
  | non=>cases ry;exact PySem.EqNone.ne_str_none (cN I q #[2])
  | bl j=>cases ry;exact PySem.EqMixed.ne_str_bool (cN I q #[2])
  | int j=>obtain⟨t',rfl⟩:=ry;exact PySem.EqMixed.ne_str_int (cN I q #[2])
  | str j=>obtain⟨t',rfl⟩:=ry;exact ne_str (cN I q (congrArg not Aq))
  | _=>exact absurd (show false=true from hs) am
 | byt i =>
  obtain⟨t,rfl⟩:=rx
  cases y with
  | byt j=>obtain⟨t',rfl⟩:=ry;exact PySem.W.ne_bytes (cN I q (congrArg not Kf))
  | _=>exact absurd (show false=true from hs) am
 | _=>cases y<;>exact absurd (show false=true from hs) am
theorem Vg:OpR X (compareOp .Lt) (lC fun i j=>.bl (decide (i<j))):=vX fun _ _ _ _ _ _ _ q=>lt_int q
theorem CO:OpR X (compareOp .Gt) (lC fun i j=>.bl (decide (j<i))):=vX fun _ _ _ _ _ _ _ q=>gt_int q
theorem Wg:OpR X (compareOp .GtE) (lC fun i j=>.bl (decide (j<=i))):=vX fun _ _ _ _ _ _ _ q=>ge_int q
theorem OpR.or{f:Value->Value->Sem Value}{r r':R2}(h:OpR X f r)(h':OpR X f r'):OpR X f (fun x y H Q=>r x y H Q\/r' x y H Q):=by
 intro pins s σ H x y v u Q I rx ry q;rcases q with q | q
 ·exact h pins s σ H x y v u Q I rx ry q
 ·exact h' pins s σ H x y v u Q I rx ry q
theorem pZ(b:Expr){op:CmpOp}(h:op≠.In:=by decide)(h2:op≠.NotIn:=by decide):behindInMarks op b=false:=by
 have e1:(op==CmpOp.In)=false:=by cases op<;>first | rfl | exact absurd rfl h
 have e2:(op==CmpOp.NotIn)=false:=by cases op<;>first | rfl | exact absurd rfl h2
 cases b<;>simp[behindInMarks,e1,e2]
theorem iY:(sizeLine:Nat)<2^63:=by rw[sizeLine_eq];decide
theorem Sv:OpR X (binaryOp .Add) (fun x y H Q=>∃ i j,x=.str i/\y=.str j/\i.length+j.length<=sizeLine/\Q (.str (i++j)) H):=by
 intro pins s σ H x y v u Q I rx ry h;obtain⟨i,j,rfl,rfl,hz,q⟩:=h;obtain⟨t,rfl⟩:=rx;obtain⟨t',rfl⟩:=ry;exact add_str (fun t' tk=>⟨.str (i++j),H,I.tok _,⟨_,rfl⟩,q⟩) hz
theorem eR{x:V}{us:List Value}(r:Vals [x] us):∃ u,us=[u]/\RelV x u:=by
 cases r with
 | cons r1 r2=>cases r2;exact⟨_,rfl,r1⟩
theorem Py{x y:V}{us:List Value}(r:Vals [x,y] us):∃ u w',us=[u,w']/\RelV x u/\RelV y w':=by
 cases r with
 | cons r1 r2 =>
  cases r2 with
  | cons r3 r4=>cases r4;exact⟨_,_,rfl,r1,r3⟩
theorem GA:CallR X (.builtin "abs") (fun xs H Q=>∃ i,xs=[.int i]/\Q (.int (if i<0 then -i else i)) H):=by
 intro pins s σ H xs us Q I r h;obtain⟨i,rfl,q⟩:=h;obtain⟨u,rfl,t,rfl⟩:=eR r;exact call_abs_int fun u tk=>⟨.int (if i<0 then -i else i),H,I.tok _,⟨_,rfl⟩,q⟩
theorem De:CallR X (.type "int") (fun xs H Q=>(∃ i,xs=[.int i]/\Q (.int i) H)\/∃ k,xs=[.bl k]/\Q (.int (if k then 1 else 0)) H):=by
 intro pins s σ H xs us Q I r h;rcases h with⟨i,rfl,q⟩ | ⟨k,rfl,q⟩
 ·obtain⟨u,rfl,t,rfl⟩:=eR r;exact call_int_int ⟨.int i,H,I,⟨_,rfl⟩,q⟩
 ·obtain⟨u,rfl,r1⟩:=eR r
  cases r1
  exact call_int_bool ⟨.int (if k then 1 else 0),H,I.tok _,⟨_,rfl⟩,q⟩
end
structure ObjM (h:Heap) (x dx C:Addr) (mA:Str->Option Value):Prop where
 obj:h.get? x=some (PySem.W.instObj C dx)
 ns:h.Ns1 dx mA
 ne:dx≠x
theorem G0{h:Heap}{dx:Addr}{mA:Str->Option Value}(n:h.Ns1 dx mA):∃ od,h.get? dx=some od/\∀ name,PySem.W.lookIn name od=some (mA name):=by
 obtain⟨o,es,ep,ho,hd,hk,_,hm⟩:=n;refine⟨o,ho,fun name=>?_⟩;have e:=hm name
 unfold nsFind findBy at e;rw[<- Array.find?_toList]at e;unfold PySem.W.lookIn;rw[hd];dsimp only
 split
 ·rename_i y q;rw[q]at e;exact congrArg some e
 ·rename_i q;rw[q]at e;have a:es.toList.any (·.refKey)=false:=by
   rw[List.any_eq_false];intro y hy;obtain⟨z,t,hkey⟩:=hk y (Array.mem_toList_iff.mp hy);simp[DictEntry.refKey,hkey]
  have a':¬ es.toList.any (·.refKey)=true:=by rw[a];exact am
  rw[if_neg a'];exact congrArg some e
theorem ObjM.look{h:Heap}{x dx C:Addr}{mA:Str->Option Value}(I:ObjM h x dx C mA):∃ od,PySem.W.InstAt h x (PySem.W.instObj C dx) C (some od)/\∀ name,PySem.W.lookIn name od=some (mA name) :=
 let ⟨od,ho,hl⟩:=G0 I.ns
 ⟨od,⟨I.obj,rfl,rfl,ho⟩,hl⟩
section
variable {prog:Program}{w:World}{A:Around}{E:Value->Shared->Prop}{s:Shared}{K:ad}{x dx C f:Addr}{mA:Str->Option Value}{name:Str}{v:Value}
theorem pN{expr:Bool}{Q:Value->Shared->Prop}(X:K.In s.heap)(I:ObjM s.heap x dx C mA)(hg:PySem.W.plainGet K C name=true)(hh:PySem.W.hasDictIn K C=true)
  (ha:PySem.W.findIn K (.ref C) name=some none) (hv:mA name=some v) (hv':PySem.W.handedIn v=true) (h:Q v {s with toks:=s.toks+1}) :
  wpAny (model prog w) A (getAttr (.ref x) name expr) Q E s:=by
 obtain⟨od,J,hl⟩:=I.look;exact PySem.W.get_value X J (PySem.W.plainGet_of hg).1 (PySem.W.findObj_own hh ha rfl (by rw[hl,hv])) hv' h
end
theorem RelO.some_of{v:V}{o:Option Value}(r:RelO (some v) o):∃ u,o=some u/\RelV v u:=by
 cases o with
 | none=>exact(show False from r).elim
 | some u=>exact⟨u,rfl,r⟩
structure Cls (K:ad) (C:Addr):Prop where
 pg:PySem.W.plainGet K C Str.empty=true
 hd:PySem.W.hasDictIn K C=true
 po:PySem.W.plainOver K C=true
 sa:PySem.W.findIn K (.ref C) "__setattr__"=some (some (.builtin "object.__setattr__"))
theorem Cls.get{K:ad}{C:Addr}(c:Cls K C)(f:Str):PySem.W.plainGet K C f=true:=c.pg
structure Room (k:Nat) (A:Around):Prop where
 hd:A.handled=none
 gd:A.guards=some []
 dp:A.depth+3*k+5<recursionLimit
 un:A.units+16*k+200<cLine
theorem Room.mono{j k:Nat}{A:Around}(r:Room k A)(h:j<=k):Room j A:=⟨r.hd,r.gd,by have:=r.dp;omega,by have:=r.un;omega⟩
theorem Room.deeper{k:Nat}{A:Around}(r:Room (k+1) A)(env:Env):Room k (A.deeper env) :=
 ⟨r.hd,r.gd,by have:=r.dp;show A.depth+1+3*k+5<_;omega,by have:=r.un;show A.units+3+16*k+200<_;omega⟩
theorem Room.in1{k:Nat}{A:Around}(r:Room (k+1) A):Room k A.in1 :=
 ⟨r.hd,r.gd,by have:=r.dp;show A.depth+3*k+5<_;omega,by have:=r.un;show A.units+1+16*k+200<_;omega⟩
theorem Room.depth{k:Nat}{A:Around}(r:Room k A):A.depth<recursionLimit:=by have:=r.dp;omega
theorem Room.units{k:Nat}{A:Around}(r:Room k A):A.units+64<cLine:=by have:=r.un;omega
def Ql:TA:=fun _ H Q=>Q [] H
def j5(ta:TE)(tr:TA):TA:=fun σ H Q=>ta σ H fun x H1=>tr σ H1 fun xs H2=>Q (x::xs) H2
section
variable {X:Cx}{e:Expr}{es:List Expr}{te:TE}{t:TA}{pos:Pos}
theorem kX:PA X [] Ql:=fun _ _ _ _ H Q I h=>Calls.spliced_nil ⟨[],H,I,.nil,h⟩
theorem jY(ha:PE X e te)(hr:PA X es t)(hs:starEach (e::es) X.env=(false,eval e X.env)::starEach es X.env:=by rfl):PA X (e::es) (j5 te t):=by
 intro pos pins s σ H Q I h;rw[hs];show wpAny _ _ (spliced ((false,eval e X.env)::backTo pos (starEach es X.env))) _ _ s
 refine Calls.spliced_cons (aS (ha pins s σ H _ I h) fun u s1 ⟨x,H1,I1,r1,q1⟩=>?_);exact aS (hr pos pins s1 σ H1 _ I1 q1) fun us s2 ⟨xs,H2,I2,r2,q2⟩=>⟨x::xs,H2,I2,.cons r1 r2,q2⟩
def Xn(t:TA):TE:=fun σ H Q=>t σ H fun xs H1=>xs.length<=sizeLine/\∀ p,H1 p=none->Q (.ref p) (upd H1 p (.tup xs))
theorem uW{x1}(h:PA X es t):PE X (.Tuple es x1 pos) (Xn t):=by
 intro pins s σ H Q I hq;refine wpAny_Tuple_spliced (aS (h pos pins s σ H _ I hq) fun us s1 ⟨xs,H1,I1,r,z,q⟩=>⟨by rw[<- r.length];exact z,?_⟩)
 have hf:H1 s1.heap.objs.size=none:=I1.hok.fresh (ak _)
 refine⟨.ref s1.heap.objs.size,upd H1 s1.heap.objs.size (.tup xs),I1.laid (t':=s1.toks) (fun b u e=>ah _ e) (ak _) ?_,rfl,q _ hf⟩;exact⟨⟨z,NoD.new _ _ _⟩,us,r,⟨_,ai _ rfl,rfl,_,rfl⟩⟩
end
abbrev Sp:=List V->Hp->VK->XK->Prop
abbrev gQ:=List Env->Hp->Shared->XK->Value->Shared->Prop
structure Env0 (P:Program) (w:World) (K:ad) (mg:Str->Option Value) (base:Heap) (A:Around) (outer:List Env) (s:Shared) (H:Hp):Prop where
 frames:A.frames=some outer
 mod:Mod K mg base
 bs:∀ b o,base.get? b=some o->s.heap.get? b=some o/\H b=none
 bsz:base.objs.size<=s.heap.objs.size
 funs:s.heap.FunFrames base outer
 frf:∀ b∈gJ outer,H b=none
 hok:HOk P w H s.heap
 bare:AllBare s.gens
def CE(outer:List Env)(P:Program)(w:World)(H:Hp)(s:Shared)(Q:VK)(u:Value)(s':Shared):Prop :=
 ∃ v H',s'.os=s.os/\AllBare s'.gens/\Un (gJ outer) [] H H' s.heap s'.heap/\HOk P w H' s'.heap/\RelV v u/\Q v H'
def CR(CX:gQ)(outer:List Env)(P:Program)(w:World)(H:Hp)(s:Shared)(Q:VK)(E:XK)(r:Result)(s':Shared):Prop :=
 match r with
 | .ok (.ret u)=>CE outer P w H s Q u s'
 | .ok _=>False
 | .error e=>CX outer H s E e s'
structure FnOk (P:Program) (w:World) (K:ad) (mg:Str->Option Value) (base:Heap) (CX:gQ) (k:Nat) (f:Addr) (fd:FuncData) (ps:List Str) (sp:Sp):Prop where
 len:∀ vs H Q E,sp vs H Q E->vs.length=ps.length
 run:∀ (A:Around) (outer:List Env) (s:Shared) (H:Hp) (args:Args) (us:List Value) (vs:List V) (Q:VK) (E:XK),Room k A->Env0 P w K mg base A outer s H->BindsTo s fd args (ps.zip us)->Vals vs us->sp vs H Q E ->
  codeAny (model P w) A (.call (.ref f) args) (CR CX outer P w H s Q E) s
theorem FnOk.mono{P:Program}{w:World}{K:ad}{mg:Str->Option Value}{base:Heap}{CX:gQ}{j k:Nat}{f:Addr}{fd:FuncData}{ps:List Str}{sp:Sp}(F:FnOk P w K mg base CX j f fd ps sp)(h:j<=k) :
  FnOk P w K mg base CX k f fd ps sp:=⟨F.len,fun A outer s H args us vs Q E hr=>F.run A outer s H args us vs Q E (hr.mono h)⟩
theorem FnOk.imp{P:Program}{w:World}{K:ad}{mg:Str->Option Value}{base:Heap}{CX:gQ}{k:Nat}{f:Addr}{fd:FuncData}{ps:List Str}{sp sp':Sp}(F:FnOk P w K mg base CX k f fd ps sp)
  (h:∀ vs H Q E,sp' vs H Q E->sp vs H Q E):FnOk P w K mg base CX k f fd ps sp' :=
 ⟨fun vs H Q E q=>F.len vs H Q E (h _ _ _ _ q),fun A outer s H args us vs Q E hr he hb hv hs=>F.run A outer s H args us vs Q E hr he hb hv (h _ _ _ _ hs)⟩
theorem Env0.in1{P:Program}{w:World}{K:ad}{mg:Str->Option Value}{base:Heap}{A:Around}{outer:List Env}{s:Shared}{H:Hp}(e:Env0 P w K mg base A outer s H) :
  Env0 P w K mg base A.in1 outer s H:=⟨e.frames,e.mod,e.bs,e.bsz,e.funs,e.frf,e.hok,e.bare⟩
section
variable {X:Cx}{pins:List (Addr×Obj)}{σ:St}{H:Hp}{s s':Shared}
theorem Inv.env0(I:Inv X pins σ H s):Env0 X.prog X.w X.K X.mg X.base X.A X.stack s H :=
 ⟨I.ok.frames,I.ok.mod,I.bs,Nat.le_trans I.ok.bsz I.sz,I.stack,I.stkFree,I.hok,I.bare⟩
theorem Inv.after{Q:VK}{u:Value}(I:Inv X pins σ H s)(h:CE X.stack X.prog X.w H s Q u s'):EP X pins σ Q u s':=by
 obtain⟨v,H',os,bare,un,hok,r,q⟩:=h;obtain⟨hh,g,d,t,os'⟩:=s';obtain rfl:os'=s.os:=os;exact⟨v,H',I.call (h':=hh) (g':=g) (d':=d) (t':=t) (ch:=[]) un hok bare (fun b z=>absurd z #[2]),r,q⟩
end
def Ka(sp:Sp)(dvs:List V)(E:XK)(t:TA):TE:=fun σ H Q=>t σ H fun vs H1=>sp (vs++dvs) H1 Q E
def Binds(K:ad)(fd:FuncData)(ps:List Str)(ds:List Value):Prop :=
 ∀ (s:Shared) (us:List Value),K.In s.heap->(us++ds).length=ps.length->BindsTo s fd ⟨us,[]⟩ (ps.zip (us++ds))
theorem Binds.all{K:ad}{fd:FuncData}{ps:List Str}(h:∀ us:List Value,us.length=ps.length->bindArgs fd ⟨us,[]⟩=pure (ps.zip us)):Binds K fd ps []:=fun s us _ hl=>by
 rw[List.append_nil]at hl ⊢;exact .of_eq (h us hl)
def qB(CX:gQ)(X:Cx)(E:XK):Prop:=∀ (pins:List (Addr×Obj)) (σ:St) (H:Hp) (s:Shared) (e:Value) (s':Shared),Inv X pins σ H s->CX X.stack H s E e s'->X.xe e s'
section
variable {X:Cx}{CX:gQ}{k:Nat}{f C:Addr}{fd:FuncData}{ps:List Str}{sp:Sp}{dvs:List V}{ds:List Value}{E:XK}{x m:Str}{p pos apos:Pos}{e o:Expr}{es:List Expr}{ta:TE}{t:TA}
theorem Gu{pins:List (Addr×Obj)}{σ:St}{H:Hp}{s:Shared}{Q:VK}{us:List Value}{vs:List V}(F:FnOk X.prog X.w X.K X.mg X.base CX k f fd ps sp)(hr:Room k X.A)(hb:Binds X.K fd ps ds)(hd:Vals dvs ds)(hx:qB CX X E)
  (I:Inv X pins σ H s) (r:Vals vs us) (h:sp (vs++dvs) H Q E):wpAny (model X.prog X.w) X.A (call (.ref f) us) (EP X pins σ Q) X.xe s:=by
 have r2:Vals (vs++dvs) (us++ds):=r.append hd
 have hl:(us++ds).length=ps.length:=by rw[<- r2.length];exact F.len _ _ _ _ h
 refine wpAny_call (codeAny_mono (F.run X.A X.stack s H ⟨us,[]⟩ (us++ds) (vs++dvs) Q E hr I.env0 (hb s us I.kIn hl) r2 h) fun r s' hq=>?_)
 cases r with
 | error e=>exact hx pins σ H s e s' I hq
 | ok fl =>
  cases fl with
  | ret u=>exact I.after hq
  | next=>exact False.elim hq
  | brk=>exact False.elim hq
  | cont=>exact False.elim hq
theorem BR(F:FnOk X.prog X.w X.K X.mg X.base CX k f fd ps sp)(hr:Room k X.A)(hg:Gl X x)(hm:X.mg x=some (.ref f))(hk:PySem.W.keepIn X.K (.ref f)=true)(hb:Binds X.K fd ps ds)(hd:Vals dvs ds)(hx:qB CX X E)
  (ha:PA X (e::es) t) (hdb:(x==("__debug__" : Str))=false:=by decide) (he:starEach (e::es) X.env=(false,eval e X.env)::starEach es X.env:=by rfl) (hpl:(backTo pos (starEach es X.env)).any (·.1)=false:=by rfl) :
  PE X (.Call (.Name x p) (e::es) [] pos) (Ka sp dvs E t):=by
 intro pins s σ H Q I h;refine wpAny_Call_Name_kw (tH I hg hm ?_ hdb);refine PySem.W.callWith_K (h₀:=X.base) I.ok.mod.kin hk (aS (ha pos pins s σ H _ I h) fun us s1 ⟨vs,H1,I1,r,q⟩=>⟨I1.kIn,?_⟩) he hpl;exact Gu F hr hb hd hx I1 r q
theorem D0(F:FnOk X.prog X.w X.K X.mg X.base CX k f fd ps sp)(hr:Room k X.A)(hg:Gl X x)(hm:X.mg x=some (.ref f))(hk:PySem.W.keepIn X.K (.ref f)=true)(hb:Binds X.K fd ps ds)(hd:Vals dvs ds)(hx:qB CX X E)
  (hdb:(x==("__debug__" : Str))=false:=by decide):PE X (.Call (.Name x p) [] [] pos) (Ka sp dvs E Ql):=by
 intro pins s σ H Q I h;refine wpAny_Call_Name_kw (tH I hg hm ?_ hdb);exact PySem.W.callWith_K0 I.kIn hk (Gu (us:=[]) F hr hb hd hx I .nil h)
end
structure FnScope (N P:List Str) (sc:Scope):Prop where
 kind:sc.kind=.function
 co:sc.isCoroutine=false
 gen:sc.isGenerator=false
 nd:N.Nodup
 pre:N.take P.length=P
 par:∀ x∈P,sc.names.lookup x=some .local\/sc.names.lookup x=some .cell
 nofree:∀ y∈sc.names,y.2≠.free
theorem Fq{kindOf:Str->Option NameKind}{x:Str}:∀ {binds:List (Str×Value)} {m:Str->Option Value},(∀ v,(x,v)∉binds)->bindL kindOf binds m x=m x
 | [],_,_=>rfl
 | (n,v)::r,m,h=>by
  unfold bindL;rw[Fq fun w hw=>h w (aq _ hw)]
  split
  ·have:x≠n:=by rintro rfl;exact h v List.mem_cons_self
   simp[this]
  ·rfl
theorem Oo{kindOf:Str->Option NameKind}{x:Str}:∀ {binds:List (Str×Value)} {m:Str->Option Value},(∀ v,(x,v)∉binds)->bindC kindOf binds m x=m x
 | [],_,_=>rfl
 | (n,v)::r,m,h=>by
  unfold bindC;rw[Oo fun w hw=>h w (aq _ hw)]
  split
  ·rfl
  ·have:x≠n:=by rintro rfl;exact h v List.mem_cons_self
   simp[this]
theorem Mj{kindOf:Str->Option NameKind}{x:Str}{v:Value}:∀ {P:List Str} {vs:List Value} {i:Nat} {m:Str->Option Value},P.Nodup->P[i]?=some x->vs[i]?=some v->kindOf x=some .local ->
  bindL kindOf (P.zip vs) m x=some v
 | [],_,_,_,_,h,_,_=>by simp at h
 | _::_,[],_,_,_,_,h,_=>by simp at h
 | p::P,w::vs,0,m,nd,h1,h2,hk=>by
  simp at h1 h2;subst h1;subst h2;show bindL kindOf ((p,w)::P.zip vs) m p=_
  unfold bindL;rw[Fq fun v hv=>(List.nodup_cons.mp nd).1 (List.of_mem_zip hv).1,if_pos hk];simp
 | p::P,w::vs,i+1,m,nd,h1,h2,hk=>by
  show bindL kindOf ((p,w)::P.zip vs) m x=_
  unfold bindL;exact Mj (i:=i) (List.nodup_cons.mp nd).2 #[4,h1] #[4,h2] hk
theorem Gf{kindOf:Str->Option NameKind}{x:Str}{v:Value}:∀ {P:List Str} {vs:List Value} {i:Nat} {m:Str->Option Value},P.Nodup->P[i]?=some x->vs[i]?=some v->kindOf x≠some .local ->
  bindC kindOf (P.zip vs) m x=some v
 | [],_,_,_,_,h,_,_=>by simp at h
 | _::_,[],_,_,_,_,h,_=>by simp at h
 | p::P,w::vs,0,m,nd,h1,h2,hk=>by
  simp at h1 h2;subst h1;subst h2;show bindC kindOf ((p,w)::P.zip vs) m p=_
  unfold bindC;rw[Oo fun v hv=>(List.nodup_cons.mp nd).1 (List.of_mem_zip hv).1,if_neg hk];simp
 | p::P,w::vs,i+1,m,nd,h1,h2,hk=>by
  show bindC kindOf ((p,w)::P.zip vs) m x=_
  unfold bindC;exact Gf (i:=i) (List.nodup_cons.mp nd).2 #[4,h1] #[4,h2] hk
def start(N:List Str)(vs:List V):St:=vs.map some++List.replicate (N.length-vs.length) none
def iB(CX:gQ)(P:Program)(w:World)(K:ad)(mg:Str->Option Value)(base:Heap)(N:List Str)(qual:Str)(scope:Scope)(f:Addr)(cd:Value)(A:Around)(outer:List Env)(s:Shared)(H:Hp)(E:XK):Cx where
 prog:=P
 w:=w
 K:=K
 mg:=mg
 base:=base
 A:=A.deeper (envOfC qual scope s.heap.objs.size f cd)
 N:=N
 s₀:=s
 H₀:=H
 env:=envOfC qual scope s.heap.objs.size f cd
 outer:=outer
 stack:=envOfC qual scope s.heap.objs.size f cd::outer
 ex:=[]
 calm:=true
 fn:=fun _=>true
 pn:=[]
 xe:=fun e s'=>wpAny (model P w) (A.deeper (envOfC qual scope s.heap.objs.size f cd)) («leaving» (envOfC qual scope s.heap.objs.size f cd) e) (fun _ s''=>CX outer H s E e s'') (fun e' s''=>CX outer H s E e' s'') s'
theorem Ba{sc:Scope}{n:Nat}{x:Str}(h:sc.names.lookup x=some .cell):∃ c,(cellsFrom n sc.names []).lookup x=some c:=by
 have q:=PySem.W.cellsFrom_some sc.names n [] (.inl h)
 exact Option.isSome_iff_exists.mp q
theorem EB{CX:gQ}{P:Program}{w:World}{K:ad}{mg:Str->Option Value}{base:Heap}{N ps:List Str}{qual:Str}{scope:Scope}{f:Addr}{cd:Value}{A:Around}{outer:List Env}{s s1:Shared}{H:Hp}{E:XK}{us:List Value}{vs:List V}
  (S:FnScope N ps scope) (hd:A.handled=none) (e0:Env0 P w K mg base A outer s H) (hl:vs.length=ps.length) (r:Vals vs us)
  (x:InCallC s s.heap.objs.size (bindL (envOfC qual scope s.heap.objs.size f cd).kindOf (ps.zip us) fun _=>none) (cellsFrom (s.heap.objs.size+1) scope.names []) (bindC (envOfC qual scope s.heap.objs.size f cd).kindOf (ps.zip us) fun _=>none) s1) :
  Inv (iB CX P w K mg base N qual scope f cd A outer s H E) [] (start N vs) H s1:=by
 have hpl:ps.length<=N.length:=by have:=congrArg List.length S.pre;rw[List.length_take]at this;omega
 obtain⟨h1,tk,rfl,hk⟩:=x.done;have noA:∀ b:Addr,b∉(iB CX P w K mg base N qual scope f cd A outer s H E).ex:=fun b z=>absurd (show b∈([]:List Addr) from z) #[2]
 refine⟨⟨e0.mod,S.kind,rfl,rfl,ak _,fun y z c h1 h2=>?_,fun y hy=>?_,fun y c _ h=>?_,fun _=>hd,Around.frames_deeper e0.frames,.inr ⟨rfl,rfl⟩,fun b z=>absurd z (noA b),e0.bs,e0.bsz,fun b _ _=>noA b,fun b z=>absurd z (noA b),e0.funs,e0.frf⟩,
  rfl,e0.bare,Un.kept hk,⟨_,x.toInCall.ns,fun i y v h1 h2 h3=>?_⟩,fun y c h=>⟨_,x.cell y c h⟩,e0.hok.fresh (ak _),fun y c h=>?_,fun p hp=>absurd (show p∈([]:List (Addr×Obj)) from hp) #[2],e0.hok.kept hk,?_⟩
 ·exact name_of_addr x.apart (PySem.mem_of_lookup h1) (PySem.mem_of_lookup h2)
 ·have hy:scope.names.lookup y=some .cell\/scope.names.lookup y=some .free:=hy
  rcases hy with hy | hy
  ·exact Ba hy
  ·exact absurd rfl (S.nofree _ (PySem.mem_of_lookup hy))
 ·exact Nat.le_of_lt (x.above y c (PySem.mem_of_lookup h))
 ·have hi:i<vs.length:=by
   unfold start at h2
   by_cases hi:i<vs.length
   ·exact hi
   ·rw[List.getElem?_append_right #[4,hi]]at h2
    rw[List.getElem?_replicate]at h2
    split at h2<;>cases h2
  have ha:vs[i]?=some v:=by
   unfold start at h2;rw[List.getElem?_append_left #[4,hi],List.getElem?_map]at h2
   cases e:vs[i]? with
   | none=>rw[e]at h2;cases h2
   | some a=>rw[e]at h2;cases h2;rfl
  obtain⟨u,hu,rv⟩:=r.get ha;have hp:ps[i]?=some y:=by
   rw[<- S.pre,List.getElem?_take_of_lt #[0]];exact h1
  have ndP:ps.Nodup:=by rw[<- S.pre];exact S.nd.sublist (List.take_sublist _ _)
  refine⟨u,rv,?_⟩;rcases S.par y (List.mem_of_getElem? hp) with k | k
  ·exact .inl ⟨k,Mj ndP hp hu k⟩
  ·obtain⟨c,e⟩:=Ba (n:=s.heap.objs.size+1) k;refine .inr ⟨.inl k,c,e,?_⟩;have q:=x.cell y c e
   rw[Gf ndP hp hu (by show scope.names.lookup y≠_;rw[k];decide)]at q
   exact q
 ·exact e0.hok.fresh (Nat.le_of_lt (x.above y c (PySem.mem_of_lookup h)))
 ·unfold start;show _=N.length
  rw[List.length_append,av,List.length_replicate];omega
theorem V0{CX:gQ}{P:Program}{w:World}{K:ad}{mg:Str->Option Value}{base:Heap}{k:Nat}{f:Addr}{name qual:Str}{params:Arguments}{body:List Stmt}{scope:Scope}{dV kV doc pm cdv ct oc:Value}{an od:Option Addr}
  {osl:Array (Option Value)} {N ps:List Str} {sp:Sp} (lk:K.lookup f=some ⟨oc,od,.func (PySem.W.fnOf name qual params body scope dV kV doc pm an cdv ct),osl⟩) (hcd:PySem.W.codeIn K cdv qual=true) (S:FnScope N ps scope)
  (len:∀ vs H Q E,sp vs H Q E->vs.length=ps.length)
  (hbody:∀ (A:Around) (outer:List Env) (s:Shared) (H:Hp) (vs:List V) (Q:VK) (E:XK),Room k (A.deeper (envOfC qual scope s.heap.objs.size f cdv))->sp vs H Q E ->
   ∃ t,PSs (iB CX P w K mg base N qual scope f cdv A outer s H E) body t/\t {nx:=fun _ H'=>Q .non H',rt:=Q} (start N vs) H) :
  FnOk P w K mg base CX (k+1) f (PySem.W.fnOf name qual params body scope dV kV doc pm an cdv ct) ps sp:=by
 refine⟨len,fun A outer s H args us vs Q E hr e0 hb r hsp=>?_⟩;have hl:=len _ _ _ _ hsp
 have KX:K.In s.heap:=e0.mod.kin.keeps fun b o e=>(e0.bs b o e).1
 have lim:s.heap.NoLimit:=e0.mod.nolimit.keeps fun b o e=>(e0.bs b o e).1
 have hkind:∀ y∈ps.zip us,scope.names.lookup y.1=some .local\/(scope.names.lookup y.1=some .cell/\((cellsFrom (s.heap.objs.size+1) scope.names []).lookup y.1).isSome=true):=fun⟨n,v⟩ hy=>by
  rcases S.par n (List.of_mem_zip hy).1 with q | q
  ·exact .inl q
  ·exact .inr ⟨q,PySem.W.cellsFrom_some _ _ _ (.inl q)⟩
 refine codeAny_call_function hr.depth (KX _ _ lk) rfl S.co S.gen rfl (PySem.W.codeRec_of KX hcd) (hb _ _ _ _ ?_);refine wpAny_newFunctionEnv_cells S.kind hkind fun env he s1 x=>?_;subst he;refine⟨lim.keeps x.toInCall.keep,codeAny_func ?_⟩;obtain⟨t,ht,hq⟩:=hbody A outer s H vs Q E (hr.deeper _) hsp;have I:Inv (iB CX P w K mg base N qual scope f cdv A outer s H E) [] (start N vs) H s1:=EB S hr.hd e0 hl r x
 refine wpAny_mono (ht [] s1 (start N vs) H _ I hq) (fun fl s' hs=>?_) fun e s' hs=>hs;have fin:∀ {σ':St} {H':Hp} {v:V} {u:Value},Inv (iB CX P w K mg base N qual scope f cdv A outer s H E) [] σ' H' s'->RelV v u->Q v H'->CE outer P w H s Q u s' :=
  fun {σ' H' v u} J rv q=>⟨v,H',J.os,J.bare,J.base,J.hok,rv,q⟩
 cases fl with
 | ret u =>
  obtain⟨v,σ',H',J,rv,q⟩:=hs;exact fin J rv q
 | next =>
  obtain⟨σ',H',J,q⟩:=hs;exact fin (v:=V.non) (u:=Value.none) J rfl q
 | brk =>
  obtain⟨_,_,_,q⟩:=hs;exact False.elim q
 | cont =>
  obtain⟨_,_,_,q⟩:=hs;exact False.elim q
section
variable {X:Cx}{x:Str}{p pos:Pos}{e:Expr}{es:List Expr}{t:TA}{id T:String}{r:List V->Hp->VK->Prop}
def Oc(r:List V->Hp->VK->Prop)(t:TA):TE:=fun σ H Q=>t σ H fun vs H1=>r vs H1 Q
theorem AW(hc:CallR X (.builtin id) r)(hg:Gl X x)(hm:X.mg x=none)(hv:bootBuiltins x=some (.builtin id))(ha:PA X (e::es) t)(hn:x≠"__name__":=by decide)(hdb:(x==("__debug__" : Str))=false:=by decide)
  (he:starEach (e::es) X.env=(false,eval e X.env)::starEach es X.env:=by rfl) (hpl:(backTo pos (starEach es X.env)).any (·.1)=false:=by rfl):PE X (.Call (.Name x p) (e::es) [] pos) (Oc r t):=by
 intro pins s σ H Q I h;refine wpAny_Call_Name_kw (gU I hg hm hv ?_ hn hdb);exact PyProof.Rows.callWith_builtin1 (aS (ha pos pins s σ H _ I h) fun us s1 ⟨vs,H1,I1,r1,q1⟩=>hc pins s1 σ H1 vs us Q I1 r1 q1) he hpl
theorem FC(hc:CallR X (.type T) r)(hg:Gl X x)(hm:X.mg x=none)(hv:bootBuiltins x=some (.type T))(ha:PA X (e::es) t)(hn:x≠"__name__":=by decide)(hdb:(x==("__debug__" : Str))=false:=by decide)
  (he:starEach (e::es) X.env=(false,eval e X.env)::starEach es X.env:=by rfl) (hpl:(backTo pos (starEach es X.env)).any (·.1)=false:=by rfl):PE X (.Call (.Name x p) (e::es) [] pos) (Oc r t):=by
 intro pins s σ H Q I h;refine wpAny_Call_Name_kw (gU I hg hm hv ?_ hn hdb);exact PyProof.Rows.callWith_type1 (aS (ha pos pins s σ H _ I h) fun us s1 ⟨vs,H1,I1,r1,q1⟩=>hc pins s1 σ H1 vs us Q I1 r1 q1) he hpl
end
end L2
namespace HT
open PySem PyProof.Rows
section
variable {prog:Program}{w:World}{A:Around}{E:Value->Shared->Prop}{s:Shared}
theorem cat_tup{t b:Addr}{vs ws:List Value}{Q:Value->Shared->Prop}(ht:IsTup s.heap t vs.toArray)(hb:IsTup s.heap b ws.toArray)(hv:vs≠[])
  (h1:ws=[]->Q (.ref t) s) (h2:ws≠[]->Q (.ref s.heap.objs.size) {s with heap:=s.heap.push {cls:=.type "tuple",data:=.seq (vs++ws).toArray}})
  (hsz:vs.length+ws.length<=sizeLine):wpAny (model prog w) A (binaryOp .Add (.ref t) (.ref b)) Q E s:=by
 obtain⟨⟨cls,dd,data,sl⟩,ho,hc,n,hd⟩:=id ht;obtain⟨⟨cls2,dd2,data2,sl2⟩,ho2,hc2,n2,hd2⟩:=id hb;simp only at hc hd hc2 hd2;subst hc hd hc2 hd2;have e:vs.toArray++ws.toArray=(vs++ws).toArray:=by simp
 by_cases hw:ws=[]
 ·exact concat_meets ⟨_,ho,rfl⟩ ⟨_,ho2,rfl⟩ noFill_tuple_add seq_tuple_add PySem.F.slot_tuple_add PySem.F.entry_tuple_add (PySem.F.args_tuple_add_2 _ _)
   (tuple_addW1 t b vs.toArray ws.toArray n n2 dd dd2 sl sl2 #[4,hv] (by simp[hw])) ⟨ho,ho2,h1 hw⟩
 ·refine concat_meets ⟨_,ho,rfl⟩ ⟨_,ho2,rfl⟩ noFill_tuple_add seq_tuple_add PySem.F.slot_tuple_add PySem.F.entry_tuple_add (PySem.F.args_tuple_add_2 _ _)
   (tuple_addW2 t b vs.toArray ws.toArray n n2 dd dd2 sl sl2 #[4,hv] #[4,hw] (by rw[ay,ay];exact hsz)) ⟨ho,ho2,?_⟩
  rw[e];exact h2 hw
def sIx(n d:Nat):Option Int->Nat
 | none=>d
 | some v=>if v<0 then (v+(n:Int)).toNat else min v.toNat n
theorem sIx_nat(n d k:Nat):sIx n d (some (k:Int))=min k n:=by
 show(if (k:Int)<0 then ((k:Int)+(n:Int)).toNat else min (k:Int).toNat n)=min k n
 rw[if_neg #[0],Int.toNat_natCast]
theorem Y5(n d:Nat)(hd:d<=n)(o:Option Int):sIx n d o<=n:=by
 cases o with
 | none=>exact hd
 | some v =>
  show(if v<0 then (v+(n:Int)).toNat else min v.toNat n)<=n
  by_cases hv:v<0
  ·rw[if_pos hv];omega
  ·rw[if_neg hv];exact Nat.min_le_right _ _
theorem Et(v:Int)(n d:Nat):(if v<0 then max (v+(n:Int)) 0 else min v (n:Int))=((sIx n d (some v):Nat):Int):=by
 show(if v<0 then max (v+(n:Int)) 0 else min v (n:Int))=(((if v<0 then (v+(n:Int)).toNat else min v.toNat n):Nat):Int)
 by_cases hv:v<0
 ·simp only[if_pos hv];omega
 ·simp only[if_neg hv];omega
theorem DR(lo hi:Option Int)(n:Nat):Builtin.Slice.sliceAdjust lo hi 1 (n:Int)=(((sIx n 0 lo:Nat):Int),((sIx n n hi:Nat):Int)):=by
 have h1:¬ ((1:Int)<0):=by omega
 unfold Builtin.Slice.sliceAdjust;simp only[h1,if_false];refine Prod.ext ?_ ?_
 ·cases lo with
  | none=>rfl
  | some v=>exact Et v n 0
 ·cases hi with
  | none=>rfl
  | some v=>exact Et v n n
theorem X8(i j:Nat):Builtin.Slice.slicePlaces (i:Int) (j:Int) 1=j-i:=by
 unfold Builtin.Slice.slicePlaces;have h1:(1:Int) > 0:=by omega
 simp only[h1,if_true,Int.ediv_one]
 split<;>omega
theorem Ey{v:Value}{o:Option Int}{Q:Option Int->Shared->Prop}(p:IsPart v o)(h:Q o s):wpAny (model prog w) A (Builtin.Slice.slicePartIndex v) Q E s:=by
 cases p with
 | none=>exact slicePart_none h
 | int i t=>exact slicePart_int h
theorem sliceApplied_gen{sl:Addr}{vl vu:Value}{lo hi:Option Int}{n:Nat}{Q:Int×Int×Nat->Shared->Prop}(hs:s.heap.IsSliceOf sl vl vu .none)(pl:IsPart vl lo)(pu:IsPart vu hi)
  (h:Q (((sIx n 0 lo:Nat):Int),1,sIx n n hi-sIx n 0 lo) s):wpAny (model prog w) A (Builtin.Slice.sliceApplied (.ref sl) (pure (n:Int))) Q E s:=by
 obtain⟨os,hos,hcs,hds⟩:=id hs;unfold Builtin.Slice.sliceApplied Builtin.Slice.sliceFields;refine ae (ae (wpAny_field hos hds (x:=vl) rfl (ae (wpAny_field hos hds (x:=vu) rfl (ae (wpAny_field hos hds (x:=.none) rfl (af ?_)))))));refine ae (slicePart_none ?_);show wpAny _ _ (if ((1:Int)==0)=true then _ else _) _ _ s
 rw[if_neg #[1]]
 refine ae (Ey pl (ae (Ey pu (ae (af ?_)))));show wpAny _ _ (match Builtin.Slice.sliceAdjust lo hi 1 (n:Int) with | (lo,hi)=>pure (lo,(1:Int),Builtin.Slice.slicePlaces lo hi 1)) _ _ s
 rw[DR lo hi n];show wpAny _ _ (pure (((sIx n 0 lo:Nat):Int),(1:Int),Builtin.Slice.slicePlaces ((sIx n 0 lo:Nat):Int) ((sIx n n hi:Nat):Int) 1)) _ _ s
 rw[X8];exact af h
theorem C8(xs:Array Value)(i k:Nat):((List.range k).filterMap fun(m:Nat)=>xs[((i:Int)+(m:Int)*1).toNat]?).toArray=((xs.toList.drop i).take k).toArray:=by
 have e:(fun(m:Nat)=>xs[((i:Int)+(m:Int)*1).toNat]?)=fun m=>xs[i+m]?:=by
  funext m
  have:((i:Int)+(m:Int)*1).toNat=i+m:=by omega
  rw[this]
 rw[e];have:=pick_run xs i k
 rw[List.filterMap_map]at this;have e2:((fun x=>xs[x]?)∘fun x=>i+x)=fun m=>xs[i+m]?:=rfl
 rw[e2]at this;rw[this]
theorem getItem_tuple_cut{t sl:Addr}{items:Array Value}{vl vu:Value}{lo hi:Option Int}{Q:Value->Shared->Prop}(ht:IsTup s.heap t items)(hs:s.heap.IsSliceOf sl vl vu .none)(pl:IsPart vl lo)(pu:IsPart vu hi)
  (hw:¬ (sIx items.size 0 lo=0/\sIx items.size items.size hi=items.size))
  (h:Q (.ref s.heap.objs.size) {s with heap:=s.heap.push {cls:=.type "tuple",data:=.seq ((items.toList.drop (sIx items.size 0 lo)).take (sIx items.size items.size hi-sIx items.size 0 lo)).toArray}})
  (hsz:items.size<=sizeLine):wpAny (model prog w) A (getItem (.ref t) (.ref sl)) Q E s:=by
 have htake:sizeOk (.seq ((items.toList.drop (sIx items.size 0 lo)).take (sIx items.size items.size hi-sIx items.size 0 lo)).toArray):=by
  show((items.toList.drop (sIx items.size 0 lo)).take (sIx items.size items.size hi-sIx items.size 0 lo)).toArray.size<=sizeLine
  rw[ay,List.length_take,List.length_drop,Array.length_toList];omega
 have hj:sIx items.size items.size hi<=items.size:=Y5 _ _ (ak _) hi
 obtain⟨os,hos,hcs,hds⟩:=id hs;have hTs:s.TypeIs (.ref sl) "slice":=⟨os,hos,hcs⟩
 unfold getItem
 try with_reducible refine wpAny_holding ?_
 first | refine ae (af ?_) | skip
 refine ae (wpAny_sequenceKey ht.typeIs #[1] ?_)
 refine ae (wpAny_callSpecial?_slot (name:=Str.ofString "__getitem__") ht.typeIs PyProof.Rows.slot_tuple_getitem
  (wpAny_call_entry PyProof.Rows.slot_tuple_getitem ht.typeIs entry_tuple_getitem ?_ (args_tuple_getitem _ _)))
 show wpAny _ _ (Builtin.Tuple.tupleItemsOf (.ref t)>>=_) _ _ s
 refine ae (tupleItemsOf_ ht ?_);refine ae (wpAny_typeOf hTs ?_);rw[if_pos #[1]]
 refine ae (sliceApplied_gen hs pl pu ?_);have hno:¬ ((((sIx items.size 0 lo:Nat):Int)==0&&(1:Int)==1&&(sIx items.size items.size hi-sIx items.size 0 lo)==items.size)=true):=by
  intro q;rw[Bool.and_eq_true,Bool.and_eq_true]at q;have q1:((sIx items.size 0 lo:Nat):Int)=0:=eq_of_beq q.1.1
  have q2:sIx items.size items.size hi-sIx items.size 0 lo=items.size:=eq_of_beq q.2
  exact hw ⟨by omega,by omega⟩
 show wpAny _ _ (if (((sIx items.size 0 lo:Nat):Int)==0&&(1:Int)==1&&(sIx items.size items.size hi-sIx items.size 0 lo)==items.size)=true then _ else _) _ _ s
 rw[if_neg hno,C8]
 first
  | exact ae (m:=Builtin.Tuple.tupleExact _) (wpAny_newObj_type (af ⟨_,rfl,af h⟩) htake)
  | exact ae (m:=Builtin.Tuple.tupleExact _) (wpAny_newObj_type (ae (af (af ⟨_,rfl,af h⟩))) htake)
  | exact ae (ae (m:=Builtin.Tuple.tupleExact _) (wpAny_newObj_type (af (af ⟨_,rfl,af h⟩)) htake))
  | exact ae (ae (m:=Builtin.Tuple.tupleExact _) (wpAny_newObj_type (af ⟨_,rfl,af h⟩) htake))
end
end HT
namespace L2
open PySem PySem.Spec PyProof.Rows
abbrev TO:=St->Hp->(Option Int->Hp->Prop)->Prop
def PO(X:Cx)(e:Option Expr)(t:TO):Prop :=
 ∀ (pins:List (Addr×Obj)) (s:Shared) (σ:St) (H:Hp) (Q:Option Int->Hp->Prop),Inv X pins σ H s->t σ H Q ->
  wpAny (model X.prog X.w) X.A (evalPart e X.env) (fun u s'=>∃ o H',Inv X pins σ H' s'/\IsPart u o/\Q o H') X.xe s
def x4:TO:=fun _ H Q=>Q none H
def F3(t:TE):TO:=fun σ H Q=>t σ H fun x H1=>∃ i,x=.int i/\Q (some i) H1
section
variable {X:Cx}{e:Expr}{te:TE}{lo hi:Option Expr}{tl th:TO}{pos p2:Pos}
theorem Sj:PO X none x4:=by
 intro pins s σ H Q I h;rw[evalPart_none];exact af ⟨none,H,I,.none,h⟩
theorem Z8(h:PE X e te):PO X (some e) (F3 te):=by
 intro pins s σ H Q I hw;rw[evalPart_some];refine aS (h pins s σ H _ I hw) fun u s1 ⟨x,H1,I1,r1,q1⟩=>?_;obtain⟨i,rfl,q⟩:=q1;obtain⟨t,rfl⟩:=r1;exact⟨some i,H1,I1,.int i t,q⟩
def SlR(X:Cx)(r:V->Option Int->Option Int->Hp->VK->Prop):Prop :=
 ∀ (pins:List (Addr×Obj)) (s:Shared) (σ:St) (H:Hp) (x:V) (v vl vu:Value) (lo hi:Option Int) (sl:Addr) (Q:VK),Inv X pins σ H s->RelV x v->s.heap.IsSliceOf sl vl vu .none->IsPart vl lo->IsPart vu hi->r x lo hi H Q ->
  ∃ T id,typeLookup (.type T) "__getitem__"=pure (some (.builtin id))/\s.TypeIs v T/\wpAny (model X.prog X.w) X.A (getItem v (.ref sl)) (EP X pins σ Q) X.xe s
theorem SlR.or{r r':V->Option Int->Option Int->Hp->VK->Prop}(h:SlR X r)(h':SlR X r'):SlR X (fun x lo hi H Q=>r x lo hi H Q\/r' x lo hi H Q):=by
 intro pins s σ H x v vl vu lo hi sl Q I rx hs pl pu q;rcases q with q | q
 ·exact h pins s σ H x v vl vu lo hi sl Q I rx hs pl pu q
 ·exact h' pins s σ H x v vl vu lo hi sl Q I rx hs pl pu q
def Sd(r:V->Option Int->Option Int->Hp->VK->Prop)(te:TE)(tl th:TO):TE:=fun σ H Q=>te σ H fun x H1=>tl σ H1 fun l H2=>th σ H2 fun u H3=>r x l u H3 Q
theorem Sk{r:V->Option Int->Option Int->Hp->VK->Prop}(hr:SlR X r)(he:PE X e te)(hl:PO X lo tl)(hu:PO X hi th):PE X (.Subscript e (.Slice lo hi none p2) pos) (Sd r te tl th):=by
 intro pins s σ H Q I h;refine Subscript_ (aS (he pins s σ H _ I h) fun v s1 ⟨x,H1,I1,r1,q1⟩=>?_);refine wpAny_Slice (aS (hl pins s1 σ H1 _ I1 q1) fun vl s2 ⟨l,H2,I2,pl,q2⟩=>aS (hu pins s2 σ H2 _ I2 q2) fun vu s3 ⟨u,H3,I3,pu,q3⟩=>?_);rw[evalPart_none];refine af ?_;have I4:Inv X pins σ H3 {s3 with heap:=s3.heap.push {cls:=.type "slice",data:=.fields #[vl,vu,.none]}}:=I3.kept (t':=s3.toks) fun b ob q=>ah _ q
 obtain⟨T,id,hT,ht,hg⟩:=hr pins {s3 with heap:=s3.heap.push {cls:=.type "slice",data:=.fields #[vl,vu,.none]}} σ H3 x v vl vu l u s3.heap.objs.size Q I4 r1 (Heap.IsSliceOf.new ..) pl pu q3;show wpAny (model X.prog X.w) X.A (subscriptTail e (.Slice lo hi none p2) v (.ref s3.heap.objs.size)) (EP X pins σ Q) X.xe {s3 with heap:=s3.heap.push {cls:=.type "slice",data:=.fields #[vl,vu,.none]}}
 exact tail_any (ops:=[.ref s3.heap.objs.size,v]) ht hT hg (by with_unfolding_all rfl)
def iN(xs:List V)(lo hi:Option Int):List V:=(xs.drop (HT.sIx xs.length 0 lo)).take (HT.sIx xs.length xs.length hi-HT.sIx xs.length 0 lo)
theorem Px(xs:List V)(lo hi:Option Int):(iN xs lo hi).length<=xs.length:=by
 unfold iN;rw[List.length_take,List.length_drop];omega
def FV(K:ad):V->Option Int->Option Int->Hp->VK->Prop:=fun x lo hi H Q=>∃ a xs,x=.ref a/\SqT K H a xs /\
 ¬ (HT.sIx xs.length 0 lo=0/\HT.sIx xs.length xs.length hi=xs.length)/\∀ p,H p=none->Q (.ref p) (upd H p (.tup (iN xs lo hi)))
theorem Sc:SlR X (FV X.K):=by
 intro pins s σ H x v vl vu lo hi sl Q I rx hs pl pu h;obtain⟨a,xs,rfl,hx,hw,q⟩:=h
 cases rx
 obtain⟨its,r,ht,hz⟩:=I.tuple hx;have hlen:its.toArray.size=xs.length:=by rw[ay];exact r.length.symm
 refine⟨"tuple",_,PyProof.Rows.slot_tuple_getitem.lookup,ht.typeIs,?_⟩;refine HT.getItem_tuple_cut ht hs pl pu (by rw[hlen];exact hw) ?_ (by rw[hlen];exact hz)
 rw[hlen];refine⟨.ref s.heap.objs.size,_,I.laid (t':=s.toks) (o:=.tup (iN xs lo hi)) (fun b ob q=>ah _ q) (ak _) ?_,rfl,q _ (I.hok.fresh (ak _))⟩;exact⟨⟨Nat.le_trans (Px xs lo hi) hz,NoD.new _ _ _⟩,_,(r.drop (HT.sIx xs.length 0 lo)).take (HT.sIx xs.length xs.length hi-HT.sIx xs.length 0 lo),IsTup.new _ _⟩
def R3(K:ad):R2:=fun x y H Q=>∃ a b xs ys,x=.ref a/\y=.ref b/\SqT K H a xs/\SqT K H b ys/\xs≠[]/\xs.length+ys.length<=sizeLine /\
 (ys=[]->Q (.ref a) H)/\(ys≠[]->∀ p,H p=none->Q (.ref p) (upd H p (.tup (xs++ys))))
theorem Vals.nil_iff{xs:List V}{us:List Value}(r:Vals xs us):us=[]↔xs=[]:=by
 cases r with
 | nil=>simp
 | cons _ _=>simp
theorem K3:OpR X (binaryOp .Add) (R3 X.K):=by
 intro pins s σ H x y v u Q I rx ry h;obtain⟨a,b,xs,ys,rfl,rfl,ha,hb,hx,hz,q1,q2⟩:=h
 cases rx
 cases ry
 obtain⟨its,r1,p1,_⟩:=I.tuple ha;obtain⟨its2,r2,p2,_⟩:=I.tuple hb;refine HT.cat_tup p1 p2 (fun z=>hx (r1.nil_iff.mp z)) (fun z=>⟨.ref a,H,I,rfl,q1 (r2.nil_iff.mp z)⟩) (fun z=>?_) (by rw[<- r1.length,<- r2.length];exact hz)
 refine⟨.ref s.heap.objs.size,_,I.laid (t':=s.toks) (o:=.tup (xs++ys)) (fun b ob q=>ah _ q) (ak _) ?_,rfl,q2 (fun w=>z (r2.nil_iff.mpr w)) _ (I.hok.fresh (ak _))⟩;exact⟨⟨by rw[List.length_append];exact hz,NoD.new _ _ _⟩,_,r1.append r2,IsTup.new _ _⟩
end
def fB(n:Nat)(i:Int):Option Nat:=if 0<=i then (if i<n then some i.toNat else none) else if -(n:Int)<=i then some (i+n).toNat else none
def bT{α:Type}(xs:List α)(i:Int):Option α:=(fB xs.length i).bind fun j=>xs[j]?
theorem Fz{n:Nat}{i:Int}{j:Nat}(h:fB n i=some j):seqIndex? i n=some j/\j<n/\-(n:Int)<=i/\i<n:=by
 unfold fB at h
 by_cases h0:0<=i
 ·rw[if_pos h0]at h
  by_cases h1:i<n
  ·rw[if_pos h1]at h;have e:i.toNat=j:=Option.some.inj h
   exact⟨by rw[seqIndex_of h0 h1,e],by omega,by omega,h1⟩
  ·rw[if_neg h1]at h;cases h
 ·rw[if_neg h0]at h
  by_cases h1:-(n:Int)<=i
  ·rw[if_pos h1]at h;have e:(i+n).toNat=j:=Option.some.inj h
   exact⟨by rw[seqIndex_neg #[0] h1,e],by omega,h1,by omega⟩
  ·rw[if_neg h1]at h;cases h
theorem wS{α:Type}{xs:List α}{i:Int}{v:α}(h:bT xs i=some v):∃ j,seqIndex? i xs.length=some j/\xs[j]?=some v/\j<xs.length/\-(xs.length:Int)<=i/\i<xs.length:=by
 unfold bT at h
 cases e:fB xs.length i with
 | none=>rw[e]at h;cases h
 | some j =>
  rw[e]at h;obtain⟨h1,h2,h3,h4⟩:=Fz e;exact⟨j,h1,h,h2,h3,h4⟩
theorem iD{α:Type}{xs:List α}{j:Nat}{v:α}(h:xs[j]?=some v):bT xs (j:Int)=some v:=by
 have hj:j<xs.length:=(List.getElem?_eq_some_iff.mp h).1
 have e:fB xs.length (j:Int)=some j:=by
  unfold fB;rw[if_pos #[0],if_pos #[0]];simp
 unfold bT;rw[e];exact h
def uX(b:Expr):Prop:=∀ o i,subscripted b false o i=operate [o,i] (getItem o i)
def IxR(X:Cx)(r:R2):Prop :=
 ∀ (value slice:Expr) (pins:List (Addr×Obj)) (s:Shared) (σ:St) (H:Hp) (x y:V) (v u:Value) (Q:VK),Inv X pins σ H s->RelV x v->RelV y u->r x y H Q ->
  subscripted slice false v u=operate [v,u] (getItem v u)->wpAny (model X.prog X.w) X.A (subscriptTail value slice v u) (EP X pins σ Q) X.xe s
def MtR(X:Cx)(id:String)(r:V->List V->Hp->VK->Prop):Prop :=
 ∀ (pins:List (Addr×Obj)) (s:Shared) (σ:St) (H:Hp) (x:V) (xs:List V) (v:Value) (us:List Value) (Q:VK),Inv X pins σ H s->RelV x v->Vals xs us->r x xs H Q ->
  wpAny (model X.prog X.w) X.A (call (.builtin id) (v::us)) (EP X pins σ Q) X.xe s
section
variable {X:Cx}{a b:Expr}{ta tb:TE}{pos:Pos}
theorem IxR.or{r r':R2}(h:IxR X r)(h':IxR X r'):IxR X (fun x y H Q=>r x y H Q\/r' x y H Q):=by
 intro value slice pins s σ H x y v u Q I rx ry q hs;rcases q with q | q
 ·exact h value slice pins s σ H x y v u Q I rx ry q hs
 ·exact h' value slice pins s σ H x y v u Q I rx ry q hs
theorem MtR.or{id:String}{r r':V->List V->Hp->VK->Prop}(h:MtR X id r)(h':MtR X id r'):MtR X id (fun x xs H Q=>r x xs H Q\/r' x xs H Q):=by
 intro pins s σ H x xs v us Q I rx rs q;rcases q with q | q
 ·exact h pins s σ H x xs v us Q I rx rs q
 ·exact h' pins s σ H x xs v us Q I rx rs q
theorem Xy{r:R2}(hr:IxR X r)(ha:PE X a ta)(hb:PE X b tb)(hs:uX b):PE X (.Subscript a b pos) (v9 r ta tb):=by
 intro pins s σ H Q I h;exact Subscript_ (Bs ha hb I h fun v u s2 x y H2 I2 rx ry q=>hr a b pins s2 σ H2 x y v u Q I2 rx ry q (hs _ _))
def Iv(K:ad):R2:=fun x y H Q=>∃ p xs i v,x=.ref p/\y=.int i/\SqL K H p xs/\bT xs i=some v/\Q v H
def Ra(K:ad):R2:=fun x y H Q=>∃ p xs i v,x=.ref p/\y=.int i/\SqT K H p xs/\bT xs i=some v/\Q v H
def Dx:R2:=fun x y H Q=>∃ z i c,x=.str z/\y=.int i/\z.length<=sizeLine/\bT z.cps.toList i=some c/\Q (.str ⟨#[c]⟩) H
theorem We:IxR X (Iv X.K):=by
 intro value slice pins s σ H x y v u Q I rx ry h hs;obtain⟨p,xs,i,z,rfl,rfl,hq,he,q⟩:=h
 cases rx
 obtain⟨t,rfl⟩:=ry;obtain⟨its,r,pl,hz⟩:=I.list hq;obtain⟨j,h1,h2,h3,h4,h5⟩:=wS he;obtain⟨w,ew,rw'⟩:=r.get h2;have hl:=r.length
 have hn:=iY
 have fin:EP X pins σ Q w s:=⟨z,H,I,rw',q⟩
 by_cases h0:0<=i
 ·have hj:i.toNat=j:=by
   rw[seqIndex_of h0 h5]at h1;exact Option.some.inj h1
  exact item_listR pl.isList h0 #[0] (by rw[hj];simpa using ew) fin hs
 ·have hj:(i+(its.toArray.size:Int)).toNat=j:=by
   rw[seqIndex_neg #[0] h4]at h1
   rw[ay,<- hl];exact Option.some.inj h1
  exact subscriptTail_builtinR (x:=w) pl.isList.typeIs slot_list_getitem.lookup
   (wpAny_getItem_list_neg (Q:=fun r s'=>r=w/\EP X pins σ Q r s') pl.isList #[0] (by rw[ay]<;>omega) #[0] (by rw[hj];simpa using ew) ⟨rfl,fin⟩) hs
theorem T3:IxR X (Ra X.K):=by
 intro value slice pins s σ H x y v u Q I rx ry h hs;obtain⟨p,xs,i,z,rfl,rfl,hq,he,q⟩:=h
 cases rx
 obtain⟨t,rfl⟩:=ry;obtain⟨its,r,pl,hz⟩:=I.tuple hq;obtain⟨j,h1,h2,h3,h4,h5⟩:=wS he;obtain⟨w,ew,rw'⟩:=r.get h2;have hl:=r.length
 have hn:=iY
 have fin:EP X pins σ Q w s:=⟨z,H,I,rw',q⟩
 exact subscriptTail_builtinR (x:=w) pl.typeIs slot_tuple_getitem.lookup
  (getItem_tuple (j:=j) (Q:=fun r s'=>r=w/\EP X pins σ Q r s') pl #[0] #[0] (by rw[ay,<- hl];exact h1) #[4,ew] ⟨rfl,fin⟩) hs
theorem K9:IxR X Dx:=by
 intro value slice pins s σ H x y v u Q I rx ry h hs;obtain⟨z,i,c,rfl,rfl,hz,he,q⟩:=h;obtain⟨t,rfl⟩:=rx;obtain⟨t',rfl⟩:=ry;obtain⟨j,h1,h2,h3,h4,h5⟩:=wS he;have hl:z.cps.toList.length=z.length:=by simp[Str.length]
 rw[hl]at h1 h4 h5;have hn:=iY
 exact tail_any (typeIs_str s z t) slot_str_getitem.lookup (getItem_str (c:=c) (by
  have e1:decide (i < -(2^63:Int))=false:=decide_eq_false #[0]
  have e2:decide (i ≥ 2^63)=false:=decide_eq_false #[0]
  rw[e1,e2,Bool.or_false]) (by rw[h1];simpa using h2) ⟨.str ⟨#[c]⟩,H,I.tok _,⟨_,rfl⟩,q⟩) hs
def Z1(K:ad):R2:=fun x y H Q=>Iv K x y H Q\/Ra K x y H Q\/Dx x y H Q
theorem Xi:IxR X (Z1 X.K):=We.or (T3.or K9)
theorem k9(its:List Value)(n j:Nat)(u:Value):Obj.mapSeq (·.setIfInBounds j u) {cls:=.type "list",data:=.seq its.toArray n}={cls:=.type "list",data:=.seq (its.set j u).toArray n}:=by
 simp[Obj.mapSeq]
theorem Inv.lst{pins:List (Addr×Obj)}{σ:St}{H:Hp}{s:Shared}{p:Addr}{xs:List V}(I:Inv X pins σ H s)(h:H p=some (.lst xs)) :
  ∃ (its:List Value) (n:Nat),Vals xs its/\s.heap.get? p=some {cls:=.type "list",data:=.seq its.toArray n}/\xs.length<=sizeLine:=by
 obtain⟨z,its,n,r,e⟩:=I.hok p _ h;exact⟨its,n,r,e,z⟩
theorem Inv.lstUpd{pins:List (Addr×Obj)}{σ:St}{H:Hp}{s:Shared}{p:Addr}{xs ys:List V}{its its':List Value}{n n':Nat}{f:Obj->Obj}(I:Inv X pins σ H s)(h:H p=some (.lst xs))
  (ho:s.heap.get? p=some {cls:=.type "list",data:=.seq its.toArray n}) (hf:f {cls:=.type "list",data:=.seq its.toArray n}={cls:=.type "list",data:=.seq its'.toArray n'}) (r:Vals ys its') (hz:ys.length<=sizeLine) (t:Nat) :
  Inv X pins σ (upd H p (.lst ys)) {s with heap:=s.heap.update p f,toks:=t}:=by
 have e:(s.heap.update p f).get? p=some {cls:=.type "list",data:=.seq its'.toArray n'}:=by
  rw[Heap.get?_update_self f ho (by rw[hf]<;>rfl),hf]
 refine I.write (x:=p) (e:=p) (by rw[h];trivial) (.inl rfl) (fun b u hb q=>(Heap.get?_update_other _ _ (Ne.symm hb)).trans q) ⟨_,e⟩ ?_
 exact⟨hz,its',n',r,e⟩
def Xx:V->V->V->Hp->(Hp->Prop)->Prop:=fun o i v H Q=>∃ p xs k j,o=.ref p/\i=.int k/\H p=some (.lst xs)/\fB xs.length k=some j/\Q (upd H p (.lst (xs.set j v)))
theorem FE:Ga X Xx:=by
 intro pins s σ H o i v ov iv u Q I ro ri rv h;obtain⟨p,xs,k,j,rfl,rfl,hp,hj,q⟩:=h
 cases ro
 obtain⟨t,rfl⟩:=ri;obtain⟨its,n,r,ho,hz⟩:=I.lst hp;obtain⟨h1,h2,h3,h4⟩:=Fz hj;have hl:=r.length
 have hn:=iY
 have I':Inv X pins σ (upd H p (.lst (xs.set j v))) {s with heap:=s.heap.update p (Obj.mapSeq (·.setIfInBounds j u))} :=
  I.lstUpd hp ho (k9 its n j u) (r.set rv j) (by rw[List.length_set];exact hz) s.toks
 by_cases h0:0<=k
 ·have hk:k.toNat=j:=by
   rw[seqIndex_of h0 h4]at h1;exact Option.some.inj h1
  exact PySem.W.ki_setAt ho h0 #[0] (by rw[ay,<- hl];exact h4) (by rw[hk];exact⟨_,I',q⟩)
 ·have hk:(k+(its.toArray.size:Int)).toNat=j:=by
   rw[seqIndex_neg #[0] h3]at h1
   rw[ay,<- hl];exact Option.some.inj h1
  exact PySem.W.ki_setBack ho #[0] (by rw[ay,<- hl];exact h3) #[0] (by rw[hk];exact⟨_,I',q⟩)
theorem Wr(lo hi:Option Int)(n:Nat):(sliceBounds lo hi none n).1=((HT.sIx n 0 lo:Nat):Int)/\(sliceBounds lo hi none n).2.1=((HT.sIx n n hi:Nat):Int)/\(sliceBounds lo hi none n).2.2=1:=by
 refine⟨?_,?_,rfl⟩
 ·cases lo with
  | none=>simp[sliceBounds,HT.sIx]
  | some i =>
   simp only[sliceBounds,HT.sIx,Option.getD_none,show(1:Int) > 0 by decide,if_true]
   by_cases h:i<0
   ·simp only[h,if_true]<;>omega
   ·simp only[h,if_false]<;>omega
 ·cases hi with
  | none=>simp[sliceBounds,HT.sIx]
  | some i =>
   simp only[sliceBounds,HT.sIx,Option.getD_none,show(1:Int) > 0 by decide,if_true]
   by_cases h:i<0
   ·simp only[h,if_true]<;>omega
   ·simp only[h,if_false]<;>omega
theorem Rx(its:List Value)(lo hi:Option Int):slicePick its.toArray lo hi none=((its.drop (HT.sIx its.length 0 lo)).take (HT.sIx its.length its.length hi-HT.sIx its.length 0 lo)).toArray:=by
 obtain⟨h1,h2,h3⟩:=Wr lo hi its.toArray.size;unfold slicePick;rw[h1,h2,h3];simp only[sliceRange_one,pick_run,ay]<;>rfl
def j7(K:ad):V->Option Int->Option Int->Hp->VK->Prop:=fun x lo hi H Q=>∃ a xs,x=.ref a/\SqL K H a xs/\∀ p,H p=none->Q (.ref p) (upd H p (.lst (iN xs lo hi)))
theorem AM:SlR X (j7 X.K):=by
 intro pins s σ H x v vl vu lo hi sl Q I rx hs pl pu h;obtain⟨a,xs,rfl,hx,q⟩:=h
 cases rx
 obtain⟨its,r,ht,hz⟩:=I.list hx;have hlen:=r.length
 refine⟨"list",_,slot_list_getitem.lookup,ht.isList.typeIs,?_⟩;refine wpAny_getItem_list_slice ht.isList hs pl pu .none #[2] ?_ (by rw[ay]<;>omega)
 rw[Rx,<- hlen];refine⟨.ref s.heap.objs.size,_,I.laid (t':=s.toks) (o:=.lst (iN xs lo hi)) (fun b ob q=>ah _ q) (ak _) ?_,rfl,q _ (I.hok.fresh (ak _))⟩;exact⟨Nat.le_trans (Px xs lo hi) hz,_,0,(r.drop (HT.sIx xs.length 0 lo)).take (HT.sIx xs.length xs.length hi-HT.sIx xs.length 0 lo),ai _ rfl⟩
def gC:V->Bool
 | .non=>true
 | .bl _=>true
 | .int _=>true
 | .str _=>true
 | _=>false
def jV:V->V->Bool
 | .non,.non=>true
 | .bl a,.bl b=>a==b
 | .bl a,.int b=>(if a then 1 else 0)==b
 | .int a,.bl b=>a==(if b then 1 else 0)
 | .int a,.int b=>a==b
 | .str a,.str b=>a==b
 | _,_=>false
theorem Wu{A:Around}{s:Shared}{y x:V}{u v:Value}(ry:RelV y u)(rx:RelV x v)(fy:gC y=true)(fx:gC x=true):SeqAt.EqAt A s u v (jV y x):=by
 cases y with
 | non =>
  cases ry
  cases x with
  | non=>cases rx;exact SeqAt.EqAt.same _
  | bl b=>cases rx;exact SeqAt.EqAt.none_bool b
  | int b=>obtain⟨t,rfl⟩:=rx;exact SeqAt.EqAt.none_int b t
  | str b=>obtain⟨t,rfl⟩:=rx;exact SeqAt.EqAt.none_str b t
  | _=>exact absurd (show false=true from fx) am
 | bl a =>
  cases ry
  cases x with
  | non=>cases rx;exact SeqAt.EqAt.bool_none a
  | bl b=>cases rx;exact SeqAt.EqAt.bool_bool a b
  | int b=>obtain⟨t,rfl⟩:=rx;exact SeqAt.EqAt.bool_int a b t
  | str b=>obtain⟨t,rfl⟩:=rx;exact SeqAt.EqAt.bool_str a b t
  | _=>exact absurd (show false=true from fx) am
 | int a =>
  obtain⟨t',rfl⟩:=ry
  cases x with
  | non=>cases rx;exact SeqAt.EqAt.int_none a t'
  | bl b=>cases rx;exact SeqAt.EqAt.int_bool a t' b
  | int b=>obtain⟨t,rfl⟩:=rx;exact SeqAt.EqAt.int_int a t' b t
  | str b=>obtain⟨t,rfl⟩:=rx;exact SeqAt.EqAt.int_str a t' b t
  | _=>exact absurd (show false=true from fx) am
 | str a =>
  obtain⟨t',rfl⟩:=ry
  cases x with
  | non=>cases rx;exact SeqAt.EqAt.str_none a t'
  | bl b=>cases rx;exact SeqAt.EqAt.str_bool a t' b
  | int b=>obtain⟨t,rfl⟩:=rx;exact SeqAt.EqAt.str_int a t' b t
  | str b=>obtain⟨t,rfl⟩:=rx;exact SeqAt.EqAt.str_str a t' b t
  | _=>exact absurd (show false=true from fx) am
 | _=>exact absurd (show false=true from fy) am
def gE(x:V)(u:Value):Bool:=match u with
 | .none=>jV .non x
 | .bool b=>jV (.bl b) x
 | .int i _=>jV (.int i) x
 | .str z _=>jV (.str z) x
 | _=>false
theorem Ou{x y:V}{u:Value}(r:RelV y u)(f:gC y=true):gE x u=jV y x:=by
 cases y with
 | non=>cases r;rfl
 | bl b=>cases r;rfl
 | int i=>obtain⟨t,rfl⟩:=r;rfl
 | str z=>obtain⟨t,rfl⟩:=r;rfl
 | _=>exact absurd (show false=true from f) am
theorem yB{x:V}:∀ {xs:List V} {us:List Value},Vals xs us->xs.all gC=true->us.any (gE x)=xs.any fun y=>jV y x
 | _,_,.nil,_=>rfl
 | y::xs,u::us,.cons r t,f=>by
  rw[List.all_cons,Bool.and_eq_true]at f;rw[List.any_cons,List.any_cons,Ou r f.1,yB t f.2]
theorem mR{A:Around}{s:Shared}{x:V}{v:Value}(rx:RelV x v)(fx:gC x=true):∀ {xs:List V} {us:List Value},Vals xs us->xs.all gC=true->∀ u∈us,SeqAt.EqAt A s u v (gE x u)
 | _,_,.nil,_=>fun u hu=>by cases hu
 | y::xs,u::us,.cons r t,f=>fun u' hu=>by
  rw[List.all_cons,Bool.and_eq_true]at f;rcases List.mem_cons.mp hu with rfl | hu
  ·rw[Ou r f.1];exact Wu r rx f.1 fx
  ·exact mR rx fx t f.2 u' hu
def jR(x:V)(xs:List V):Bool:=xs.any fun y=>jV y x
def O3(K:ad)(neg:Bool):R2:=fun x y H Q=>∃ p xs,y=.ref p/\(SqL K H p xs\/SqT K H p xs)/\gC x=true/\xs.all gC=true/\Q (.bl (if neg then !jR x xs else jR x xs)) H
theorem mL:OpR X (compareOp .In) (O3 X.K false):=by
 intro pins s σ H x y v u Q I rx ry h;obtain⟨p,xs,rfl,hq,fx,fs,q⟩:=h
 cases ry
 rcases hq with hq | hq
 ·obtain⟨its,r,pl,hz⟩:=I.list hq;refine SeqAt.in_listAt (gE x) pl.isList (fun w hw=>mR rx fx r fs w #[4,hw]) ⟨.bl _,H,I,rfl,?_⟩
  rw[show its.toArray.any (gE x)=its.any (gE x) by simp,yB r fs]
  exact q
 ·obtain⟨its,r,pl,hz⟩:=I.tuple hq;refine SeqAt.in_tupleAt (gE x) pl (fun w hw=>mR rx fx r fs w #[4,hw]) ⟨.bl _,H,I,rfl,?_⟩
  rw[show its.toArray.any (gE x)=its.any (gE x) by simp,yB r fs]
  exact q
theorem xR:CallR X (.builtin "len") (fun xs H Q=>∃ p ys,xs=[.ref p]/\(SqL X.K H p ys\/SqT X.K H p ys)/\Q (.int ys.length) H):=by
 intro pins s σ H xs us Q I r h;obtain⟨p,ys,rfl,hq,q⟩:=h;obtain⟨u,rfl,rx⟩:=eR r
 cases rx
 have hn:=iY
 rcases hq with hq | hq
 ·obtain⟨its,r',pl,hz⟩:=I.list hq;have hlen:=r'.length
  exact Calls.call_len_list pl.isList (by simp only[ay]<;>omega) ⟨.int ys.length,H,I.tok _,⟨s.toks+1,by rw[ay,hlen]⟩,q⟩
 ·obtain⟨its,r',pl,hz⟩:=I.tuple hq;have hlen:=r'.length
  exact len_tuple pl (by simp only[ay]<;>omega) ⟨.int ys.length,H,I.tok _,⟨s.toks+1,by rw[ay,hlen]⟩,q⟩
theorem FU:CallR X (.builtin "len") (fun xs H Q=>∃ z,xs=[.str z]/\z.length<=sizeLine/\Q (.int z.length) H):=by
 intro pins s σ H xs us Q I r h;obtain⟨z,rfl,hz,q⟩:=h;obtain⟨u,rfl,t,rfl⟩:=eR r;have hn:=iY
 exact len_str #[0] ⟨.int z.length,H,I.tok _,⟨_,rfl⟩,q⟩
theorem CallR.or{f:Value}{r r':List V->Hp->VK->Prop}(h:CallR X f r)(h':CallR X f r'):CallR X f (fun xs H Q=>r xs H Q\/r' xs H Q):=by
 intro pins s σ H xs us Q I rs q;rcases q with q | q
 ·exact h pins s σ H xs us Q I rs q
 ·exact h' pins s σ H xs us Q I rs q
theorem Qn:CallR X (.type "list") (fun xs H Q=>∃ p ys,xs=[.ref p]/\(SqL X.K H p ys\/SqT X.K H p ys)/\∀ l,H l=none->Q (.ref l) (upd H l (.lst ys))):=by
 intro pins s σ H xs us Q I r h;obtain⟨p,ys,rfl,hq,q⟩:=h;obtain⟨u,rfl,rx⟩:=eR r
 cases rx
 have fin:∀ (its:List Value),Vals ys its->ys.length<=sizeLine->∀ (h':Heap) (c':Nat),(∀ b o',s.heap.get? b=some o'->h'.get? b=some o') ->
   h'.get? s.heap.objs.size=some {cls:=.type "list",dict:=none,data:=.seq its.toArray c',slots:=#[]}->EP X pins σ Q (.ref s.heap.objs.size) {s with heap:=h'}:=fun its r' hz h' c' kp e =>
  ⟨.ref s.heap.objs.size,_,I.laid (t':=s.toks) kp (ak _) (show ObjOk X.prog X.w _ h' _ (.lst ys) from⟨hz,its,c',r',e⟩),rfl,q _ (I.hok.fresh (ak _))⟩
 rcases hq with hq | hq
 ·obtain⟨its,r',pl,hz⟩:=I.list hq;have hlen:=r'.length
  obtain⟨o,ho,hc,n,hd⟩:=pl.isList;exact call_list_seq p (.inl rfl) ho hc hd (fun h' c' kp e=>fin its r' hz h' c' kp e) (by simp only[ay]<;>omega)
 ·obtain⟨its,r',pl,hz⟩:=I.tuple hq;have hlen:=r'.length
  obtain⟨o,ho,hc,n,hd⟩:=pl;exact call_list_seq p (.inr rfl) ho hc hd (fun h' c' kp e=>fin its r' hz h' c' kp e) (by simp only[ay]<;>omega)
theorem sH:CallR X (.type "tuple") (fun xs H Q=>∃ p ys,xs=[.ref p]/\((SqL X.K H p ys/\∀ l,H l=none->Q (.ref l) (upd H l (.tup ys)))\/(SqT X.K H p ys/\Q (.ref p) H))):=by
 intro pins s σ H xs us Q I r h;obtain⟨p,ys,rfl,h⟩:=h;obtain⟨u,rfl,rx⟩:=eR r
 cases rx
 rcases h with⟨hq,q⟩ | ⟨hq,q⟩
 ·obtain⟨its,r',pl,hz⟩:=I.list hq;have hlen:=r'.length
  refine call_tuple_list pl.isList (fun h' kp=>?_) (by simp only[ay]<;>omega)
  have I1:Inv X pins σ H {s with heap:=h'}:=I.kept (t':=s.toks) kp
  have I2:Inv X pins σ (upd H h'.objs.size (.tup ys)) {s with heap:=h'.push {cls:=.type "tuple",data:=.seq its.toArray}} :=
   I1.laid (t':=s.toks) (fun b o e=>ah _ e) (ak _) (show ObjOk X.prog X.w _ _ _ (.tup ys) from⟨⟨hz,NoD.new _ _ _⟩,its,r',IsTup.new _ _⟩)
  exact⟨.ref h'.objs.size,_,I2,rfl,q _ (I1.hok.fresh (ak _))⟩
 ·obtain⟨its,r',pl,hz⟩:=I.tuple hq;exact call_tuple_same pl ⟨.ref p,H,I,rfl,q⟩
def Fh(K:ad)(T:String)(x:V)(H:Hp):Prop:=match x with
 | .str _=>T="str"
 | .int _=>T="int"
 | .ref p=>(T="list"/\∃ xs,SqL K H p xs)\/(T="tuple"/\∃ o,K.lookup p=some o/\o.cls=.type "tuple"/\o.dict=none) \/
   (T="dict"/\((∃ kvs,H p=some (.dK kvs))\/∃ kvs,H p=some (.dT kvs)))\/(T="set"/\∃ S n,H p=some (.set S n))
 | _=>False
theorem AU{pins:List (Addr×Obj)}{σ:St}{H:Hp}{s:Shared}{T:String}{x:V}{v:Value}(I:Inv X pins σ H s)(r:RelV x v)(ty:Fh X.K T x H) :
  s.TypeIs v T/\∀ a,v=.ref a->∃ ob,s.heap.get? a=some ob/\ob.dict=none:=by
 cases x with
 | str z =>
  obtain⟨t,rfl⟩:=r
  cases (show T="str" from ty)
  exact⟨typeIs_str s z t,fun _ e=>nomatch e⟩
 | int i =>
  obtain⟨t,rfl⟩:=r
  cases (show T="int" from ty)
  exact⟨typeIs_int s i t,fun _ e=>nomatch e⟩
 | ref p =>
  cases r
  rcases ty with⟨rfl,xs,hq⟩ | ⟨rfl,o,hk,hc,hd⟩ | ⟨rfl,hk⟩ | ⟨rfl,S,n,hk⟩
  ·obtain⟨its,_,pl,_⟩:=I.list hq;refine⟨pl.isList.typeIs,fun a e=>?_⟩
   cases e
   obtain⟨o,n,e,c,hd,_⟩:=pl;exact⟨o,e,hd⟩
  ·refine⟨⟨o,I.kIn p o hk,hc⟩,fun a e=>?_⟩
   cases e
   exact⟨o,I.kIn _ o hk,hd⟩
  ·have z:∃ o,s.heap.get? p=some o/\o.ExactDict:=by
    rcases hk with⟨kvs,hk⟩ | ⟨kvs,hk⟩
    ·obtain⟨_,_,_,_,o,_,_,e,ex,_⟩:=I.hok p _ hk;exact⟨o,e,ex⟩
    ·obtain⟨_,_,_,_,o,_,_,e,ex,_⟩:=I.hok p _ hk;exact⟨o,e,ex⟩
   obtain⟨o,e,ex⟩:=z;refine⟨⟨o,e,ex.1⟩,fun a e2=>?_⟩
   cases e2
   exact⟨o,e,ex.2.1⟩
  ·obtain⟨o,_,_,_,e,ex,_⟩:=I.hok p _ hk;refine⟨⟨o,e,ex.1⟩,fun a e2=>?_⟩
   cases e2
   exact⟨o,e,ex.2.1⟩
 | _=>exact False.elim ty
def R7(K:ad)(T:String)(r:V->List V->Hp->VK->Prop)(to:TE)(t:TA):TE:=fun σ H Q=>to σ H fun x H1=>Fh K T x H1/\t σ H1 fun xs H2=>r x xs H2 Q
variable {o e:Expr}{es:List Expr}{to:TE}{t:TA}{name:Str}{apos cpos:Pos}{T id:String}{r:V->List V->Hp->VK->Prop}
theorem Lz(pa:PlainAttrs T)(slot:Slot T name id)(hty:typeOf (.builtin id)=pure (.type "method_descriptor"))(hm:MtR X id r)(ho:PE X o to)(ha:PA X (e::es) t)
  (hbase:attributeBase o name X.env (eval o X.env)=eval o X.env:=by rfl)
  (hfew:((backTo cpos (starEach (e::es) X.env)).all (fun x=>!x.1)&&(backToKw cpos (keywordEach [] X.env)).all (fun x=>x.1.isSome)
   && decide ((e::es).length+([]:List Keyword).length+(if ([]:List Keyword).isEmpty then 0 else 1)<30))=true:=by rfl)
  (hline:(apos.endLine==cpos.line)=true:=by rfl) (hs:starEach (e::es) X.env=(false,eval e X.env)::starEach es X.env:=by rfl) (hplain:(backTo cpos (starEach es X.env)).any (·.1)=false:=by rfl) :
  PE X (.Call (.Attribute o name apos) (e::es) [] cpos) (R7 X.K T r to t):=by
 intro pins s σ H Q I h;refine wpAny_Call_method_late hbase hfew hline rfl (aS (ho pins s σ H _ I h) fun v s1 ⟨x,H1,I1,r1,ty,q1⟩=>?_);obtain⟨h1,h2⟩:=AU I1 r1 ty;refine⟨T,id,pa,slot,hty,h1,h2,?_⟩;have hA:=ha cpos pins s1 σ H1 _ I1 q1
 rw[hs]at hA ⊢;refine Calls.callWith_builtin (by show(false||(backTo cpos (starEach es X.env)).any (·.1))=false;rw[hplain]<;>rfl) (Calls.evalArgs_plain ?_)
 exact aS hA fun us s2 ⟨vs,H2,I2,r2,q2⟩=>hm pins s2 σ H2 x vs v us Q I2 r1 r2 q2
end
def Y9(X:Cx)(id:String)(r:V->List V->Hp->VK->Prop):Prop :=
 ∀ (pins:List (Addr×Obj)) (s:Shared) (σ:St) (H:Hp) (x:V) (xs:List V) (v:Value) (us:List Value) (Q:VK),Inv X pins σ H s->RelV x v->Vals xs us->r x xs H Q ->
  wpAny (model X.prog X.w) X.A (call (.builtin id) (v::us)) (EP X pins σ Q) X.xe s
theorem Vals.one:∀ {x:V} {us:List Value},Vals [x] us->∃ u,us=[u]/\RelV x u
 | _,_,.cons r .nil=>⟨_,rfl,r⟩
theorem Vals.two:∀ {x y:V} {us:List Value},Vals [x,y] us->∃ u v,us=[u,v]/\RelV x u/\RelV y v
 | _,_,_,.cons r (.cons q .nil)=>⟨_,_,rfl,r,q⟩
theorem Vals.zero:∀ {us:List Value},Vals [] us->us=[]
 | _,.nil=>rfl
theorem Vals.reverse{xs:List V}{us:List Value}(h:Vals xs us):Vals xs.reverse us.reverse:=by
 induction h with
 | nil=>exact .nil
 | cons r t ih=>rw[List.reverse_cons,List.reverse_cons];exact Vals.append ih (.cons r .nil)
theorem Vals.rep{xs:List V}{us:List Value}(h:Vals xs us):∀ k:Nat,Vals (List.replicate k xs).flatten (List.replicate k us).flatten
 | 0=>.nil
 | k+1=>by
  rw[List.replicate_succ,List.replicate_succ,List.flatten_cons,List.flatten_cons];exact Vals.append h (Vals.rep h k)
section
variable {X:Cx}{pins:List (Addr×Obj)}{σ:St}{H:Hp}{s:Shared}{l b:Addr}{xs ys zs:List V}
theorem Inv.lset{its its':List Value}{n:Nat}{f:Array Value->Array Value}{t':Nat}(I:Inv X pins σ H s)(hH:H l=some (.lst xs))
  (e:s.heap.get? l=some {cls:=.type "list",data:=.seq its.toArray n}) (hf:f its.toArray=its'.toArray) (hv:Vals ys its') (hz:ys.length<=sizeLine) :
  Inv X pins σ (upd H l (.lst ys)) {s with heap:=s.heap.update l (Obj.mapSeq f),toks:=t'}:=by
 have q:=PySem.IsL.update e f
 rw[hf]at q;refine I.write (x:=l) (e:=l) (by rw[hH];exact trivial) (.inl rfl) (fun b' u hb hu=>(Heap.get?_update_other s.heap (Obj.mapSeq f) (Ne.symm hb)).trans hu) ⟨_,q⟩ ?_
 exact⟨hz,its',_,hv,q⟩
theorem Inv.fresh(I:Inv X pins σ H s):H s.heap.objs.size=none:=I.hok.fresh (ak _)
theorem Inv.lstM(I:Inv X pins σ H s)(hH:H l=some (.lst xs)):xs.length<=sizeLine/\∃ (its:List Value) (n:Nat),Vals xs its/\xs.length=its.length/\s.heap.get? l=some {cls:=.type "list",data:=.seq its.toArray n}:=by
 obtain⟨z,its,n,r,e⟩:=I.hok l _ hH;exact⟨z,its,n,r,r.length,e⟩
end
section
variable {X:Cx}
def T4:V->List V->Hp->VK->Prop:=fun x vs H Q=>∃ l xs y,x=.ref l/\vs=[y]/\H l=some (.lst xs)/\xs.length<sizeLine/\Q .non (upd H l (.lst (xs++[y])))
theorem xI:Y9 X "list.append" T4:=by
 intro pins s σ H x vs v us Q I rx rv h;obtain⟨l,xs,y,rfl,rfl,hH,hz,q⟩:=h
 cases rx
 obtain⟨u,rfl,ru⟩:=rv.one;obtain⟨z,its,n,r,hl,e⟩:=I.lstM hH;refine call_meets F.slot_list_append ⟨_,e,rfl⟩ F.entry_list_append (F.args_list_append_2 _ _) (PySem.list_append l its.toArray n u (by rw[ay];omega)) ⟨e,?_⟩
 refine⟨.non,_,I.lset (its':=its++[u]) hH e #[2] (r.append (.cons ru .nil)) ?_,rfl,q⟩
 rw[List.length_append,List.length_singleton];omega
end
end L2
namespace Att
open PySem PySem.W PySem.Calls PyProof.Rows
theorem p7{P:Params}{h:Heap}:∀ (ns:List Int) (vs:List Value),WellAll P h vs (ns.map WData.int)->IntsAre vs ns:=by
 intro ns
 induction ns with
 | nil =>
  intro vs w;rw[List.map_nil]at w
  cases w
  exact .nil
 | cons n ns ih =>
  intro vs w;rw[au]at w
  cases w with
  | cons a b =>
   cases a
   exact .cons _ _ (ih _ b)
theorem Uo{l:OpenLaw}{n:Nat}(hn:l.most=some n){P:Params}{h:Heap}{args:List WData}{vals:List Value}
  (hpre:l.row.toRowW.claim.pre args=true) (hwl:WellAll P h vals args) :
  ∃ a vs ns,vals=[Value.ref a]/\args=[WData.list (ns.map WData.int)]/\h.get? a=some {cls:=.type "list",data:=.seq vs.toArray}/\IntsAre vs ns/\ns.length<=n:=by
 have hsh:WShape.hasAll [] args [.list .int]=true:=(pre_splitW hpre).1
 have hc:l.pre.holds [] {args:=args}=true:=(pre_splitW hpre).2
 obtain⟨d,r,rfl,h1,h2⟩:=hasAllW_cons hsh;obtain rfl:=hasAllW_nil h2;obtain⟨xs,rfl,h3⟩:=hasW_list h1;obtain⟨ns,rfl⟩:=items_int h3;have hlen:ns.length<=n:=by
  unfold OpenLaw.pre at hc;have h4:(WTm.not (.lt (.lit (.int (n:Int))) (.len (.arg 0)))).holds [] {args:=[.list (ns.map .int)]}=true:=by
   have h4:=(holds_andW hc).1
   rw[hn]at h4;exact h4
  have h5:=condW_of h4 (w_not (w_lt w_lit (w_len_list (w_arg rfl))))
  rw[av]at h5;refine Nat.le_of_not_lt fun q=>?_;have q':(n:Int)<((ns.length:Nat):Int):=by omega
  first
   | (rw[decide_eq_true q']at h5;exact absurd h5 #[1])
   | (simp at h5;omega)
 cases hwl with
 | cons w1 w2 =>
  cases w2
  cases w1 with
  | list ho hall=>exact⟨_,_,ns,rfl,rfl,ho,p7 ns _ hall,hlen⟩
theorem K4(l:OpenLaw)(args:List WData):l.row.toRowW.claim.post args (.bool true) args=true :=
 postW_of (r:=l.row.toRowW) (X:=(true==true))
  (show WShape.has [] (.bool true) .bool=true by first | rfl | decide | simp[WShape.has,WShape.arms,WShape.armsAll])
  (show(WTm.eq .res (.lit (.bool true))).value [] {args:=args,res:=some (.bool true),after:=args}=some (.bool (true==true)) from w_eq_bool (w_res rfl) w_lit) rfl
theorem attach_call{l:OpenLaw}{n:Nat}{q:Program}{loose:List Str}{XP:(Str->Option Value)->Heap->Prop}{YP:World->Heap->Prop}{d:DefRec}
  (hn:l.most=some n) (hdf:d.params.defaults=[])
  (call:∀ (w:World) (s₀ s₁:Shared) (mg mb:Str->Option Value) (fa:Addr) (o:Obj) (pm cd doc:Value) (a:Addr) (vs:List Value) (ns:List Int),
   Ground q loose [] XP w s₀ mg mb s₁.heap->YP w s₁.heap ->
   s₁.heap.get? fa=some o->o.data=.func (docDef d.name d.params d.body d.scope pm cd doc)->s₁.heap.CodeRec cd d.name->mg d.name=some (.ref fa) ->
   s₁.heap.get? a=some {cls:=.type "list",data:=.seq vs.toArray}->IntsAre vs ns->ns.length<=n->s₁.gens=#[] ->
   codeAny (model l.prog w) callerA (.call (.ref fa) ⟨[.ref a],[]⟩) (fun r s'=>r=.ok (.ret (.bool true))/\OldK s₁.heap s'.heap/\s'.os=s₁.os/\AllBare s'.gens) s₁) :
  WalkO q loose XP YP l.row.toRowW d [] (fun f vs=>PySem.call f vs):=by
 intro w s₀ s₁ mg mb G Y fa o pm cd doc dV kV ho hd hcd hD hmg hg args vals as hpre hlay hrd hwl hlo;obtain rfl:dV=.none:=Dflts.none hD hdf;obtain rfl:kV=.none:=Dflts.noKw hD;obtain⟨a,vs,ns,rfl,rfl,hobj,hints,hlen⟩:=Uo hn hpre hwl;refine enter_call (codeAny_mono (call w s₀ s₁ mg mb fa o pm cd doc a vs ns G Y ho (fd_plain hd) hcd hmg hobj hints hlen hg) fun r s' hq=>?_);obtain⟨rfl,h2,h3,h4⟩:=hq;exact⟨.inl ⟨.bool true,.bool true,[],rfl,fun _=>rfl,.bool true,K4 l _,fun _=>⟨List.Pairwise.nil,fun _ hm=>(nomatch hm)⟩⟩,h2,h3,h4⟩
end Att
namespace L2
open PySem PySem.Spec PyProof.Rows
theorem qL:∀ {vs:List Value} {ns:List Int},IntsAre vs ns->Vals (ns.map V.int) vs
 | _,_,.nil=>.nil
 | _,_,.cons n t h=>.cons ⟨t,rfl⟩ (qL h)
def yM(H:Hp):Prop:=∀ b,H b=none\/∃ o xs,H b=some (.frz o (.lst xs))
theorem CC{P:Program}{w:World}{K:ad}{mg mb:Str->Option Value}{CX:gQ}{k:Nat}{fa a:Addr}{fd:FuncData}{x:Str}{sp:Sp}{s₁:Shared}{vs:List Value}{ns:List Int}
  (KX:K.In s₁.heap) (hns:s₁.heap.Ns mainGlobals mg) (hb:s₁.heap.Ns builtinsNs mb) (hbb:∀ x:Str,x≠"__name__"->mb x=bootBuiltins x) (hlim:s₁.heap.NoLimit) (hg:s₁.gens=#[])
  (ha:s₁.heap.get? a=some {cls:=.type "list",data:=.seq vs.toArray}) (hi:IntsAre vs ns) (hl:ns.length<=sizeLine) (hr:Room k callerA)
  (F:∀ base:Heap,K.In base->base.Ns mainGlobals mg->FnOk P w K mg base CX k fa fd [x] sp) (hbind:∀ (s:Shared) (u:Value),BindsTo s fd ⟨[u],[]⟩ [(x,u)])
  (hsp:∀ H:Hp,yM H->SqL K H a (ns.map V.int)->sp [.ref a] H (fun v _=>v=.bl true) fun _ _ _=>False)
  (hCX:∀ H e s',CX [] H s₁ (fun _ _ _=>False) e s'->False) :
  codeAny (model P w) callerA (.call (.ref fa) ⟨[.ref a],[]⟩) (fun r s'=>r=.ok (.ret (.bool true))/\OldK s₁.heap s'.heap/\s'.os=s₁.os/\AllBare s'.gens) s₁:=by
 have rv:=qL hi
 have lenV:=hi.length
 -- from an abstract heap in which nothing but the script may be tracked
 have core:∀ H:Hp,yM H->SqL K H a (ns.map V.int)->HOk P w H s₁.heap->(∀ b,H b≠none->b=a)->(H a≠none->K.lookup a=none) ->
   codeAny (model P w) callerA (.call (.ref fa) ⟨[.ref a],[]⟩) (fun r s'=>r=.ok (.ret (.bool true))/\OldK s₁.heap s'.heap/\s'.os=s₁.os/\AllBare s'.gens) s₁:=by
  intro H hO hS hok hA hK;have base_of:∀ {b:Addr} {o:Obj},s₁.heap.get? b=some o->H b=none->(jJ s₁.heap H).get? b=some o:=fun e n=>Yq e n
  have noA:∀ {b:Addr} {o:Obj} {es:Array DictEntry} {ep:Nat},s₁.heap.get? b=some o->o.data=.dict es ep->H b=none:=fun {b o es ep} e d=>by
   cases q:H b with
   | none=>rfl
   | some u =>
    have e':b=a:=hA b (by rw[q];simp)
    subst e';rw[ha]at e;cases e;have d':Data.seq vs.toArray _=Data.dict es ep:=d
    cases d'
  have nsK:∀ {b:Addr} {m:Str->Option Value},s₁.heap.Ns b m->(jJ s₁.heap H).Ns b m:=fun {b m} ⟨o,es,ep,e,d,r⟩=>⟨o,es,ep,base_of e (noA e d),d,r⟩
  have hKb:K.In (jJ s₁.heap H):=fun b o e=>base_of (KX b o e) (by
   cases q:H b with
   | none=>rfl
   | some u =>
    have e':b=a:=hA b (by rw[q];simp)
    subst e';rw[hK (by rw[q];simp)]at e;cases e)
  have hM:Mod K mg (jJ s₁.heap H):=⟨hKb,nsK hns,⟨mb,nsK hb,hbb⟩,let ⟨mc,h1,h2⟩:=hlim;⟨mc,nsK h1,h2⟩⟩
  have e0:Env0 P w K mg (jJ s₁.heap H) callerA [] s₁ H:=⟨rfl,hM,fun b o e=>W3 e,Nat.le_of_eq (Vp _ _),trivial,fun b hb=>absurd (show b∈([]:List Addr) from hb) #[2],hok,.of_eq hg⟩
  refine codeAny_mono ((F _ hKb (nsK hns)).run callerA [] s₁ H ⟨[.ref a],[]⟩ [.ref a] [.ref a] _ _ hr e0 (hbind s₁ (.ref a)) (.cons rfl .nil) (hsp H hO hS)) fun r s' h=>?_
  cases r with
  | error e=>exact(hCX H e s' h).elim
  | ok fl =>
   cases fl with
   | next=>exact False.elim h
   | brk=>exact False.elim h
   | cont=>exact False.elim h
   | ret u =>
    obtain⟨v,H',os,bare,un,hok',r',q⟩:=h;have q':v=.bl true:=q
    subst q';obtain rfl:u=Value.bool true:=r';refine⟨rfl,OldK.of_keep fun b o e=>?_,os,bare⟩
    cases q:H b with
    | none=>exact un.keep b o e q (by intro z;exact absurd (show b∈([]:List Addr) from z) #[2]) #[2]
    | some u =>
     rcases hO b with z | ⟨ob,xs,z⟩
     ·rw[q]at z;cases z
     ·have z2:=un.frzs b ob _ z
      obtain⟨e1,_⟩:=hok b _ z;obtain⟨e2,_⟩:=hok' b _ z2;rw[e]at e1;cases e1;exact e2
 cases hk:K.lookup a with
 | some o =>
  -- the script is one of the module's own objects
  have e:=KX a o hk
  rw[ha]at e
  cases e
  refine core (fun _=>none) (fun _=>.inl rfl) (.inr ⟨_,vs.toArray,_,hk,rfl,rfl,rfl,by rw[ay,lenV];exact hl,by simpa using rv⟩) (fun b u z=>by have z':(none:Option HO)=some u:=z;cases z') (fun b z=>absurd rfl z) fun z=>absurd rfl z
 | none =>
  refine core (fun b=>if b=a then some (.frz {cls:=.type "list",data:=.seq vs.toArray} (.lst (ns.map V.int))) else none) (fun b=>?_) (.inl (.inr ⟨{cls:=.type "list",data:=.seq vs.toArray},if_pos rfl⟩)) (fun b u z=>?_) (fun b z=>?_) fun _=>hk
  ·by_cases hb:b=a
   ·exact .inr ⟨_,_,if_pos hb⟩
   ·exact .inl (if_neg hb)
  ·by_cases hb:b=a
   ·have z':=(if_pos hb).symm.trans z
    cases z'
    subst hb;exact⟨ha,by rw[av];exact hl,vs,_,rv,ha⟩
   ·have z':=(if_neg hb).symm.trans z
    cases z'
  ·by_cases hb:b=a
   ·exact hb
   ·exact absurd (if_neg hb) z
theorem walk_of{l:PySem.W.OpenLaw}{n k:Nat}{q:Program}{loose:List Str}{XP:(Str->Option Value)->Heap->Prop}{YP:World->Heap->Prop}{d:DefRec}{K:Params->ad}{CX:World->gQ}{sp:World->Sp}{x:Str}
  (hn:l.most=some n) (hn2:n<=sizeLine) (hdf:d.params.defaults=[]) (hr:Room k callerA)
  (hY:∀ (w:World) (h:Heap),YP w h->(K w.params).In h)
  (F:∀ (w:World) (mg:Str->Option Value) (fa:Addr) (h:Heap),(K w.params).In h->h.Ns mainGlobals mg->mg d.name=some (.ref fa) ->
   ∃ fd:FuncData,(∀ (s:Shared) (u:Value),BindsTo s fd ⟨[u],[]⟩ [(x,u)]) /\
    ∀ base:Heap,(K w.params).In base->base.Ns mainGlobals mg->FnOk l.prog w (K w.params) mg base (CX w) k fa fd [x] (sp w))
  (hsp:∀ (w:World) (H:Hp) (a:Addr) (ns:List Int),ns.length<=n->yM H->SqL (K w.params) H a (ns.map V.int)->sp w [.ref a] H (fun v _=>v=.bl true) fun _ _ _=>False)
  (hCX:∀ (w:World) (H:Hp) (s:Shared) (e:Value) (s':Shared),CX w [] H s (fun _ _ _=>False) e s'->False) :
  PySem.W.WalkO q loose XP YP l.row.toRowW d [] (fun f vs=>PySem.call f vs):=by
 refine Att.attach_call hn hdf fun w s₀ s₁ mg mb fa o pm cd doc a vs ns G Y ho hd hcd hmg hobj hints hlen hg=>?_;have KX:=hY w _ Y
 obtain⟨fd,hb,hF⟩:=F w mg fa _ KX G.T.g hmg;exact CC KX G.T.g G.T.b G.T.builtins G.T.nolimit hg hobj hints (Nat.le_trans hlen hn2) hr hF hb (fun H hO hS=>hsp w H a ns hlen hO hS) fun H e s'=>hCX w H s₁ e s'
def mG(s:Stmt):Arguments:=match s with
 | .FunctionDef _ a _ _ _ _ _ _ _ _=>a
 | _=>{posonlyargs:=[],args:=[],vararg:=none,kwonlyargs:=[],kw_defaults:=[],kwarg:=none,defaults:=[]}
def gR(s:Stmt):List Stmt:=match s with
 | .FunctionDef _ _ b _ _ _ _ _ _ _=>b
 | _=>[]
def dS(s:Stmt):Scope:=match s with
 | .FunctionDef _ _ _ _ _ _ sc _ _ _=>sc
 | _=>{kind:=.function,names:=[],isGenerator:=false,isCoroutine:=false}
abbrev eD:gQ:=fun _ _ _ _ _ _=>False
abbrev E0:XK:=fun _ _ _=>False
theorem Fs{X:Cx}:qB eD X E0:=fun _ _ _ _ _ _ _ h=>h.elim
structure Fun (K:ad) (x qual:Str) (st:Stmt) (f:Addr) (fd:FuncData):Prop where
 ex:∃ (oc:Value) (od:Option Addr) (kV doc pm:Value) (an:Option Addr) (cdv ct:Value) (osl:Array (Option Value)),
  fd=PySem.W.fnOf x qual (mG st) (gR st) (dS st) .none kV doc pm an cdv ct/\K.lookup f=some ⟨oc,od,.func fd,osl⟩/\PySem.W.codeIn K cdv qual=true
 kp:PySem.W.keepIn K (.ref f)=true
section
variable {P:Program}{w:World}{K:ad}{mg:Str->Option Value}{base:Heap}
theorem Fun.ok{x qual:Str}{st:Stmt}{f:Addr}{fd:FuncData}{N ps:List Str}{k:Nat}{sp:Sp}(F:Fun K x qual st f fd)(S:FnScope N ps (dS st))(len:∀ vs H Q E,sp vs H Q E->vs.length=ps.length)
  (hbody:∀ (cdv:Value) (A:Around) (outer:List Env) (s:Shared) (H:Hp) (vs:List V) (Q:VK) (E:XK),Room k (A.deeper (envOfC qual (dS st) s.heap.objs.size f cdv))->sp vs H Q E ->
   ∃ t,PSs (iB eD P w K mg base N qual (dS st) f cdv A outer s H E).nox (gR st) t/\t {nx:=fun _ H'=>Q .non H',rt:=Q} (start N vs) H):FnOk P w K mg base eD (k+1) f fd ps sp:=by
 obtain⟨oc,od,kV,doc,pm,an,cdv,ct,osl,rfl,lk,hcd⟩:=F.ex;refine V0 lk hcd S len fun A outer s H vs Q E hr hsp=>?_;obtain⟨t,h,q⟩:=hbody cdv A outer s H vs Q E hr hsp;exact⟨t,h.nox,q⟩
theorem Fun.binds{x qual:Str}{st:Stmt}{f:Addr}{fd:FuncData}{ps:List Str}(F:Fun K x qual st f fd)
  (h:∀ (kV doc pm:Value) (an:Option Addr) (cdv ct:Value) (us:List Value),us.length=ps.length->bindArgs (PySem.W.fnOf x qual (mG st) (gR st) (dS st) .none kV doc pm an cdv ct) ⟨us,[]⟩=pure (ps.zip us)):Binds K fd ps []:=by
 obtain⟨oc,od,kV,doc,pm,an,cdv,ct,osl,rfl,lk,hcd⟩:=F.ex;exact .all (h kV doc pm an cdv ct)
theorem Y6{x qual:Str}{st:Stmt}{f:Addr}{oc:Value}{od an:Option Addr}{osl:Array (Option Value)}{kV doc pm cdv ct:Value}(l:K.lookup f=some ⟨oc,od,.func (PySem.W.fnOf x qual (mG st) (gR st) (dS st) .none kV doc pm an cdv ct),osl⟩)
  (c:PySem.W.codeIn K cdv qual=true) (k:PySem.W.keepIn K (.ref f)=true):Fun K x qual st f (PySem.W.fnOf x qual (mG st) (gR st) (dS st) .none kV doc pm an cdv ct):=⟨⟨oc,od,kV,doc,pm,an,cdv,ct,osl,rfl,l,c⟩,k⟩
end
section
variable {X:Cx}
theorem pv(i:Nat){x:Str}{pos:Pos}(hN:X.N[i]?=some x:=by rfl)(hv:gX X.env.scope x:=by first | exact Or.inl rfl | exact Or.inr (Or.inl rfl) | exact Or.inr (Or.inr rfl))(hd:(x==("__debug__" : Str))=false:=by decide)
  (hcd:(x==("__classdict__" : Str))=false:=by decide):PE X (.Name x pos) (Pn i):=Ir hN hv hd hcd
end
theorem F8{A B:Prop}(h:B):if false=true then A else B:=by
 rw[if_neg am];exact h
theorem Tf{A B:Prop}(h:A):if true=true then A else B:=by
 rw[if_pos rfl];exact h
def Same(H H':Hp):Prop:=∀ b o,H b=some o->H' b=some o
theorem Same.refl(H:Hp):Same H H:=fun _ _ h=>h
theorem Same.trans{H H1 H2:Hp}(a:Same H H1)(b:Same H1 H2):Same H H2:=fun c o h=>b c o (a c o h)
theorem Same.free{H H':Hp}(e:Same H H'){l:Addr}(h:H' l=Option.none):H l=Option.none:=by
 cases q:H l with
 | none=>rfl
 | some o =>
  rw[e l o q]at h
  cases h
theorem Same.seq{K:ad}{H H':Hp}{a:Addr}{xs:List V}(e:Same H H')(h:SqL K H a xs):SqL K H' a xs:=by
 rcases h with (h | ⟨o,h⟩) | h
 ·exact .inl (.inl (e _ _ h))
 ·exact .inl (.inr ⟨o,e _ _ h⟩)
 ·exact .inr h
section
variable {κ:Type}[DecidableEq κ]
def dA(kvs:List (κ×V))(k:κ):Option V:=(kvs.find? fun kv=>decide (kv.1=k)).map (·.2)
def cV(kvs:List (κ×V))(k:κ)(v:V):List (κ×V) :=
 if (kvs.any fun kv=>decide (kv.1=k))=true then kvs.map (fun kv=>if kv.1=k then (kv.1,v) else kv) else kvs++[(k,v)]
def Bm(kvs:List (κ×V))(k:κ):List (κ×V):=kvs.filter fun kv=>decide (kv.1≠k)
theorem jS{p:κ×V}{r:List (κ×V)}{k:κ}(e:p.1=k):dA (p::r) k=some p.2:=by simp[dA,List.find?_cons,e]
theorem jZ{p:κ×V}{r:List (κ×V)}{k:κ}(e:¬ p.1=k):dA (p::r) k=dA r k:=by simp[dA,List.find?_cons,e]
theorem yC(k:κ):∀ kvs:List (κ×V),(kvs.any fun kv=>decide (kv.1=k))=(dA kvs k).isSome
 | []=>rfl
 | p::r=>by
  rw[List.any_cons]
  by_cases e:p.1=k
  ·simp only[jS e,decide_eq_true e,Bool.true_or,Option.isSome_some]
  ·rw[jZ e,decide_eq_false e,Bool.false_or];exact yC k r
theorem xE(kvs:List (κ×V))(k:κ)(v:V):(cV kvs k v).length<=kvs.length+1:=by
 unfold cV
 split
 ·rw[av];omega
 ·rw[List.length_append,List.length_cons,List.length_nil];omega
theorem RelO.isSome_eq{o:Option V}{u:Option Value}(r:RelO o u):o.isSome=u.isSome:=by
 cases o with
 | none=>cases u with
  | none=>rfl
  | some _=>exact(show False from r).elim
 | some _=>cases u with
  | none=>exact(show False from r).elim
  | some _=>rfl
theorem RelO.getD{o:Option V}{u:Option Value}{d:V}{d':Value}(r:RelO o u)(rd:RelV d d'):RelV (o.getD d) (u.getD d'):=by
 cases o with
 | none=>cases u with
  | none=>exact rd
  | some _=>exact(show False from r).elim
 | some _=>cases u with
  | none=>exact(show False from r).elim
  | some _=>exact r
theorem KV.val{kvs:List (κ×V)}{vs:List (κ×Value)}(r:KV kvs vs)(k:κ):RelO (dA kvs k) (valueAt vs k):=by
 unfold KV at r
 induction r with
 | nil=>exact True.intro
 | @cons p q ps qs h t ih =>
  obtain⟨h1,h2⟩:=h
  by_cases e:p.1=k
  ·have e':q.1=k:=h1.symm.trans e
   have b:valueAt (q::qs) k=some q.2:=by simp[valueAt,List.find?_cons,e']
   rw[jS e,b];exact h2
  ·have e':¬ q.1=k:=fun z=>e (h1.trans z)
   have b:valueAt (q::qs) k=valueAt qs k:=by simp[valueAt,List.find?_cons,e']
   rw[jZ e,b];exact ih
theorem KV.any{kvs:List (κ×V)}{vs:List (κ×Value)}(r:KV kvs vs)(k:κ):(kvs.any fun kv=>decide (kv.1=k))=vs.any fun kv=>decide (kv.1=k):=by
 unfold KV at r
 induction r with
 | nil=>rfl
 | cons h t ih=>rw[List.any_cons,List.any_cons,ih,h.1]
theorem KV.repl{kvs:List (κ×V)}{vs:List (κ×Value)}(r:KV kvs vs)(k:κ){y:V}{u:Value}(ry:RelV y u) :
  KV (kvs.map fun kv=>if kv.1=k then (kv.1,y) else kv) (vs.map fun kv=>if kv.1=k then (kv.1,u) else kv):=by
 unfold KV at r ⊢
 induction r with
 | nil=>exact .nil
 | @cons p q ps qs h t ih =>
  rw[au,au];refine .cons ?_ ih;obtain⟨h1,h2⟩:=h
  by_cases e:p.1=k
  ·rw[if_pos e,if_pos (h1.symm.trans e)];exact⟨h1,ry⟩
  ·rw[if_neg e,if_neg (fun z=>e (h1.trans z))];exact⟨h1,h2⟩
theorem KV.put{kvs:List (κ×V)}{vs:List (κ×Value)}(r:KV kvs vs)(k:κ){y:V}{u:Value}(ry:RelV y u):KV (cV kvs k y) (stored vs k u):=by
 unfold cV stored;rw[r.any k]
 by_cases e:(vs.any fun kv=>decide (kv.1=k))=true
 ·rw[if_pos e,if_pos e];exact r.repl k ry
 ·rw[if_neg e,if_neg e];exact Paired.snoc r ⟨rfl,ry⟩
theorem KV.drop{kvs:List (κ×V)}{vs:List (κ×Value)}(r:KV kvs vs)(k:κ):KV (Bm kvs k) (without vs k):=by
 unfold KV at r ⊢;unfold Bm without
 induction r with
 | nil=>exact .nil
 | @cons p q ps qs h t ih =>
  obtain⟨h1,h2⟩:=h;rw[List.filter_cons,List.filter_cons]
  by_cases e:p.1=k
  ·have a:¬ decide (p.1≠k)=true:=by simp[e]
   have b:¬ decide (q.1≠k)=true:=by simp[h1.symm.trans e]
   rw[if_neg a,if_neg b];exact ih
  ·have e':¬ q.1=k:=fun z=>e (h1.trans z)
   have a:decide (p.1≠k)=true:=by simp[e]
   have b:decide (q.1≠k)=true:=by simp[e']
   rw[if_pos a,if_pos b];exact .cons ⟨h1,h2⟩ ih
theorem KV.keys{kvs:List (κ×V)}{vs:List (κ×Value)}(r:KV kvs vs):kvs.map (·.1)=vs.map (·.1):=by
 unfold KV at r
 induction r with
 | nil=>rfl
 | cons h t ih=>rw[au,au,ih,h.1]
theorem KV.length{kvs:List (κ×V)}{vs:List (κ×Value)}(r:KV kvs vs):kvs.length=vs.length:=Paired.length r
end
theorem nU{P:Program}{w:World}{k:aL}{u:Value}(r:RelV (kV k) u):(bX P w).is k u=true:=by
 cases k with
 | inl i=>obtain⟨t,e⟩:=(show ∃ t,u=Value.int i t from r);subst e;exact EY P w i t
 | inr x=>obtain⟨t,e⟩:=(show ∃ t,u=Value.str x t from r);subst e;exact Sl P w x t
theorem pE{P:Program}{w:World}:∀ {ks:List aL} {us:List Value},Vals (ks.map kV) us->ItemsAre (bX P w) ks us
 | [],_,r=>by rw[List.map_nil]at r;cases r;exact .nil
 | k::ks,_,r=>by
  rw[au]at r
  cases r with
  | cons h t=>exact .cons (nU h) (pE t)
abbrev KT(H:Hp):List (List aL×V)->List (List aL×Addr×Value)->Prop:=Paired fun p q=>p.1=q.1/\H q.2.1=some (.tup (p.1.map kV))/\RelV p.2 q.2.2
theorem KT.val{H:Hp}{kvs:List (List aL×V)}{xs:List (List aL×Addr×Value)}(r:KT H kvs xs)(k:List aL):RelO (dA kvs k) ((atKey xs k).map (·.2)):=by
 induction r with
 | nil=>exact True.intro
 | @cons p q ps qs h t ih =>
  obtain⟨h1,_,h2⟩:=h
  by_cases e:p.1=k
  ·have e':q.1=k:=h1.symm.trans e
   have b:atKey (q::qs) k=some q.2:=by simp[atKey,List.find?_cons,e']
   rw[jS e,b];exact h2
  ·have e':¬ q.1=k:=fun z=>e (h1.trans z)
   have b:atKey (q::qs) k=atKey qs k:=by simp[atKey,List.find?_cons,e']
   rw[jZ e,b];exact ih
theorem KT.repl{H:Hp}{kvs:List (List aL×V)}{xs:List (List aL×Addr×Value)}(r:KT H kvs xs)(k:List aL){y:V}{u:Value}(ry:RelV y u) :
  KT H (kvs.map fun kv=>if kv.1=k then (kv.1,y) else kv) (xs.map (putAt k u)):=by
 induction r with
 | nil=>exact .nil
 | @cons p q ps qs h t ih =>
  rw[au,au];refine .cons ?_ ih;obtain⟨h1,h2,h3⟩:=h;unfold putAt
  by_cases e:p.1=k
  ·rw[if_pos e,if_pos (h1.symm.trans e)];exact⟨h1,h2,ry⟩
  ·rw[if_neg e,if_neg (fun z=>e (h1.trans z))];exact⟨h1,h2,h3⟩
theorem KT.put{H:Hp}{kvs:List (List aL×V)}{xs:List (List aL×Addr×Value)}(r:KT H kvs xs)(k:List aL){b:Addr}{y:V}{u:Value}(hb:H b=some (.tup (k.map kV)))(ry:RelV y u) :
  KT H (cV kvs k y) (storedH xs k b u):=by
 have e:(kvs.any fun kv=>decide (kv.1=k))=(atKey xs k).isSome:=by
  rw[yC,(r.val k).isSome_eq,Option.isSome_map]
 unfold cV storedH;rw[e]
 by_cases q:(atKey xs k).isSome=true
 ·rw[if_pos q,if_pos q];exact r.repl k ry
 ·rw[if_neg q,if_neg q];exact Paired.snoc r ⟨rfl,hb,ry⟩
theorem KT.keeps{H H':Hp}{kvs:List (List aL×V)}{xs:List (List aL×Addr×Value)}(r:KT H kvs xs)(ht:∀ b ys,H b=some (.tup ys)->H' b=some (.tup ys)):KT H' kvs xs :=
 Paired.mapP r fun _ _ z=>⟨z.1,ht _ _ z.2.1,z.2.2⟩
section
variable {P:Program}{w:World}{H:Hp}{h:Heap}{a:Addr}
theorem Oh{u:HO}(ok:HOk P w H h)(e:Rd H a u):ObjOk P w H h a u:=e.ok ok
theorem lL{kvs:List (aL×V)}(ok:HOk P w H h)(e:Rd H a (.dK kvs)):kvs.length<=sizeLine/\(a==sysModules)=false/\∃ vs,KV kvs vs/\h.DictOf (bX P w) a vs :=
 show ObjOk P w H h a (.dK kvs) from Oh ok e
theorem xY{kvs:List (aL×V)}(ok:HOk P w H h)(e:H a=some (.dK kvs)):kvs.length<=sizeLine/\(a==sysModules)=false/\∃ vs,KV kvs vs/\h.DictOf (bX P w) a vs:=lL ok (.inl e)
theorem vZ{ks:List aL}(ok:HOk P w H h)(e:H a=some (.tup (ks.map kV))):(tupleKind (bX P w)).is h ks a:=by
 obtain⟨_,its,r,o,h1,h2,n,h3⟩:=(show ObjOk P w H h a (.tup (ks.map kV)) from ok a _ e)
 exact⟨o,its.toArray,n,h1,h2,h3,by simpa using pE r⟩
theorem pG{kvs:List (List aL×V)}(ok:HOk P w H h)(e:Rd H a (.dT kvs)):kvs.length<=sizeLine/\(a==sysModules)=false /\
  ∃ xs,KT H kvs xs/\h.DictOfH (tupleKind (bX P w)) a xs:=by
 obtain⟨z,y,xs,r,o,es,ep,h1,h2,h3,h4,h5⟩:=(show ObjOk P w H h a (.dT kvs) from Oh ok e)
 refine⟨z,y,xs,r,o,es,ep,h1,h2,h3,h4,fun x hx=>?_,h5⟩;have all:∀ {l:List (List aL×V)} {m:List (List aL×Addr×Value)},KT H l m->∀ x∈m,(tupleKind (bX P w)).is h x.1 x.2.1:=by
  intro l m q
  induction q with
  | nil=>intro x hx;exact nomatch hx
  | @cons p q ps qs hq t ih =>
   intro x hx;rcases List.mem_cons.mp hx with e | hx
   ·subst e;exact vZ ok (by rw[<- hq.1];exact hq.2.1)
   ·exact ih x hx
 exact all r x hx
theorem G4{kvs:List (List aL×V)}(ok:HOk P w H h)(e:H a=some (.dT kvs)):kvs.length<=sizeLine/\(a==sysModules)=false /\
  ∃ xs,KT H kvs xs/\h.DictOfH (tupleKind (bX P w)) a xs:=pG ok (.inl e)
end
def DGet(H:Hp)(a:Addr)(y:V)(r:Option V):Prop :=
 (∃ kvs k,Rd H a (.dK kvs)/\y=kV k/\r=dA kvs k)\/∃ kvs k b,Rd H a (.dT kvs)/\y=.ref b/\H b=some (.tup (k.map kV))/\r=dA kvs k
def DPut(H:Hp)(a:Addr)(y v:V)(H':Hp):Prop :=
 (∃ kvs k,H a=some (.dK kvs)/\y=kV k/\kvs.length<sizeLine/\H'=upd H a (.dK (cV kvs k v))) \/
 ∃ kvs k b,H a=some (.dT kvs)/\y=.ref b/\H b=some (.tup (k.map kV))/\kvs.length<sizeLine/\H'=upd H a (.dT (cV kvs k v))
theorem DGet.k{H:Hp}{a:Addr}{kvs:List (aL×V)}{k:aL}(e:H a=some (.dK kvs)):DGet H a (kV k) (dA kvs k):=.inl ⟨kvs,k,.inl e,rfl,rfl⟩
theorem DGet.t{H:Hp}{a b:Addr}{kvs:List (List aL×V)}{k:List aL}(e:H a=some (.dT kvs))(eb:H b=some (.tup (k.map kV))):DGet H a (.ref b) (dA kvs k):=.inr ⟨kvs,k,b,.inl e,rfl,eb,rfl⟩
theorem DPut.k{H:Hp}{a:Addr}{kvs:List (aL×V)}{k:aL}{v:V}(e:H a=some (.dK kvs))(hl:kvs.length<sizeLine):DPut H a (kV k) v (upd H a (.dK (cV kvs k v))):=.inl ⟨kvs,k,e,rfl,hl,rfl⟩
theorem DPut.t{H:Hp}{a b:Addr}{kvs:List (List aL×V)}{k:List aL}{v:V}(e:H a=some (.dT kvs))(eb:H b=some (.tup (k.map kV)))(hl:kvs.length<sizeLine) :
  DPut H a (.ref b) v (upd H a (.dT (cV kvs k v))):=.inr ⟨kvs,k,b,e,rfl,eb,hl,rfl⟩
section
variable {X:Cx}{pins:List (Addr×Obj)}{σ:St}{H:Hp}{s:Shared}{a:Addr}{y v:V}{u r:Value}{o:Option V}{A:Around}{E:Value->Shared->Prop}
theorem Inv.big(I:Inv X pins σ H s):sysModules<s.heap.objs.size:=by
 have h:mainGlobals<s.heap.objs.size:=(I.mod.glob.keeps I.bk).lt
 exact Nat.lt_trans #[1] h
theorem Mr{Q:Value->Shared->Prop}(hu:A.units+1<cLine)(I:Inv X pins σ H s)(g:DGet H a y (some v))(ry:RelV y u)(h:∀ w' s',Inv X pins σ H s'->RelV v w'->Q w' s') :
  wpAny (model X.prog X.w) A (getItem (.ref a) u) Q E s:=by
 rcases g with⟨kvs,k,e,ey,l⟩ | ⟨kvs,k,b,e,ey,eb,l⟩
 ·subst ey;obtain⟨z,hd,vs,rel,dd⟩:=lL I.hok e;obtain⟨w',hw,rw'⟩:=RelO.some_of (v:=v) (o:=valueAt vs k) (by rw[l];exact rel.val k)
  exact wpAny_getItem_of (nU ry) dd.mapOf hw (h w' _ (I.tok _) rw')
 ·subst ey
  cases (show u=Value.ref b from ry)
  obtain⟨z,hd,xs,rel,dd⟩:=pG I.hok e;obtain⟨w',hw,rw'⟩:=RelO.some_of (v:=v) (o:=(atKey xs k).map (·.2)) (by rw[l];exact rel.val k)
  obtain⟨p,hp,hp2⟩:=Option.map_eq_some_iff.mp hw;refine wpAny_getItem_heap (tupleKind_room_in1 hu) (vZ I.hok eb) dd hp ?_;rw[hp2];exact h w' _ (I.tok _) rw'
theorem qU{h':Heap}{t':Nat}{ob:HO}(I:Inv X pins σ H s)(mu:nX (H a))(hs:Heap.SameBut a s.heap h')(he:∃ q,h'.get? a=some q)(new:ObjOk X.prog X.w (upd H a ob) h' a ob) :
  Inv X pins σ (upd H a ob) {s with heap:=h',toks:=t'} :=
 I.write (x:=a) (e:=a) mu (.inl rfl) (fun b q hb z=>(hs.2 b hb).trans z) he new
theorem Ds{P:Program}{w:World}{H':Hp}{h':Heap}{kvs:List (aL×V)}{vs:List (aL×Value)}(z:kvs.length<=sizeLine)(hd:(a==sysModules)=false)(rel:KV kvs vs)(dd:h'.DictOf (bX P w) a vs) :
  ObjOk P w H' h' a (.dK kvs):=⟨z,hd,vs,rel,dd⟩
theorem X5{H':Hp}{Q:Unit->Shared->Prop}(hu:A.units+1<cLine)(I:Inv X pins σ H s)(g:DPut H a y v H')(ry:RelV y u)(rv:RelV v r)(h:∀ s',Inv X pins σ H' s'->Q () s') :
  wpAny (model X.prog X.w) A (setItem (.ref a) u r) Q E s:=by
 rcases g with⟨kvs,k,e,ey,l,eH⟩ | ⟨kvs,k,b,e,ey,eb,l,eH⟩
 ·subst ey eH;obtain⟨z,hd,vs,rel,dd⟩:=xY I.hok e;have hz:vs.length<=sizeLine:=by rw[<- rel.length];exact z
  have hl:(cV kvs k v).length<=sizeLine:=by have:=xE kvs k v;omega
  refine wpAny_setItem_pairs (hsz:=hz) (nU ry) dd fun h' dd' hs=>h _ ?_;have he:∃ q,h'.get? a=some q:=let ⟨q,_,_,hq,_⟩:=dd';⟨q,hq⟩
  exact qU I (by rw[e];exact True.intro) hs he (Ds hl hd (rel.put k rv) dd')
 ·subst ey eH
  cases (show u=Value.ref b from ry)
  obtain⟨z,hd,xs,rel,dd⟩:=G4 I.hok e;have hz:xs.length<=sizeLine:=by rw[<- Paired.length rel];exact z
  have hl:(cV kvs k v).length<=sizeLine:=by have:=xE kvs k v;omega
  refine wpAny_setItem_heap (hsz:=hz) (tupleKind_room_in1 hu) (vZ I.hok eb) dd fun h' dd' hs=>h _ ?_;obtain⟨q,es,ep,hq,h2,h3,h4,_,h5⟩:=dd';refine qU I (by rw[e];exact True.intro) hs ⟨q,hq⟩ ⟨hl,hd,_,(rel.put k eb rv).keeps fun c ys ec=>?_,q,es,ep,hq,h2,h3,h4,h5⟩
  rw[bF (AN ec e (fun z=>nomatch z))];exact ec
end
def jU(i:Expr):Prop:=∀ ov iv,subscripted i false ov iv=operate [ov,iv] (getItem ov iv)
theorem Bc{prog:Program}{w:World}{A:Around}{E:Value->Shared->Prop}{s:Shared}{env:Env}{value slice:Expr}{pos:Pos}{T id:String}{Q:Value->Shared->Prop}
  (hl:typeLookup (.type T) "__getitem__"=pure (some (.builtin id))) (hs:jU slice)
  (h:wpAny (model prog w) A (eval value env) (fun o s₁=>wpAny (model prog w) A (eval slice env) (fun i s₂=>s₂.TypeIs o T/\wpAny (model prog w) A (getItem o i) Q E s₂) E s₁) E s) :
  wpAny (model prog w) A (eval (.Subscript value slice pos) env) Q E s:=by
 refine Subscript_ (wpAny_mono h (fun o s₁ h₁=>wpAny_mono h₁ (fun i s₂ h₂=>?_) fun _ _ x=>x) fun _ _ x=>x);obtain⟨hT,h₂⟩:=h₂;unfold subscriptTail;refine ae ?_;rw[getitemInPython_of_ne hT.not_modules];refine ae (wpAny_specialOf hT hl ?_);have fin:wpAny (model prog w) A (subscripted slice false o i) (fun r s₃=>wpAny (model prog w) A (letTemporaryGo value o r>>=fun _=>pure r) Q E s₃) E s₂:=by
  rw[hs o i];exact wpAny_operating (wpAny_mono h₂ (fun r s₃ h₃=>ae (wpAny_letTemporaryGo (af h₃))) fun _ _ x=>x)
 first
  | exact af (ae fin)
  | exact ae (af (ae fin))
  | exact ae fin
theorem zR{X:Cx}{pins:List (Addr×Obj)}{σ:St}{H:Hp}{s:Shared}{a:Addr}{y:V}{o:Option V}(I:Inv X pins σ H s)(g:DGet H a y o):s.TypeIs (.ref a) "dict":=by
 rcases g with⟨kvs,k,e,_,_⟩ | ⟨kvs,k,b,e,_,_,_⟩
 ·obtain⟨_,_,vs,_,dd⟩:=lL I.hok e;exact dd.typeIs
 ·obtain⟨_,_,xs,_,dd⟩:=pG I.hok e;exact dd.typeIs
def d9(td ty:TE):TE:=fun σ H Q=>td σ H fun x H1=>ty σ H1 fun y H2=>∃ a v,x=.ref a/\DGet H2 a y (some v)/\Q v H2
def O5(td ty tv:TE):TS:=fun D σ H=>tv σ H fun v H1=>td σ H1 fun x H2=>ty σ H2 fun y H3=>∃ a H4,x=.ref a/\DPut H3 a y v H4/\D.nx σ H4
section
variable {X:Cx}{o i e value:Expr}{pos pos' tpos:Pos}{td ty tv:TE}
theorem Az(hu:X.A.units+1<cLine)(ho:PE X o td)(hi:PE X i ty)(hs:jU i):PE X (.Subscript o i pos) (d9 td ty):=by
 intro pins s σ H Q I h;refine Bc PySem.F.slot_dict_getitem.lookup hs (aS (ho pins s σ H _ I h) fun u s1 ⟨x,H1,I1,rx,q1⟩=>aS (hi pins s1 σ H1 _ I1 q1) fun iv s2 ⟨y,H2,I2,ry,a,v,ex,g,q2⟩=>?_);subst ex;obtain rfl:u=Value.ref a:=rx;exact⟨zR I2 g,Mr hu I2 g ry fun w' s3 I3 rw'=>⟨v,H2,I3,rw',q2⟩⟩
theorem Ho(hu:X.A.units+1<cLine)(ho:PE X o td)(hi:PE X i ty)(hv:PE X value tv)(hs:swapsWith value (some (.Subscript o i pos')) pos.line X.env=pure false) :
  PS X (.Assign [.Subscript o i pos'] value pos) (O5 td ty tv):=by
 intro pins s σ H D I h;refine wpAny_Assign_Subscript (aS (hv pins s σ H _ I h) fun r s1 ⟨v,H1,I1,rv,q1⟩=>aS (ho pins s1 σ H1 _ I1 q1) fun u s2 ⟨x,H2,I2,rx,q2⟩=>aS (hi pins s2 σ H2 _ I2 q2) fun iv s3 ⟨y,H3,I3,ry,a,H4,ex,g,q3⟩=>?_) hs;subst ex;obtain rfl:u=Value.ref a:=rx;exact X5 hu I3 g ry rv fun s4 I4=>⟨σ,H4,I4,q3⟩
end
theorem b8{P:Program}{w:World}{H:Hp}(h:Heap)(hb:sysModules<h.objs.size):ObjOk P w H (h.push {cls:=.type "dict",data:=.dict #[]}) h.objs.size (.dK []) :=
 ⟨Nat.zero_le _,beq_eq_false_iff_ne.mpr (Ne.symm (ao hb)),[],.nil,Heap.DictOf.new h⟩
theorem Zd{P:Program}{w:World}{H:Hp}(h:Heap)(hb:sysModules<h.objs.size):ObjOk P w H (h.push {cls:=.type "dict",data:=.dict #[]}) h.objs.size (.dT []) :=
 ⟨Nat.zero_le _,beq_eq_false_iff_ne.mpr (Ne.symm (ao hb)),[],.nil,_,#[],0,ai _ rfl,⟨rfl,rfl,rfl⟩,rfl,rfl,List.nodup_nil⟩
end L2
namespace DL
open PySem PySem.Spec PyProof.Rows L2
inductive D where
 | dat (p:PyData)
 | cel (a:Addr)
inductive Cel where
 | l (xs:List PyData)
 | d (kvs:List (aL×PyData))
 | t (kvs:List (List aL×PyData))
 | dl (kas:List (aL×Addr))
 | fd (kvs:List (aL×PyData))
 | ft (kvs:List (List aL×PyData))
 | n (kvs:List (List PyData×D))
 | g (kvs:List (aL×D))
 | o (N:Str) (fs:List (Str×D))
@[simp] def mV:Option Cel->Bool
 | some (.fd _)=>true
 | some (.ft _)=>true
 | _=>false
abbrev Mu:=Addr->Option Cel
abbrev bI:=List (Option D)
@[simp] def cT:aL->PyData
 | .inl i=>.int i
 | .inr z=>.str z
def yF:PyData:=.int (2^1930)
theorem t7:yF.showable=false:=by
 show decide ((((2:Int)^1930).natAbs).log2<1920)=false
 rw[Int.natAbs_pow,show(2:Int).natAbs=2 from rfl,Nat.log2_two_pow]
 decide
def kT(K:ad):HO->List (PyData×V)->Prop
 | .dK ws,vs=>vs=ws.map fun kv=>(cT kv.1,kv.2)
 | .dT ws,vs=>vs=ws.map fun kv=>(.tuple (kv.1.map cT),kv.2)
 | .dN K' ws,vs=>K'=K/\vs=ws.map fun kv=>(.tuple kv.1,kv.2)
 | _,_=>False
mutual
def RP(K:ad)(Z:Addr->Prop)(m:Mu)(H:Hp):PyData->V->Prop
 | .none,v=>v=.non
 | .bool b,v=>v=.bl b
 | .int i,v=>v=.int i
 | .str x,v=>v=.str x
 | .tuple xs,v=>∃ a vs,v=.ref a/\SqT K H a vs/\RPs K Z m H xs vs
 | .list xs,v=>∃ a vs,v=.ref a/\(m a=none/\¬ Z a)/\SqL K H a vs/\RPs K Z m H xs vs
 | .dict kvs,v=>∃ a o u vs,v=.ref a/\H a=some (.frz o u)/\kT K u vs/\RPd K Z m H kvs ((yF,.non)::vs)
def RPd(K:ad)(Z:Addr->Prop)(m:Mu)(H:Hp):List (PyData×PyData)->List (PyData×V)->Prop
 | [],vs=>vs=[]
 | (k,p)::xs,vs=>∃ v r,vs=(k,v)::r/\RP K Z m H p v/\RPd K Z m H xs r
def RPs(K:ad)(Z:Addr->Prop)(m:Mu)(H:Hp):List PyData->List V->Prop
 | [],vs=>vs=[]
 | x::xs,vs=>∃ v r,vs=v::r/\RP K Z m H x v/\RPs K Z m H xs r
end
def RD(K:ad)(Z:Addr->Prop)(m:Mu)(H:Hp):D->V->Prop
 | .dat p,v=>RP K Z m H p v
 | .cel a,v=>v=.ref a/\(m a).isSome=true
def RDs(K:ad)(Z:Addr->Prop)(m:Mu)(H:Hp):List D->List V->Prop
 | [],vs=>vs=[]
 | x::xs,vs=>∃ v r,vs=v::r/\RD K Z m H x v/\RDs K Z m H xs r
def RKV{κ:Type}(K:ad)(Z:Addr->Prop)(m:Mu)(H:Hp):List (κ×PyData)->List (κ×V)->Prop
 | [],vs=>vs=[]
 | (k,p)::xs,vs=>∃ v r,vs=(k,v)::r/\RP K Z m H p v/\RKV K Z m H xs r
def RW(K:ad)(Z:Addr->Prop)(m:Mu)(H:Hp):D->V->Prop
 | .dat p,v=>RP K Z m H p v
 | .cel a,v=>v=.ref a
def RKW{κ:Type}(K:ad)(Z:Addr->Prop)(m:Mu)(H:Hp):List (κ×D)->List (κ×V)->Prop
 | [],vs=>vs=[]
 | (k,p)::xs,vs=>∃ v r,vs=(k,v)::r/\RW K Z m H p v/\RKW K Z m H xs r
def RC(K:ad)(Z:Addr->Prop)(m:Mu)(H:Hp):Cel->HO->Prop
 | .l xs,.lst vs=>RPs K Z m H xs vs
 | .d kvs,.dK vs=>RKV K Z m H kvs vs
 | .t kvs,.dT vs=>RKV K Z m H kvs vs
 | .dl kas,.dK vs=>vs=kas.map fun x=>(x.1,V.ref x.2)
 | .fd kvs,.frz _ (.dK vs)=>RKV K Z m H kvs vs
 | .ft kvs,.frz _ (.dT vs)=>RKV K Z m H kvs vs
 | .n kvs,.dN K' vs=>K'=K/\RKW K Z m H kvs vs
 | .g kvs,.dK vs=>RKW K Z m H kvs vs
 | .o N fs,.ins C _ vs=>PySem.W.nsIn K mainGlobals N=some (some (.ref C))/\RKW K Z m H fs vs
 | _,_=>False
structure Ok (K:ad) (Z:Addr->Prop) (m:Mu) (H:Hp):Prop where
 g:∀ a c,m a=some c->∃ o,H a=some o/\RC K Z m H c o
 z:∀ a,Z a->m a=none/\H a≠none
structure Ext (K:ad) (Z:Addr->Prop) (m:Mu) (H:Hp) (m':Mu) (H':Hp):Prop where
 t:∀ a vs,SqT K H a vs->SqT K H' a vs
 l:∀ a vs,(m a=none/\¬ Z a)->SqL K H a vs->m' a=none/\SqL K H' a vs
 z:∀ a,Z a->H' a=H a
 c:∀ a,(m a).isSome=true->(m' a).isSome=true
 fz:∀ a o u,H a=some (.frz o u)->H' a=some (.frz o u)
 fm:∀ a,mV (m a)=true->m' a=m a
section
variable {K:ad}{Z:Addr->Prop}{m m' m2:Mu}{H H' H2:Hp}
theorem Ext.refl:Ext K Z m H m H:=⟨fun _ _ h=>h,fun _ _ h1 h2=>⟨h1.1,h2⟩,fun _ _=>rfl,fun _ h=>h,fun _ _ _ h=>h,fun _ _=>rfl⟩
theorem Ext.trans(a:Ext K Z m H m' H')(b:Ext K Z m' H' m2 H2):Ext K Z m H m2 H2 :=
 ⟨fun x vs h=>b.t x vs (a.t x vs h),fun x vs h1 h2=>let ⟨q1,q2⟩:=a.l x vs h1 h2;b.l x vs ⟨q1,h1.2⟩ q2,fun x h=>(b.z x h).trans (a.z x h),fun x h=>b.c x (a.c x h),fun x o u h=>b.fz x o u (a.fz x o u h),fun x h=>by
  have q:=a.fm x h
  rw[b.fm x (by rw[q];exact h),q]⟩
mutual
theorem RP.ext(e:Ext K Z m H m' H'):∀ (p:PyData) (v:V),RP K Z m H p v->RP K Z m' H' p v
 | .none,v,h=>by simpa only[RP] using h
 | .bool _,v,h=>by simpa only[RP] using h
 | .int _,v,h=>by simpa only[RP] using h
 | .str _,v,h=>by simpa only[RP] using h
 | .tuple xs,v,h=>by
  simp only[RP]at h ⊢;obtain⟨a,vs,h1,h2,h3⟩:=h;exact⟨a,vs,h1,e.t a vs h2,RPs.ext e xs vs h3⟩
 | .list xs,v,h=>by
  simp only[RP]at h ⊢;obtain⟨a,vs,h1,h2,h3,h4⟩:=h;obtain⟨q1,q2⟩:=e.l a vs h2 h3;exact⟨a,vs,h1,⟨q1,h2.2⟩,q2,RPs.ext e xs vs h4⟩
 | .dict kvs,v,h=>by
  simp only[RP]at h ⊢;obtain⟨a,o,u,vs,h1,h2,h3,h4⟩:=h;exact⟨a,o,u,vs,h1,e.fz a o u h2,h3,RPd.ext e kvs _ h4⟩
theorem RPd.ext(e:Ext K Z m H m' H'):∀ (xs:List (PyData×PyData)) (vs:List (PyData×V)),RPd K Z m H xs vs->RPd K Z m' H' xs vs
 | [],vs,h=>by simpa only[RPd] using h
 | (k,p)::xs,vs,h=>by
  simp only[RPd]at h ⊢;obtain⟨v,r,h1,h2,h3⟩:=h;exact⟨v,r,h1,RP.ext e p v h2,RPd.ext e xs r h3⟩
theorem RPs.ext(e:Ext K Z m H m' H'):∀ (xs:List PyData) (vs:List V),RPs K Z m H xs vs->RPs K Z m' H' xs vs
 | [],vs,h=>by simpa only[RPs] using h
 | x::xs,vs,h=>by
  simp only[RPs]at h ⊢;obtain⟨v,r,h1,h2,h3⟩:=h;exact⟨v,r,h1,RP.ext e x v h2,RPs.ext e xs r h3⟩
end
theorem RD.ext(e:Ext K Z m H m' H'){d:D}{v:V}(h:RD K Z m H d v):RD K Z m' H' d v:=by
 cases d with
 | dat p=>exact RP.ext e p v h
 | cel a=>exact⟨h.1,e.c a h.2⟩
theorem RDs.ext(e:Ext K Z m H m' H'):∀ {xs:List D} {vs:List V},RDs K Z m H xs vs->RDs K Z m' H' xs vs
 | [],_,h=>h
 | _::_,_,⟨v,r,h1,h2,h3⟩=>⟨v,r,h1,h2.ext e,RDs.ext e h3⟩
theorem RKV.lift{κ:Type}{Z':Addr->Prop}(tr:∀ p v,RP K Z m H p v->RP K Z' m' H' p v):∀ {xs:List (κ×PyData)} {vs:List (κ×V)},RKV K Z m H xs vs->RKV K Z' m' H' xs vs
 | [],_,h=>h
 | _::_,_,⟨v,r,h1,h2,h3⟩=>⟨v,r,h1,tr _ _ h2,RKV.lift tr h3⟩
theorem RKW.lift{κ:Type}{Z':Addr->Prop}(tr:∀ p v,RP K Z m H p v->RP K Z' m' H' p v):∀ {xs:List (κ×D)} {vs:List (κ×V)},RKW K Z m H xs vs->RKW K Z' m' H' xs vs
 | [],_,h=>h
 | (_,.dat _)::_,_,⟨v,r,h1,h2,h3⟩=>⟨v,r,h1,tr _ _ h2,RKW.lift tr h3⟩
 | (_,.cel _)::_,_,⟨v,r,h1,h2,h3⟩=>⟨v,r,h1,h2,RKW.lift tr h3⟩
theorem RPs.lift{Z':Addr->Prop}(tr:∀ p v,RP K Z m H p v->RP K Z' m' H' p v):∀ {ps:List PyData} {vs:List V},RPs K Z m H ps vs->RPs K Z' m' H' ps vs
 | [],_,h=>by simpa only[RPs] using h
 | _::_,_,h=>by
  simp only[RPs]at h ⊢;obtain⟨v,r,h1,h2,h3⟩:=h;exact⟨v,r,h1,tr _ _ h2,RPs.lift tr h3⟩
theorem RC.lift{Z':Addr->Prop}{c:Cel}{o:HO}(tr:∀ p v,RP K Z m H p v->RP K Z' m' H' p v)(h:RC K Z m H c o):RC K Z' m' H' c o:=by
 cases c<;>cases o<;>first | exact RPs.lift tr h | exact RKV.lift tr h | exact RKW.lift tr h | exact⟨h.1,RKW.lift tr h.2⟩ | exact h | (rename_i ob u;cases u<;>first | exact RKV.lift tr h | exact h)
theorem RC.ext{c:Cel}{o:HO}(e:Ext K Z m H m' H')(h:RC K Z m H c o):RC K Z m' H' c o:=h.lift fun p v q=>RP.ext e p v q
theorem RC.mut{c:Cel}{o:HO}(h:RC K Z m H c o)(nf:mV (some c)=false):(∀ xs,o≠.tup xs)/\(∀ a b,o≠.frz a b):=by
 cases c with
 | fd _=>cases nf
 | ft _=>cases nf
 | dl _=>cases o<;>first | exact h.elim | exact⟨fun _ e=>(nomatch e),fun _ _ e=>(nomatch e)⟩
 | l _=>cases o<;>first | exact h.elim | exact⟨fun _ e=>(nomatch e),fun _ _ e=>(nomatch e)⟩
 | d _=>cases o<;>first | exact h.elim | exact⟨fun _ e=>(nomatch e),fun _ _ e=>(nomatch e)⟩
 | n _=>cases o<;>first | exact h.elim | exact⟨fun _ e=>(nomatch e),fun _ _ e=>(nomatch e)⟩
 | g _=>cases o<;>first | exact h.elim | exact⟨fun _ e=>(nomatch e),fun _ _ e=>(nomatch e)⟩
 | o _ _=>cases o<;>first | exact h.elim | exact⟨fun _ e=>(nomatch e),fun _ _ e=>(nomatch e)⟩
 | t _=>cases o<;>first | exact h.elim | exact⟨fun _ e=>(nomatch e),fun _ _ e=>(nomatch e)⟩
theorem Ok.l{a:Addr}{xs:List PyData}(ok:Ok K Z m H)(h:m a=some (.l xs)):∃ vs,H a=some (.lst vs)/\RPs K Z m H xs vs:=by
 obtain⟨o,h1,h2⟩:=ok.g a _ h
 cases o<;>first | exact⟨_,h1,h2⟩ | exact h2.elim
theorem Ok.d{a:Addr}{xs:List (aL×PyData)}(ok:Ok K Z m H)(h:m a=some (.d xs)):∃ vs,H a=some (.dK vs)/\RKV K Z m H xs vs:=by
 obtain⟨o,h1,h2⟩:=ok.g a _ h
 cases o<;>first | exact⟨_,h1,h2⟩ | exact h2.elim
theorem Ok.t{a:Addr}{xs:List (List aL×PyData)}(ok:Ok K Z m H)(h:m a=some (.t xs)):∃ vs,H a=some (.dT vs)/\RKV K Z m H xs vs:=by
 obtain⟨o,h1,h2⟩:=ok.g a _ h
 cases o<;>first | exact⟨_,h1,h2⟩ | exact h2.elim
theorem RPs.length:∀ {xs:List PyData} {vs:List V},RPs K Z m H xs vs->vs.length=xs.length
 | [],_,h=>by simp only[RPs]at h;subst h;rfl
 | _::xs,_,h=>by
  simp only[RPs]at h;obtain⟨v,r,h1,_,h3⟩:=h;subst h1;rw[List.length_cons,List.length_cons,RPs.length h3]
theorem RDs.length:∀ {xs:List D} {vs:List V},RDs K Z m H xs vs->vs.length=xs.length
 | [],_,h=>by cases (show _=[] from h);rfl
 | _::xs,_,⟨v,r,h1,_,h3⟩=>by
  subst h1;rw[List.length_cons,List.length_cons,RDs.length h3]
theorem RPs.get:∀ {xs:List PyData} {vs:List V} {i:Nat} {p:PyData},RPs K Z m H xs vs->xs[i]?=some p->∃ v,vs[i]?=some v/\RP K Z m H p v
 | [],_,_,_,_,e=>by simp at e
 | x::xs,_,0,p,h,e=>by
  simp only[RPs]at h;obtain⟨v,r,h1,h2,_⟩:=h;simp at e;subst h1 e;exact⟨v,rfl,h2⟩
 | x::xs,_,i+1,p,h,e=>by
  simp only[RPs]at h;obtain⟨v,r,h1,_,h3⟩:=h;obtain⟨u,q1,q2⟩:=RPs.get (i:=i) (p:=p) h3 #[4,e]
  subst h1;exact⟨u,by simpa using q1,q2⟩
theorem RPs.set:∀ {xs:List PyData} {vs:List V} {i:Nat} {p:PyData} {v:V},RPs K Z m H xs vs->RP K Z m H p v->RPs K Z m H (xs.set i p) (vs.set i v)
 | [],_,_,_,_,h,_=>by simp only[RPs]at h;subst h;simp[RPs]
 | x::xs,_,0,p,v,h,q=>by
  simp only[RPs]at h;obtain⟨w,r,h1,_,h3⟩:=h;subst h1;simp only[List.set_cons_zero,RPs];exact⟨v,r,rfl,q,h3⟩
 | x::xs,_,i+1,p,v,h,q=>by
  simp only[RPs]at h;obtain⟨w,r,h1,h2,h3⟩:=h;subst h1;simp only[List.set_cons_succ,RPs];exact⟨w,_,rfl,h2,RPs.set h3 q⟩
theorem RPs.append:∀ {xs ys:List PyData} {vs ws:List V},RPs K Z m H xs vs->RPs K Z m H ys ws->RPs K Z m H (xs++ys) (vs++ws)
 | [],_,_,_,h,q=>by simp only[RPs]at h;subst h;simpa using q
 | x::xs,_,_,_,h,q=>by
  simp only[RPs]at h;obtain⟨w,r,h1,h2,h3⟩:=h;subst h1;simp only[List.cons_append,RPs];exact⟨w,_,rfl,h2,RPs.append h3 q⟩
theorem RPs.drop:∀ {xs:List PyData} {vs:List V} (n:Nat),RPs K Z m H xs vs->RPs K Z m H (xs.drop n) (vs.drop n)
 | _,_,0,h=>by simpa using h
 | [],_,n+1,h=>by simp only[RPs]at h;subst h;simp[RPs]
 | x::xs,_,n+1,h=>by
  simp only[RPs]at h;obtain⟨w,r,h1,h2,h3⟩:=h;subst h1;simpa using RPs.drop n h3
theorem RPs.take:∀ {xs:List PyData} {vs:List V} (n:Nat),RPs K Z m H xs vs->RPs K Z m H (xs.take n) (vs.take n)
 | _,_,0,h=>by simp[RPs]
 | [],_,n+1,h=>by simp only[RPs]at h;subst h;simp[RPs]
 | x::xs,_,n+1,h=>by
  simp only[RPs]at h;obtain⟨w,r,h1,h2,h3⟩:=h;subst h1;simp only[List.take_succ_cons,RPs];exact⟨w,_,rfl,h2,RPs.take n h3⟩
theorem RPs.reverse:∀ {xs:List PyData} {vs:List V},RPs K Z m H xs vs->RPs K Z m H xs.reverse vs.reverse
 | [],_,h=>by simp only[RPs]at h;subst h;simp[RPs]
 | x::xs,_,h=>by
  simp only[RPs]at h;obtain⟨w,r,h1,h2,h3⟩:=h;subst h1;rw[List.reverse_cons,List.reverse_cons];exact(RPs.reverse h3).append (by simp only[RPs];exact⟨w,[],rfl,h2,rfl⟩)
@[simp] def pds:List D->Option (List PyData)
 | []=>some []
 | .dat p::r=>(pds r).map (p :: ·)
 | .cel _::_=>none
theorem RDs.pds:∀ {xs:List D} {vs:List V} {ps:List PyData},RDs K Z m H xs vs->DL.pds xs=some ps->RPs K Z m H ps vs
 | [],vs,ps,h,e=>by
  cases (show vs=[] from h)
  cases (show some []=some ps from e)
  simp[RPs]
 | .dat p::r,vs,ps,⟨v,w,h1,h2,h3⟩,e=>by
  simp only[DL.pds]at e
  cases q:DL.pds r with
  | none=>rw[q]at e;cases e
  | some qs =>
   rw[q]at e
   cases e
   simp only[RPs];exact⟨v,w,h1,h2,RDs.pds h3 q⟩
 | .cel a::r,_,_,_,e=>by simp only[DL.pds]at e;cases e
theorem SqT.same{a:Addr}{xs:List V}(e:Same H H')(h:SqT K H a xs):SqT K H' a xs:=by
 rcases h with (h | ⟨o,h⟩) | h
 ·exact .inl (.inl (e _ _ h))
 ·exact .inl (.inr ⟨o,e _ _ h⟩)
 ·exact .inr h
theorem Ext.grow(s:Same H H')(hz:∀ a,Z a->H a≠none):Ext K Z m H m H':=⟨fun _ _ h=>SqT.same s h,fun _ _ h1 h2=>⟨h1.1,s.seq h2⟩,fun a h=>by
 cases q:H a with
 | none=>exact absurd q (hz a h)
 | some o=>exact s a o q,fun _ h=>h,fun a o u h=>s _ _ h,fun _ _=>rfl⟩
theorem Ok.grow(s:Same H H')(ok:Ok K Z m H):Ok K Z m H':=by
 have e:Ext K Z m H m H':=Ext.grow s fun a h=>(ok.z a h).2
 refine⟨fun a c h=>?_,fun a h=>⟨(ok.z a h).1,by rw[e.z a h];exact(ok.z a h).2⟩⟩
 obtain⟨o,h1,h2⟩:=ok.g a c h;exact⟨o,s _ _ h1,h2.ext e⟩
theorem Ok.ext(s:Same H H')(ok:Ok K Z m H):Ext K Z m H m H':=Ext.grow s fun a h=>(ok.z a h).2
theorem cC{p:Addr}{o:HO}(h:H p=none):Same H (upd H p o):=fun b u q=>by rw[bF (kN q h)];exact q
def aW(m:Mu)(a:Addr)(c:Cel):Mu:=fun b=>if b=a then some c else m b
theorem bM{a:Addr}{c:Cel}:aW m a c a=some c:=by unfold aW;rw[if_pos rfl]
theorem cE{a b:Addr}{c:Cel}(h:b≠a):aW m a c b=m b:=by unfold aW;rw[if_neg h]
theorem gG{a:Addr}{x y:Cel}:aW (aW m a x) a y=aW m a y:=by funext b;unfold aW;split<;>rfl
theorem SqL.ne{p a:Addr}{xs:List V}(hp:H p=none)(hk:K.lookup p=none)(h:SqL K H a xs):a≠p:=by
 rintro rfl;rcases h with (h | ⟨o,h⟩) | ⟨o,_,_,h,_⟩
 ·rw[hp]at h;cases h
 ·rw[hp]at h;cases h
 ·rw[hk]at h;cases h
theorem Ext.cell{p:Addr}{o:HO}{c:Cel}(ok:Ok K Z m H)(hp:H p=none)(hk:K.lookup p=none):Ext K Z m H (aW m p c) (upd H p o):=by
 refine⟨fun _ _ h=>SqT.same (cC hp) h,fun a xs h1 h2=>?_,fun a h=>?_,fun a h=>?_,fun a o u h=>cC hp _ _ h,fun a h=>?_⟩
 ·have ne:=SqL.ne hp hk h2
  exact⟨by rw[cE ne];exact h1.1,(cC hp).seq h2⟩
 ·have ne:a≠p:=fun e=>(ok.z a h).2 (by rw[e];exact hp)
  exact bF ne
 ·by_cases e:a=p
  ·subst e;rw[bM];rfl
  ·rw[cE e];exact h
 ·have ne:a≠p:=by
   rintro rfl
   cases q:m a with
   | none=>rw[q]at h;cases h
   | some x =>
    obtain⟨w,h1,_⟩:=ok.g a x q;rw[hp]at h1
    cases h1
  exact cE ne
theorem Ok.updC{p:Addr}{o:HO}{c:Cel}(ok:Ok K Z m H)(hz:¬ Z p)(e:Ext K Z m H (aW m p c) (upd H p o))(r:RC K Z m H c o):Ok K Z (aW m p c) (upd H p o):=by
 refine⟨fun a x h=>?_,fun a h=>?_⟩
 ·by_cases q:a=p
  ·subst q;rw[bM]at h
   cases h
   exact⟨o,cA,r.ext e⟩
  ·rw[cE q]at h;obtain⟨w,h1,h2⟩:=ok.g a x h;exact⟨w,by rw[bF q];exact h1,h2.ext e⟩
 ·have ne:a≠p:=fun e=>hz (e▸h)
  exact⟨by rw[cE ne];exact(ok.z a h).1,by rw[bF ne];exact(ok.z a h).2⟩
theorem Ok.cell{p:Addr}{o:HO}{c:Cel}(ok:Ok K Z m H)(hp:H p=none)(hk:K.lookup p=none)(r:RC K Z m H c o):Ok K Z (aW m p c) (upd H p o) :=
 ok.updC (fun h=>(ok.z p h).2 hp) (Ext.cell ok hp hk) r
theorem Ext.put{a:Addr}{o o0:HO}{c c0:Cel}(ok:Ok K Z m H)(hm:m a=some c0)(hH:H a=some o0)(nf:mV (some c0)=false:=by rfl):Ext K Z m H (aW m a c) (upd H a o):=by
 have mu:(∀ xs,o0≠.tup xs)/\(∀ a b,o0≠.frz a b):=by
  obtain⟨w,h1,h2⟩:=ok.g a c0 hm;rw[hH]at h1
  cases h1
  exact h2.mut nf
 refine⟨fun b xs h=>?_,fun b xs h1 h2=>?_,fun b h=>?_,fun b h=>?_,fun b w u h=>?_,fun b h=>?_⟩
 ·rcases h with (h | ⟨w,h⟩) | h
  ·have ne:b≠a:=by rintro rfl;rw[hH]at h;cases h;exact absurd rfl (mu.1 _)
   exact .inl (.inl (by rw[bF ne];exact h))
  ·have ne:b≠a:=by rintro rfl;rw[hH]at h;cases h;exact absurd rfl (mu.2 _ _)
   exact .inl (.inr ⟨w,by rw[bF ne];exact h⟩)
  ·exact .inr h
 ·have ne:b≠a:=by rintro rfl;rw[hm]at h1;cases h1.1
  refine⟨by rw[cE ne];exact h1.1,?_⟩
  rcases h2 with (h | ⟨w,h⟩) | h
  ·exact .inl (.inl (by rw[bF ne];exact h))
  ·exact .inl (.inr ⟨w,by rw[bF ne];exact h⟩)
  ·exact .inr h
 ·have ne:b≠a:=by rintro rfl;have:=(ok.z b h).1;rw[hm]at this;cases this
  exact bF ne
 ·by_cases e:b=a
  ·subst e;rw[bM];rfl
  ·rw[cE e];exact h
 ·have ne:b≠a:=by rintro rfl;rw[hH]at h;cases h;exact absurd rfl (mu.2 _ _)
  rw[bF ne];exact h
 ·have ne:b≠a:=by rintro rfl;rw[hm,nf]at h;cases h
  exact cE ne
theorem Ok.put{a:Addr}{o o0:HO}{c c0:Cel}(ok:Ok K Z m H)(hm:m a=some c0)(hH:H a=some o0)(r:RC K Z m H c o)(nf:mV (some c0)=false:=by rfl):Ok K Z (aW m a c) (upd H a o) :=
 ok.updC (fun h=>by have:=(ok.z a h).1;rw[hm]at this;cases this) (Ext.put ok hm hH nf) r
def RS(K:ad)(Z:Addr->Prop)(m:Mu)(H:Hp)(d:bI)(s:L2.St):Prop:=d.length=s.length/\∀ (i:Nat) (x:D),d[i]?=some (some x)->∃ v,s[i]?=some (some v)/\RD K Z m H x v
theorem RS.ext{d:bI}{s:L2.St}(r:RS K Z m H d s)(e:Ext K Z m H m' H'):RS K Z m' H' d s:=⟨r.1,fun i x h=>let ⟨v,h1,h2⟩:=r.2 i x h;⟨v,h1,h2.ext e⟩⟩
theorem RS.set{d:bI}{s:L2.St}{i:Nat}{x:D}{v:V}(r:RS K Z m H d s)(h:RD K Z m H x v):RS K Z m H (d.set i (some x)) (s.set i (some v)):=by
 refine⟨by rw[List.length_set,List.length_set];exact r.1,fun j y q=>?_⟩
 by_cases e:j=i
 ·subst e;rw[List.getElem?_set]at q;simp only[if_true]at q
  split at q
  ·rename_i hl
   cases q
   refine⟨v,?_,h⟩;rw[List.getElem?_set];simp only[if_true];rw[if_pos (by rw[<- r.1];exact hl)]
  ·cases q
 ·rw[List.getElem?_set_ne (Ne.symm e)]at q;obtain⟨w,h1,h2⟩:=r.2 j y q;exact⟨w,by rw[List.getElem?_set_ne (Ne.symm e)];exact h1,h2⟩
end
abbrev DK:=D->Mu->Prop
abbrev DE:=bI->Mu->DK->Prop
abbrev DT:=bI->Mu->(Bool->Mu->Prop)->Prop
abbrev DA:=bI->Mu->(List D->Mu->Prop)->Prop
structure Ends2 where
 nx:bI->Mu->Prop
 rt:DK
 bk:bI->Mu->Prop:=fun _ _=>False
 ct:bI->Mu->Prop:=fun _ _=>False
abbrev DS:=Ends2->bI->Mu->Prop
def LE(K:ad)(f:DE):TE:=fun s H Q=>∃ (Z:Addr->Prop) (d:bI) (m:Mu) (R:DK),Ok K Z m H/\RS K Z m H d s/\f d m R /\
 ∀ x m' v H',R x m'->Ext K Z m H m' H'->Ok K Z m' H'->RD K Z m' H' x v->Q v H'
def LT(K:ad)(f:DT):TT:=fun s H Q=>∃ (Z:Addr->Prop) (d:bI) (m:Mu) (R:Bool->Mu->Prop),Ok K Z m H/\RS K Z m H d s/\f d m R /\
 ∀ b m' H',R b m'->Ext K Z m H m' H'->Ok K Z m' H'->Q b H'
def LA(K:ad)(f:DA):TA:=fun s H Q=>∃ (Z:Addr->Prop) (d:bI) (m:Mu) (R:List D->Mu->Prop),Ok K Z m H/\RS K Z m H d s/\f d m R /\
 ∀ xs m' vs H',R xs m'->Ext K Z m H m' H'->Ok K Z m' H'->RDs K Z m' H' xs vs->Q vs H'
def LS(K:ad)(f:DS):TS:=fun E s H=>∃ (Z:Addr->Prop) (d:bI) (m:Mu) (R:Ends2),Ok K Z m H/\RS K Z m H d s/\f R d m /\
 (∀ d' m' s' H',R.nx d' m'->Ext K Z m H m' H'->Ok K Z m' H'->RS K Z m' H' d' s'->E.nx s' H') /\
 (∀ x m' v H',R.rt x m'->Ext K Z m H m' H'->Ok K Z m' H'->RD K Z m' H' x v->E.rt v H') /\
 (∀ d' m' s' H',R.bk d' m'->Ext K Z m H m' H'->Ok K Z m' H'->RS K Z m' H' d' s'->E.bk s' H') /\
 (∀ d' m' s' H',R.ct d' m'->Ext K Z m H m' H'->Ok K Z m' H'->RS K Z m' H' d' s'->E.ct s' H')
theorem PE.imp{X:Cx}{e:Expr}{t t':TE}(h:PE X e t)(q:∀ s H Q,t' s H Q->t s H Q):PE X e t':=fun pins s d H Q I w=>h pins s d H Q I (q _ _ _ w)
theorem PT.imp{X:Cx}{e:Expr}{t t':TT}(h:PT X e t)(q:∀ s H Q,t' s H Q->t s H Q):PT X e t':=fun pins s d H Q I w=>h pins s d H Q I (q _ _ _ w)
theorem PA.imp{X:Cx}{e:List Expr}{t t':TA}(h:PA X e t)(q:∀ s H Q,t' s H Q->t s H Q):PA X e t':=fun pos pins s d H Q I w=>h pos pins s d H Q I (q _ _ _ w)
theorem PS.imp{X:Cx}{e:Stmt}{t t':TS}(h:PS X e t)(q:∀ E s H,t' E s H->t E s H):PS X e t':=fun pins s d H E I w=>h pins s d H E I (q _ _ _ w)
theorem PSs.imp{X:Cx}{e:List Stmt}{t t':TS}(h:PSs X e t)(q:∀ E s H,t' E s H->t E s H):PSs X e t':=fun pins s d H E I w=>h pins s d H E I (q _ _ _ w)
section
variable {X:Cx}{pos:Pos}
@[simp] def aA(i:Nat):DE:=fun d m Q=>∃ x,d[i]?=some (some x)/\Q x m
theorem l8(i:Nat){x:Str}(hN:X.N[i]?=some x:=by rfl)(hv:gX X.env.scope x:=by first | exact Or.inl rfl | exact Or.inr (Or.inl rfl) | exact Or.inr (Or.inr rfl))(hd:(x==("__debug__" : Str))=false:=by decide)
  (hcd:(x==("__classdict__" : Str))=false:=by decide):PE X (.Name x pos) (LE X.K (aA i)) :=
 PE.imp (Ir hN hv hd hcd) fun s H Q h=>by
  obtain⟨Z,d,m,R,ok,rs,⟨x,h1,h2⟩,k⟩:=h;obtain⟨v,q1,q2⟩:=rs.2 i x h1;exact⟨v,q1,k x m v H h2 Ext.refl ok q2⟩
@[simp] def aE(p:PyData):DE:=fun _ m Q=>Q (.dat p) m
theorem oI{e:Expr}{p:PyData}{v:V}(h:PE X e (tC v))(r:∀ Z m H,RP X.K Z m H p v):PE X e (LE X.K (aE p)) :=
 PE.imp h fun s H Q ⟨Z,d,m,R,ok,rs,h2,k⟩=>k _ m v H h2 Ext.refl ok (r Z m H)
theorem x5{i:Int}{j:Nat}:PE X (.Constant (.int i) j pos) (LE X.K (aE (.int i))):=oI BZ fun Z m H=>by simp only[RP]
theorem BU{b:Bool}{j:Nat}:PE X (.Constant (.bool b) j pos) (LE X.K (aE (.bool b))):=oI Sr fun Z m H=>by simp only[RP]
theorem Tk{j:Nat}:PE X (.Constant .none j pos) (LE X.K (aE .none)):=oI Yp fun Z m H=>by simp only[RP]
theorem Wx{x:Str}{j:Nat}:PE X (.Constant (.str x) j pos) (LE X.K (aE (.str x))):=oI Tn fun Z m H=>by simp only[RP]
end
section
variable {X:Cx}{pins:List (Addr×Obj)}{σ:L2.St}{H:Hp}{s:Shared}{Z:Addr->Prop}{m:Mu}
mutual
theorem RP.reads0(I:Inv X pins σ H s):∀ (p:PyData) (v:V) (u:Value),RP X.K Z m H p v->RelV v u->p.hasDict=false->∃ as,Reads s.heap u p as
 | .none,v,u,h,r,_=>by simp only[RP]at h;subst h;cases r;exact⟨_,.none⟩
 | .bool b,v,u,h,r,_=>by simp only[RP]at h;subst h;cases r;exact⟨_,.bool b⟩
 | .int i,v,u,h,r,_=>by simp only[RP]at h;subst h;obtain⟨t,rfl⟩:=r;exact⟨_,.int i t⟩
 | .str x,v,u,h,r,_=>by simp only[RP]at h;subst h;obtain⟨t,rfl⟩:=r;exact⟨_,.str x t⟩
 | .tuple xs,v,u,h,r,nd=>by
  simp only[RP]at h;obtain⟨a,vs,rfl,h2,h3⟩:=h
  cases r
  obtain⟨its,rv,⟨o,e,c,n,d⟩,_⟩:=I.tuple h2;obtain⟨as,q⟩:=RPs.reads0 I xs vs its h3 rv nd;exact⟨_,.tuple e c d #[4,q]⟩
 | .list xs,v,u,h,r,nd=>by
  simp only[RP]at h;obtain⟨a,vs,rfl,_,h2,h3⟩:=h
  cases r
  obtain⟨its,rv,⟨o,n,e,c,_,d⟩,_⟩:=I.list h2;obtain⟨as,q⟩:=RPs.reads0 I xs vs its h3 rv nd;exact⟨_,.list e c d #[4,q]⟩
 | .dict _,v,u,h,r,nd=>nomatch nd
theorem RPs.reads0(I:Inv X pins σ H s):∀ (xs:List PyData) (vs:List V) (us:List Value),RPs X.K Z m H xs vs->Vals vs us->PyData.hasDictAll xs=false->∃ as,ReadsAll s.heap us xs as
 | [],vs,us,h,r,_=>by simp only[RPs]at h;subst h;cases r;exact⟨_,.nil⟩
 | x::xs,vs,us,h,r,nd=>by
  simp only[PyData.hasDictAll,Bool.or_eq_false_iff]at nd;simp only[RPs]at h;obtain⟨v,w,rfl,h1,h2⟩:=h
  cases r with
  | cons r1 r2 =>
   obtain⟨as,q1⟩:=RP.reads0 I x v _ h1 r1 nd.1;obtain⟨bs,q2⟩:=RPs.reads0 I xs w _ h2 r2 nd.2;exact⟨_,.cons q1 q2⟩
end
theorem RP.reads(I:Inv X pins σ H s)(p:PyData)(v:V)(u:Value)(h:RP X.K Z m H p v)(r:RelV v u)(nd:p.hasDict=false:=by first | assumption | (refine PyData.hasDict_of_canLay _ ?_;assumption)):∃ as,Reads s.heap u p as:=RP.reads0 I p v u h r nd
mutual
theorem RP.noDict(K:ad):∀ (p:PyData) (v:V),RP K Z m H p v->p.showable=true->p.hasDict=false
 | .none,_,_,_=>rfl
 | .bool _,_,_,_=>rfl
 | .int _,_,_,_=>rfl
 | .str _,_,_,_=>rfl
 | .tuple xs,v,h,sh=>by
  simp only[RP]at h;obtain⟨_,vs,_,_,h⟩:=h;simp only[PyData.hasDict];exact RPs.noDict K xs vs h sh
 | .list xs,v,h,sh=>by
  simp only[RP]at h;obtain⟨_,vs,_,_,_,h⟩:=h;simp only[PyData.hasDict];exact RPs.noDict K xs vs h sh
 | .dict kvs,v,h,sh=>by
  simp only[RP]at h;obtain⟨a,o,u,vs,_,_,_,h⟩:=h
  cases kvs with
  | nil=>simp[RPd]at h
  | cons x r =>
   obtain⟨k,p⟩:=x;simp only[RPd]at h;obtain⟨v,r',h1,_⟩:=h
   cases h1
   simp only[PyData.showable,PyData.showableKv,t7,Bool.false_and]at sh
   cases sh
theorem RPs.noDict(K:ad):∀ (xs:List PyData) (vs:List V),RPs K Z m H xs vs->PyData.showableAll xs=true->PyData.hasDictAll xs=false
 | [],_,_,_=>rfl
 | x::xs,vs,h,sh=>by
  simp only[PyData.showableAll,Bool.and_eq_true]at sh;simp only[RPs]at h;obtain⟨v,w,rfl,h1,h2⟩:=h;simp only[PyData.hasDictAll,RP.noDict K x v h1 sh.1,RPs.noDict K xs w h2 sh.2,Bool.or_self]
end
end
abbrev D2:=D->D->Mu->DK->Prop
def dZ(X:Cx)(op:Value->Value->Sem Value)(r:D2):Prop :=
 ∀ (pins:List (Addr×Obj)) (s:Shared) (σ:L2.St) (H:Hp) (Z:Addr->Prop) (m:Mu) (x y:V) (dx dy:D) (v u:Value) (R:DK) (Q:VK),Inv X pins σ H s->Ok X.K Z m H->RelV x v->RelV y u->RD X.K Z m H dx x->RD X.K Z m H dy y->r dx dy m R ->
  (∀ d m' v' H',R d m'->Ext X.K Z m H m' H'->Ok X.K Z m' H'->RD X.K Z m' H' d v'->Q v' H')->wpAny (model X.prog X.w) X.A (op v u) (EP X pins σ Q) X.xe s
@[simp] def aF(r:D2)(f g:DE):DE:=fun d m Q=>f d m fun x m1=>g d m1 fun y m2=>r x y m2 Q
section
variable {X:Cx}{a b c:Expr}{f g:DE}{pos:Pos}
theorem wF{op:Value->Value->Sem Value}{r:D2}(ho:dZ X op r)(ha:PE X a (LE X.K f))(hb:PE X b (LE X.K g)){pins:List (Addr×Obj)}{s:Shared}{σ:L2.St}{H:Hp}{Q:VK}(I:Inv X pins σ H s)
  (h:LE X.K (aF r f g) σ H Q) :
  wpAny (model X.prog X.w) X.A (eval a X.env) (fun v s₁=>wpAny (model X.prog X.w) X.A (eval b X.env) (fun u s₂=>wpAny (model X.prog X.w) X.A (op v u) (EP X pins σ Q) X.xe s₂) X.xe s₁) X.xe s:=by
 obtain⟨Z,d,m,R,ok,rs,hf,k⟩:=h;refine Bs ha hb I (R:=fun x y H2=>∃ m2 dx dy,Ok X.K Z m2 H2/\Ext X.K Z m H m2 H2/\RD X.K Z m2 H2 dx x/\RD X.K Z m2 H2 dy y/\r dx dy m2 R) ?_ fun v u s2 x y H2 I2 rx ry ⟨m2,dx,dy,ok2,e2,r1,r2,q⟩=>?_
 ·exact⟨Z,d,m,_,ok,rs,hf,fun x m1 v H1 q e1 ok1 r1=>⟨Z,d,m1,_,ok1,rs.ext e1,q,fun y m2 v2 H2 q2 e2 ok2 r2=>⟨m2,x,y,ok2,e1.trans e2,r1.ext e2,r2,q2⟩⟩⟩
 ·exact ho pins s2 σ H2 Z m2 x y dx dy v u R Q I2 ok2 rx ry r1 r2 q fun d' m' v' H' h1 h2 h3 h4=>k d' m' v' H' h1 (e2.trans h2) h3 h4
theorem Tt{op:Operator}{r:D2}(ho:dZ X (binaryOp op) r)(ha:PE X a (LE X.K f))(hb:PE X b (LE X.K g)):PE X (.BinOp a op b pos) (LE X.K (aF r f g)) :=
 fun _ _ _ _ _ I h=>wpAny_BinOp (wF ho ha hb I h)
theorem AV{op:CmpOp}{r:D2}(ho:dZ X (compareOp op) r)(ha:PE X a (LE X.K f))(hb:PE X b (LE X.K g))(hm:behindInMarks op b=false:=by exact pZ _):PE X (.Compare a [op] [b] pos) (LE X.K (aF r f g)) :=
 fun _ _ _ _ _ I h=>wpAny_Compare1 (wF ho ha hb I h) hm
@[simp] def bL(f:DE):DT:=fun d m Q=>f d m fun x m1=>∃ b,x=.dat (.bool b)/\Q b m1
theorem LT.le{K:ad}{σ:L2.St}{H:Hp}{Q:Bool->Hp->Prop}(h:LT K (bL f) σ H Q):LE K f σ H (fun x H'=>∃ k,x=.bl k/\Q k H'):=by
 obtain⟨Z,d,m,R,ok,rs,hf,k⟩:=h;refine⟨Z,d,m,_,ok,rs,hf,fun x m' v H' ⟨b,e,q⟩ e1 ok1 rd=>⟨b,?_,k b m' H' q e1 ok1⟩⟩;subst e;simpa only[RD,RP] using rd
theorem GJ{op:CmpOp}{r:D2}(ho:dZ X (compareOp op) r)(ha:PE X a (LE X.K f))(hb:PE X b (LE X.K g))(hm:behindInMarks op b=false:=by exact pZ _):PT X (.Compare a [op] [b] pos) (LT X.K (bL (aF r f g))):=by
 intro pins s σ H Q I h;refine wpAny_isTrue_Compare1 (aS (wF ho ha hb I h.le) fun v s1 h1=>aS h1 fun u s2 h2=>aS h2 fun c s3 ⟨z,H3,I3,r3,k,e,q3⟩=>?_) hm;subst e
 cases r3
 exact wpAny_truthy_bool ⟨H3,I3,q3⟩
theorem Q9(h:PE X a (LE X.K f))(he:∀ whole,isTrue a X.env whole=(do let v <- whole;standAt a.pos;holding [v] (truthy v)):=by intro _;rfl):PT X a (LT X.K (bL f)) :=
 PT.imp (Xh h he) fun _ _ _ q=>q.le
end
section
variable {X:Cx}{a b c:Expr}{rest:List Expr}{f g:DE}{t u:DT}{pos:Pos}
@[simp] def jL(t u:DT):DT:=fun d m Q=>t d m fun k m1=>if k=true then u d m1 Q else Q false m1
@[simp] def lB(t u:DT):DT:=fun d m Q=>t d m fun k m1=>if k=true then Q true m1 else u d m1 Q
theorem PW.imp{e:Expr}{t t':TT}(h:PW X e t)(q:∀ s H Q,t' s H Q->t s H Q):PW X e t':=fun wh pins s d H Q I w=>h wh pins s d H Q I (q _ _ _ w)
theorem CK(ha:PT X a (LT X.K t)):PW X (.BoolOp .And [a] pos) (LT X.K t):=G3 ha
theorem D7(ha:PT X a (LT X.K t)):PW X (.BoolOp .Or [a] pos) (LT X.K t):=Xs ha
theorem EF(ha:PT X a (LT X.K t))(hb:PW X (.BoolOp .And (b::rest) pos) (LT X.K u)):PW X (.BoolOp .And (a::b::rest) pos) (LT X.K (jL t u)) :=
 PW.imp (G6 ha hb) fun s H Q ⟨Z,d,m,R,ok,rs,h,k⟩=>⟨Z,d,m,_,ok,rs,h,fun b m1 H1 q e1 ok1=>by
  cases b with
  | true=>rw[if_pos rfl]at q ⊢;exact⟨Z,d,m1,R,ok1,rs.ext e1,q,fun b' m2 H2 q2 e2 ok2=>k b' m2 H2 q2 (e1.trans e2) ok2⟩
  | false=>rw[if_neg am]at q ⊢;exact k false m1 H1 q e1 ok1⟩
theorem J5(ha:PT X a (LT X.K t))(hb:PW X (.BoolOp .Or (b::rest) pos) (LT X.K u)):PW X (.BoolOp .Or (a::b::rest) pos) (LT X.K (lB t u)) :=
 PW.imp (f6 ha hb) fun s H Q ⟨Z,d,m,R,ok,rs,h,k⟩=>⟨Z,d,m,_,ok,rs,h,fun b m1 H1 q e1 ok1=>by
  cases b with
  | false=>rw[if_neg am]at q ⊢;exact⟨Z,d,m1,R,ok1,rs.ext e1,q,fun b' m2 H2 q2 e2 ok2=>k b' m2 H2 q2 (e1.trans e2) ok2⟩
  | true=>rw[if_pos rfl]at q ⊢;exact k true m1 H1 q e1 ok1⟩
@[simp] def sO(f g:DE):DE:=fun d m Q=>f d m fun x m1=>∃ b,x=.dat (.bool b)/\if b=true then g d m1 Q else Q (.dat (.bool false)) m1
@[simp] def sP(f g:DE):DE:=fun d m Q=>f d m fun x m1=>∃ b,x=.dat (.bool b)/\if b=true then Q (.dat (.bool true)) m1 else g d m1 Q
@[simp] def tI(f:DE):DE:=fun d m Q=>f d m fun x m1=>∃ b,x=.dat (.bool b)/\Q (.dat (.bool (!b))) m1
theorem RD.bl{K:ad}{Z:Addr->Prop}{m:Mu}{H:Hp}{b:Bool}{v:V}(h:RD K Z m H (.dat (.bool b)) v):v=.bl b:=by simpa only[RD,RP] using h
theorem RD.ofBl{K:ad}{Z:Addr->Prop}{m:Mu}{H:Hp}{b:Bool}:RD K Z m H (.dat (.bool b)) (.bl b):=by simp only[RD,RP]
theorem K5{op:BoolOp}(h:PE X a (LE X.K f)):PE X (.BoolOp op [a] pos) (LE X.K f):=G2 h
theorem R0(ha:PE X a (LE X.K f))(hb:PE X (.BoolOp .And (b::rest) pos) (LE X.K g)):PE X (.BoolOp .And (a::b::rest) pos) (LE X.K (sO f g)) :=
 PE.imp (X3 ha hb) fun s H Q ⟨Z,d,m,R,ok,rs,h,k⟩=>⟨Z,d,m,_,ok,rs,h,fun x m1 v H1 ⟨b,e,q⟩ e1 ok1 rd=>by
  subst e;refine⟨b,rd.bl,?_⟩
  cases b with
  | true=>rw[if_pos rfl]at q ⊢;exact⟨Z,d,m1,R,ok1,rs.ext e1,q,fun x2 m2 v2 H2 q2 e2 ok2 r2=>k x2 m2 v2 H2 q2 (e1.trans e2) ok2 r2⟩
  | false=>rw[if_neg am]at q ⊢;exact k _ m1 _ H1 q e1 ok1 .ofBl⟩
theorem j4(ha:PE X a (LE X.K f))(hb:PE X (.BoolOp .Or (b::rest) pos) (LE X.K g)):PE X (.BoolOp .Or (a::b::rest) pos) (LE X.K (sP f g)) :=
 PE.imp (BA ha hb) fun s H Q ⟨Z,d,m,R,ok,rs,h,k⟩=>⟨Z,d,m,_,ok,rs,h,fun x m1 v H1 ⟨b,e,q⟩ e1 ok1 rd=>by
  subst e;refine⟨b,rd.bl,?_⟩
  cases b with
  | false=>rw[if_neg am]at q ⊢;exact⟨Z,d,m1,R,ok1,rs.ext e1,q,fun x2 m2 v2 H2 q2 e2 ok2 r2=>k x2 m2 v2 H2 q2 (e1.trans e2) ok2 r2⟩
  | true=>rw[if_pos rfl]at q ⊢;exact k _ m1 _ H1 q e1 ok1 .ofBl⟩
theorem v8(ha:PE X a (LE X.K f)):PE X (.UnaryOp .Not a pos) (LE X.K (tI f)) :=
 PE.imp (BD ha) fun s H Q ⟨Z,d,m,R,ok,rs,h,k⟩=>⟨Z,d,m,_,ok,rs,h,fun x m1 v H1 ⟨b,e,q⟩ e1 ok1 rd=>by
  subst e;exact⟨b,rd.bl,k _ m1 _ H1 q e1 ok1 .ofBl⟩⟩
@[simp] def sR(t:DT)(f g:DE):DE:=fun d m Q=>t d m fun k m1=>if k=true then f d m1 Q else g d m1 Q
theorem T5(hc:PT X c (LT X.K t))(ha:PE X a (LE X.K f))(hb:PE X b (LE X.K g)):PE X (.IfExp c a b pos) (LE X.K (sR t f g)) :=
 PE.imp (C0 hc ha hb) fun s H Q ⟨Z,d,m,R,ok,rs,h,k⟩=>⟨Z,d,m,_,ok,rs,h,fun b m1 H1 q e1 ok1=>by
  cases b with
  | true=>rw[if_pos rfl]at q ⊢;exact⟨Z,d,m1,R,ok1,rs.ext e1,q,fun x2 m2 v2 H2 q2 e2 ok2 r2=>k x2 m2 v2 H2 q2 (e1.trans e2) ok2 r2⟩
  | false=>rw[if_neg am]at q ⊢;exact⟨Z,d,m1,R,ok1,rs.ext e1,q,fun x2 m2 v2 H2 q2 e2 ok2 r2=>k x2 m2 v2 H2 q2 (e1.trans e2) ok2 r2⟩⟩
end
section
variable {X:Cx}{e:Expr}{es:List Expr}{f:DE}{g:DA}{pos:Pos}
@[simp] def aG:DA:=fun _ m Q=>Q [] m
@[simp] def aB(f:DE)(g:DA):DA:=fun d m Q=>f d m fun x m1=>g d m1 fun xs m2=>Q (x::xs) m2
theorem pP:PA X [] (LA X.K aG):=PA.imp kX fun s H Q ⟨Z,d,m,R,ok,rs,h,k⟩=>k [] m [] H h Ext.refl ok rfl
theorem mM(ha:PE X e (LE X.K f))(hr:PA X es (LA X.K g))(hs:starEach (e::es) X.env=(false,eval e X.env)::starEach es X.env:=by rfl):PA X (e::es) (LA X.K (aB f g)) :=
 PA.imp (jY ha hr hs) fun s H Q ⟨Z,d,m,R,ok,rs,h,k⟩=>⟨Z,d,m,_,ok,rs,h,fun x m1 v H1 q e1 ok1 r1=>⟨Z,d,m1,_,ok1,rs.ext e1,q,fun xs m2 vs H2 q2 e2 ok2 r2 =>
  k (x::xs) m2 (v::vs) H2 q2 (e1.trans e2) ok2 ⟨v,vs,rfl,r1.ext e2,r2⟩⟩⟩
@[simp] def bQ(g:DA):DE:=fun d m Q=>g d m fun xs m1=>∃ ps,pds xs=some ps/\ps.length<=sizeLine/\Q (.dat (.tuple ps)) m1
theorem Xz{j:Nat}(h:PA X es (LA X.K g)):PE X (.Tuple es j pos) (LE X.K (bQ g)) :=
 PE.imp (uW h) fun s H Q ⟨Z,d,m,R,ok,rs,h,k⟩=>⟨Z,d,m,_,ok,rs,h,fun xs m1 vs H1 ⟨ps,e,hz,q⟩ e1 ok1 r1=>by
  have rp:=r1.pds e
  refine⟨by rw[rp.length];exact hz,fun p hp=>?_⟩
  have sm:Same H1 (upd H1 p (.tup vs)):=cC hp
  refine k _ m1 _ _ q (e1.trans (ok1.ext sm)) (ok1.grow sm) ?_;simp only[RD,RP];exact⟨p,vs,rfl,.inl (.inl cA),RPs.ext (ok1.ext sm) _ _ rp⟩⟩
@[simp] def cI(g:DA):DE:=fun d m Q=>g d m fun xs m1=>∃ ps,pds xs=some ps/\ps.length<=sizeLine/\Q (.dat (.list ps)) m1
@[simp] def gV(g:DA):DE:=fun d m Q=>g d m fun xs m1=>∃ ps,pds xs=some ps/\ps.length<=sizeLine/\∀ a,m1 a=none->Q (.cel a) (aW m1 a (.l ps))
theorem Ft{t:TA}(h:PA X es t):PE X (.List es pos) (fun s H Q=>t s H fun xs H1=>xs.length<=sizeLine/\∀ p,H1 p=none->X.K.lookup p=none->Q (.ref p) (upd H1 p (.lst xs))):=by
 intro pins s σ H Q I hq;refine wpAny_List_spliced (aS (h pos pins s σ H _ I hq) fun us s1 ⟨xs,H1,I1,r,z,q⟩=>⟨by rw[<- r.length];exact z,?_⟩)
 have hf:H1 s1.heap.objs.size=none:=I1.hok.fresh (ak _)
 have hk:X.K.lookup s1.heap.objs.size=none:=by
  cases e:X.K.lookup s1.heap.objs.size with
  | none=>rfl
  | some o=>exact absurd (ag (I1.kIn _ o e)) (Nat.lt_irrefl _)
 refine⟨.ref s1.heap.objs.size,upd H1 s1.heap.objs.size (.lst xs),I1.laid (t':=s1.toks) (fun b u e=>ah _ e) (ak _) ?_,rfl,q _ hf hk⟩;exact⟨z,us,0,r,ai _ rfl⟩
theorem eY{K:ad}{Z:Addr->Prop}{m:Mu}{H:Hp}{p:Addr}(ok:Ok K Z m H)(hp:H p=none):m p=none/\¬ Z p:=by
 refine⟨?_,fun h=>(ok.z p h).2 hp⟩
 cases e:m p with
 | none=>rfl
 | some ds =>
  obtain⟨vs,h1,_⟩:=ok.g p ds e;rw[hp]at h1
  cases h1
theorem AL(h:PA X es (LA X.K g)):PE X (.List es pos) (LE X.K (cI g)) :=
 PE.imp (Ft h) fun s H Q ⟨Z,d,m,R,ok,rs,h,k⟩=>⟨Z,d,m,_,ok,rs,h,fun xs m1 vs H1 ⟨ps,e,hz,q⟩ e1 ok1 r1=>by
  have rp:=r1.pds e
  refine⟨by rw[rp.length];exact hz,fun p hp hk=>?_⟩
  have sm:Same H1 (upd H1 p (.lst vs)):=cC hp
  refine k _ m1 _ _ q (e1.trans (ok1.ext sm)) (ok1.grow sm) ?_;simp only[RD,RP];exact⟨p,vs,rfl,eY ok1 hp,.inl (.inl cA),RPs.ext (ok1.ext sm) _ _ rp⟩⟩
theorem ER(h:PA X es (LA X.K g)):PE X (.List es pos) (LE X.K (gV g)) :=
 PE.imp (Ft h) fun s H Q ⟨Z,d,m,R,ok,rs,h,k⟩=>⟨Z,d,m,_,ok,rs,h,fun xs m1 vs H1 ⟨ps,e,hz,q⟩ e1 ok1 r1=>by
  have rp:=r1.pds e
  refine⟨by rw[rp.length];exact hz,fun p hp hk=>?_⟩
  refine k _ _ _ _ (q p (eY ok1 hp).1) (e1.trans (Ext.cell ok1 hp hk)) (ok1.cell hp hk rp) ⟨rfl,?_⟩;rw[bM]
  rfl⟩
end
theorem Xo:fillsNumberSlot (.type "tuple") "mul"=pure false:=PySem.fillsNumberSlot_seq (id:="tuple.__mul__") (r:=some (.builtin "tuple.__rmul__")) PySem.F.slot_tuple_mul.lookup #[3] PySem.F.slot_tuple_rmul.lookup #[3]
theorem X4:seqRepeat? (.type "tuple")=pure (some (.builtin "tuple.__mul__")):=by
 unfold seqRepeat?;rw[PySem.seqSlot_of (T:="tuple") (name:="__mul__") (id:="tuple.__mul__") PySem.F.slot_tuple_mul.lookup #[3],PySem.seqSlot_of (T:="tuple") (name:="__rmul__") (id:="tuple.__rmul__") PySem.F.slot_tuple_rmul.lookup #[3]]
 rfl
theorem M6(a:Int)(t:Tok)(l:Addr)(its:Array Value)(n:Nat)(dd:Option Addr)(sl:Array (Option Value)):Meets (Builtin.«int.__rmul__» ⟨[.int a t,.ref l],[]⟩) (fun _ R s=>s.heap.get? l=some {cls:=.type "tuple",dict:=dd,data:=.seq its n,slots:=sl}/\R (.ok (.ret Value.notImplemented)) s) :=
 .of_wp fun prog w A R s hs=>by
  obtain⟨hp,g,d,tk,os⟩:=s;obtain⟨hl,h⟩:=hs
  wp_walk
  exact⟨_,rfl,h⟩
theorem yN(vs:List Value):∀ (n:Nat) (acc:List Value),(List.replicate n vs.toArray).foldl (·++·) acc.toArray=(acc++(List.replicate n vs).flatten).toArray
 | 0,acc=>by simp
 | n+1,acc=>by
  rw[List.replicate_succ,List.foldl_cons,List.replicate_succ,List.flatten_cons];have:=yN vs n (acc++vs)
  rw[<- List.append_assoc,<- this];simp
theorem vH{α:Type}(xs:List α):∀ n:Nat,(List.replicate n xs).flatten.length=xs.length*n
 | 0=>by simp
 | n+1=>by rw[List.replicate_succ,List.flatten_cons,List.length_append,vH xs n,Nat.mul_succ,Nat.add_comm]
theorem BO(t:Addr)(its:Array Value)(k:Int)(tok:Tok)(h1:its.size≠0)(h2:2<=k)(h3:k<=100)(h4:its.size*k.toNat<=sizeLine):Meets (Builtin.«tuple.__mul__» ⟨[.ref t,.int k tok],[]⟩)
  (fun _ R s=>IsTup s.heap t its/\R (.ok (.ret (.ref s.heap.objs.size))) {s with heap:=s.heap.push {cls:=.type "tuple",data:=.seq ((List.replicate k.toNat its).foldl (·++·) #[])}}) :=
 .of_wp fun prog w A R s hs=>by
  obtain⟨ht,h⟩:=hs;show wpAny _ _ (asIndex (.int k tok)>>=_) _ _ _
  refine ae (af ?_);show wpAny _ _ (if (decide (k < -(2^63))||decide (k ≥ 2^63))=true then _ else _) _ _ _
  rw[if_neg (by simp;omega)]
  show wpAny _ _ (Builtin.Tuple.tupleItemsOf (.ref t)>>=_) _ _ _
  refine ae (tupleItemsOf_ ht ?_);have e1:its.isEmpty=false:=by
   rw[Array.isEmpty_eq_false_iff];rintro rfl;exact h1 rfl
  have e2:(k==1)=false:=by
   rw[beq_eq_false_iff_ne];omega
  show wpAny _ _ (if (its.isEmpty||k==1)=true then _ else _) _ _ _
  rw[e1,e2,if_neg #[2]]
  show wpAny _ _ (if (decide (k<=0)||false)=true then _ else _) _ _ _
  rw[if_neg (by simp;omega)]
  have hk:((its.size:Nat):Int)*k=((its.size*k.toNat:Nat):Int):=by
   push_cast
   rw[Int.toNat_of_nonneg #[0]]
  have hs:=iY
  show wpAny _ _ (if ((its.size:Nat):Int)*k > (2^63-1) / 8 then _ else _) _ _ _
  rw[if_neg ?c1]
  case c1 =>
   rw[hk];have:(sizeLine:Nat)<=(2^63-1) / 8:=by decide
   omega
  show wpAny _ _ (if (decide (((its.size:Nat):Int)*k > (sizeLine:Int)))=true then _ else _) _ _ _
  rw[if_neg ?c2]
  case c2 =>
   rw[hk];intro q;have q':=of_decide_eq_true q
   omega
  show wpAny _ _ (Builtin.Tuple.tupleExact ((List.replicate k.toNat its).foldl (·++·) #[])>>=_) _ _ _
  refine ae (m:=Builtin.Tuple.tupleExact _) (wpAny_newObj_type (af ⟨_,rfl,h⟩) ?_);show((List.replicate k.toNat its).foldl (·++·) #[]).size<=sizeLine
  have e:=yN its.toList k.toNat []
  rw[List.nil_append]at e;have e':(List.replicate k.toNat its).foldl (·++·) #[]=(List.replicate k.toNat its.toList).flatten.toArray:=e
  rw[e',ay,vH,Array.length_toList];exact h4
theorem Vals.rep{xs:List V}{us:List Value}(h:Vals xs us):∀ n:Nat,Vals (List.replicate n xs).flatten (List.replicate n us).flatten
 | 0=>.nil
 | n+1=>by
  rw[List.replicate_succ,List.replicate_succ,List.flatten_cons,List.flatten_cons];exact h.append (Vals.rep h n)
theorem RPs.rep{K:ad}{Z:Addr->Prop}{m:Mu}{H:Hp}{xs:List PyData}{vs:List V}(h:RPs K Z m H xs vs):∀ n:Nat,RPs K Z m H (List.replicate n xs).flatten (List.replicate n vs).flatten
 | 0=>by simp[RPs]
 | n+1=>by
  rw[List.replicate_succ,List.replicate_succ,List.flatten_cons,List.flatten_cons];exact h.append (RPs.rep h n)
section
variable {X:Cx}
theorem Sx{pins:List (Addr×Obj)}{s:Shared}{σ:L2.St}{H:Hp}{Q:VK}{a:Addr}{xs:List V}{k:Int}{t:Tok}(I:Inv X pins σ H s)(ha:SqT X.K H a xs)(h1:xs≠[])(h2:2<=k)(h3:k<=100)(h4:xs.length*k.toNat<=sizeLine)
  (q:∀ p,H p=none->Q (.ref p) (upd H p (.tup (List.replicate k.toNat xs).flatten))):wpAny (model X.prog X.w) X.A (binaryOp .Mult (.ref a) (.int k t)) (EP X pins σ Q) X.xe s:=by
 obtain⟨its,r,p,hz⟩:=I.tuple ha;have hl:=r.length
 obtain⟨⟨cls,dd,data,sl⟩,ho,hc,n,hd⟩:=id p;simp only at hc hd;subst hc hd;refine wpAny_binaryOp_repeat_ref (T:="tuple") (U:="int") #[1] ⟨_,ho,rfl⟩ (fun s'=>typeIs_int s' k t) Xo PySem.F.fills_int_mul PySem.F.slot_int_rmul X4 PySem.F.slot_int_index.lookup
  (call_meets PySem.F.slot_int_rmul (typeIs_int s k t) PySem.F.entry_int_rmul (PySem.F.args_int_rmul_2 _ _) (M6 k t a its.toArray n dd sl) ⟨ho,rfl,⟨_,ho,rfl⟩,call_meets PySem.F.slot_tuple_mul ⟨_,ho,rfl⟩ PySem.F.entry_tuple_mul (PySem.F.args_tuple_mul_2 _ _) (BO a its.toArray k t ?_ h2 h3 ?_) ⟨p,?_⟩⟩)
 ·rw[ay,<- hl];intro e;exact h1 (List.length_eq_zero_iff.mp e)
 ·rw[ay,<- hl];exact h4
 ·have e:=yN its k.toNat []
  rw[List.nil_append]at e;rw[e];exact⟨.ref s.heap.objs.size,_,I.laid (t':=s.toks) (o:=.tup (List.replicate k.toNat xs).flatten) (fun b ob q=>ah _ q) (ak _) ⟨⟨by rw[vH];exact h4,NoD.new _ _ _⟩,_,Vals.rep r k.toNat,IsTup.new _ _⟩,rfl,q _ (I.hok.fresh (ak _))⟩
end
@[simp] def cF:D2
 | .dat (.int i),.dat (.int j),m,Q=>Q (.dat (.int (i+j))) m
 | .dat (.str a),.dat (.str b),m,Q=>a.length+b.length<=sizeLine/\Q (.dat (.str (a++b))) m
 | .dat (.tuple a),.dat (.tuple b),m,Q=>a.length+b.length<=sizeLine/\Q (.dat (.tuple (a++b))) m
 | .dat (.list a),.dat (.list b),m,Q=>a.length+b.length<=sizeLine/\Q (.dat (.list (a++b))) m
 | .cel c,.dat (.list b),m,Q=>∃ a,m c=some (.l a)/\a.length+b.length<=sizeLine/\Q (.dat (.list (a++b))) m
 | _,_,_,_=>False
@[simp] def fD:D2
 | .dat (.int i),.dat (.int j),m,Q=>Q (.dat (.int (i-j))) m
 | _,_,_,_=>False
@[simp] def dY:D2
 | .dat (.int i),.dat (.int j),m,Q=>IntMulOk i j/\Q (.dat (.int (i*j))) m
 | .dat (.tuple a),.dat (.int k),m,Q=>a≠[]/\2<=k/\k<=100/\a.length*k.toNat<=sizeLine/\Q (.dat (.tuple (List.replicate k.toNat a).flatten)) m
 | _,_,_,_=>False
@[simp] def kL:D2
 | .dat (.int i),.dat (.int j),m,Q=>j≠0/\j.natAbs.log2<9000/\Q (.dat (.int (i.fdiv j))) m
 | _,_,_,_=>False
@[simp] def gB:D2
 | .dat (.int i),.dat (.int j),m,Q=>j≠0/\Q (.dat (.int (i.fmod j))) m
 | _,_,_,_=>False
@[simp] def sL:D2
 | .dat (.int i),.dat (.int j),m,Q=>(0<=j/\j<=1000000/\i.natAbs<2^64)/\Q (.dat (.int (i^j.toNat))) m
 | _,_,_,_=>False
@[simp] def hX:D2
 | .dat (.int i),.dat (.int j),m,Q=>Q (.dat (.bool (decide (i<j)))) m
 | _,_,_,_=>False
@[simp] def jG:D2
 | .dat (.int i),.dat (.int j),m,Q=>Q (.dat (.bool (decide (j<i)))) m
 | _,_,_,_=>False
@[simp] def vB:D2
 | .dat (.int i),.dat (.int j),m,Q=>Q (.dat (.bool (decide (j<=i)))) m
 | _,_,_,_=>False
@[simp] def cR:D2
 | .dat (.str a),.dat (.str b),m,Q=>Q (.dat (.bool (decide (a=b)))) m
 | .dat p,.dat q,m,Q=>p.canLay0=true/\q.canLay0=true/\p.depth<=100/\Q (.dat (.bool (PyData.eqv p q))) m
 | _,_,_,_=>False
@[simp] def gZ:D2
 | .dat (.str a),.dat (.str b),m,Q=>Q (.dat (.bool (!decide (a=b)))) m
 | .dat p,.dat q,m,Q=>p.canLay0=true/\q.canLay0=true/\p.depth<=100/\Q (.dat (.bool (!PyData.eqv p q))) m
 | _,_,_,_=>False
section
variable {X:Cx}
theorem RD.int{K:ad}{Z:Addr->Prop}{m:Mu}{H:Hp}{i:Int}{v:V}(h:RD K Z m H (.dat (.int i)) v):v=.int i:=by simpa only[RD,RP] using h
theorem RD.ofInt{K:ad}{Z:Addr->Prop}{m:Mu}{H:Hp}{i:Int}:RD K Z m H (.dat (.int i)) (.int i):=by simp only[RD,RP]
theorem RD.str{K:ad}{Z:Addr->Prop}{m:Mu}{H:Hp}{i:Str}{v:V}(h:RD K Z m H (.dat (.str i)) v):v=.str i:=by simpa only[RD,RP] using h
theorem RD.ofStr{K:ad}{Z:Addr->Prop}{m:Mu}{H:Hp}{i:Str}:RD K Z m H (.dat (.str i)) (.str i):=by simp only[RD,RP]
theorem gD:dZ X (binaryOp .Sub) fD:=by
 intro pins s σ H Z m x y dx dy v u R Q I ok rx ry r1 r2 h k;unfold fD at h
 split at h
 ·cases r1.int;cases r2.int
  exact Wq pins s σ H _ _ v u Q I rx ry ⟨_,_,rfl,rfl,k _ m _ H h Ext.refl ok .ofInt⟩
 ·exact h.elim
theorem eG:dZ X (binaryOp .Mult) dY:=by
 intro pins s σ H Z m x y dx dy v u R Q I ok rx ry r1 r2 h k;unfold dY at h
 split at h
 ·cases r1.int;cases r2.int
  obtain⟨t,rfl⟩:=rx;obtain⟨t',rfl⟩:=ry;exact mul_int ⟨.int _,H,I.tok _,⟨_,rfl⟩,k _ m _ H h.2 Ext.refl ok .ofInt⟩ h.1
 ·rename_i a j;obtain⟨h1,h2,h3,h4,h5⟩:=h
  cases r2.int
  simp only[RD,RP]at r1;obtain⟨p,vs,rfl,g1,g2⟩:=r1
  cases rx
  obtain⟨t',rfl⟩:=ry;have hl:=g2.length
  refine Sx I g1 (fun e=>h1 ?_) h2 h3 (by rw[hl];exact h4) fun t ht=>?_
  ·subst e
   cases a with
   | nil=>rfl
   | cons _ _=>simp at hl
  ·have sm:Same H (upd H t (.tup (List.replicate j.toNat vs).flatten)):=cC ht
   refine k _ m _ _ h5 (ok.ext sm) (ok.grow sm) ?_;simp only[RD,RP];exact⟨t,_,rfl,.inl (.inl cA),RPs.ext (ok.ext sm) _ _ (g2.rep _)⟩
 ·exact h.elim
theorem nQ:dZ X (binaryOp .FloorDiv) kL:=by
 intro pins s σ H Z m x y dx dy v u R Q I ok rx ry r1 r2 h k;unfold kL at h
 split at h
 ·cases r1.int;cases r2.int
  obtain⟨t,rfl⟩:=rx;obtain⟨t',rfl⟩:=ry;exact floordiv_int h.1 ⟨.int _,H,I.tok _,⟨_,rfl⟩,k _ m _ H h.2.2 Ext.refl ok .ofInt⟩ (.inl (PyProof.noPylong_of_log2 h.2.1))
 ·exact h.elim
theorem gY:dZ X (binaryOp .Mod) gB:=by
 intro pins s σ H Z m x y dx dy v u R Q I ok rx ry r1 r2 h k;unfold gB at h
 split at h
 ·cases r1.int;cases r2.int
  exact l5 pins s σ H _ _ v u Q I rx ry ⟨_,_,rfl,rfl,h.1,k _ m _ H h.2 Ext.refl ok .ofInt⟩
 ·exact h.elim
theorem J6:dZ X (binaryOp .Pow) sL:=by
 intro pins s σ H Z m x y dx dy v u R Q I ok rx ry r1 r2 h k;unfold sL at h
 split at h
 ·cases r1.int;cases r2.int
  exact FX pins s σ H _ _ v u Q I rx ry ⟨_,_,rfl,rfl,h.1,k _ m _ H h.2 Ext.refl ok .ofInt⟩
 ·exact h.elim
theorem jA:dZ X (compareOp .Lt) hX:=by
 intro pins s σ H Z m x y dx dy v u R Q I ok rx ry r1 r2 h k;unfold hX at h
 split at h
 ·cases r1.int;cases r2.int
  exact Vg pins s σ H _ _ v u Q I rx ry ⟨_,_,rfl,rfl,k _ m _ H h Ext.refl ok .ofBl⟩
 ·exact h.elim
theorem kJ:dZ X (compareOp .Gt) jG:=by
 intro pins s σ H Z m x y dx dy v u R Q I ok rx ry r1 r2 h k;unfold jG at h
 split at h
 ·cases r1.int;cases r2.int
  exact CO pins s σ H _ _ v u Q I rx ry ⟨_,_,rfl,rfl,k _ m _ H h Ext.refl ok .ofBl⟩
 ·exact h.elim
theorem Zg:dZ X (compareOp .GtE) vB:=by
 intro pins s σ H Z m x y dx dy v u R Q I ok rx ry r1 r2 h k;unfold vB at h
 split at h
 ·cases r1.int;cases r2.int
  exact Wg pins s σ H _ _ v u Q I rx ry ⟨_,_,rfl,rfl,k _ m _ H h Ext.refl ok .ofBl⟩
 ·exact h.elim
theorem dB(hu:X.A.units+100<cLine):dZ X (compareOp .Eq) cR:=by
 intro pins s σ H Z m x y dx dy v u R Q I ok rx ry r1 r2 h k;unfold cR at h
 split at h
 ·cases r1.str;cases r2.str
  refine r8 pins s σ H _ _ v u Q I rx ry ⟨rfl,?_⟩;have e:∀ a b:Str,decide (V.str a=V.str b)=decide (a=b):=fun a b=>by
   rw[Bool.eq_iff_iff];simp
  rw[e];exact k _ m _ H h Ext.refl ok .ofBl
 ·rename_i p q hne;obtain⟨h1,h2,h3,h4⟩:=h;obtain⟨as,ra⟩:=RP.reads I p x v r1 rx;obtain⟨bs,rb⟩:=RP.reads I q y u r2 ry;exact SeqAt.compareEq_reads ra rb h1 h2 #[0] ⟨.bl _,H,I,rfl,k _ m _ H h4 Ext.refl ok .ofBl⟩
 ·exact h.elim
theorem iU(hu:X.A.units+100<cLine):dZ X (compareOp .NotEq) gZ:=by
 intro pins s σ H Z m x y dx dy v u R Q I ok rx ry r1 r2 h k;unfold gZ at h
 split at h
 ·cases r1.str;cases r2.str
  refine FF pins s σ H _ _ v u Q I rx ry ⟨rfl,?_⟩;have e:∀ a b:Str,decide (V.str a=V.str b)=decide (a=b):=fun a b=>by
   rw[Bool.eq_iff_iff];simp
  rw[e];exact k _ m _ H h Ext.refl ok .ofBl
 ·rename_i p q hne;obtain⟨h1,h2,h3,h4⟩:=h;obtain⟨as,ra⟩:=RP.reads I p x v r1 rx;obtain⟨bs,rb⟩:=RP.reads I q y u r2 ry;exact SeqAt.compareNe_reads ra rb h1 h2 #[0] ⟨.bl _,H,I,rfl,k _ m _ H h4 Ext.refl ok .ofBl⟩
 ·exact h.elim
theorem Z6{pins:List (Addr×Obj)}{s:Shared}{σ:L2.St}{H:Hp}{Q:VK}{a b:Addr}{ys:List V}(I:Inv X pins σ H s)(ha:SqT X.K H a [])(hb:SqT X.K H b ys)(q:Q (.ref b) H) :
  wpAny (model X.prog X.w) X.A (binaryOp .Add (.ref a) (.ref b)) (EP X pins σ Q) X.xe s:=by
 obtain⟨its,r1,p1,_⟩:=I.tuple ha;obtain⟨its2,r2,p2,_⟩:=I.tuple hb
 cases r1
 obtain⟨⟨cls,dd,data,sl⟩,ho,hc,n,hd⟩:=id p1;obtain⟨⟨cls2,dd2,data2,sl2⟩,ho2,hc2,n2,hd2⟩:=id p2;simp only at hc hd hc2 hd2;subst hc hd hc2 hd2;exact concat_meets ⟨_,ho,rfl⟩ ⟨_,ho2,rfl⟩ noFill_tuple_add seq_tuple_add PySem.F.slot_tuple_add PySem.F.entry_tuple_add (PySem.F.args_tuple_add_2 _ _)
   (tuple_addW0 a b _ _ n n2 dd dd2 sl sl2 #[2]) ⟨ho,ho2,⟨.ref b,H,I,rfl,q⟩⟩
theorem Dh:OpR X (binaryOp .Add) (fun x y H Q=>∃ a b xs ys,x=.ref a/\y=.ref b/\SqL X.K H a xs/\SqL X.K H b ys/\xs.length+ys.length<=sizeLine/\∀ p,H p=none->Q (.ref p) (upd H p (.lst (xs++ys)))):=by
 intro pins s σ H x y v u Q I rx ry h;obtain⟨a,b,xs,ys,rfl,rfl,ha,hb,hz,q⟩:=h
 cases rx
 cases ry
 obtain⟨its,r1,p1,_⟩:=I.list ha;obtain⟨its2,r2,p2,_⟩:=I.list hb;obtain⟨⟨cls,dd,data,sl⟩,ho,hc,n,hd⟩:=id p1.isList;obtain⟨⟨cls2,dd2,data2,sl2⟩,ho2,hc2,n2,hd2⟩:=id p2.isList;simp only at hc hd hc2 hd2;subst hc hd hc2 hd2;have l1:=r1.length
 have l2:=r2.length
 have e:its.toArray++its2.toArray=(its++its2).toArray:=by simp
 refine concat_meets ⟨_,ho,rfl⟩ ⟨_,ho2,rfl⟩ noFill_list_add seq_list_add PySem.F.slot_list_add PySem.F.entry_list_add (PySem.F.args_list_add_2 _ _)
   (list_addW a b its.toArray its2.toArray n n2 dd dd2 sl sl2 (by rw[ay,ay];omega)) ⟨ho,ho2,?_⟩
 rw[e];exact⟨.ref s.heap.objs.size,_,I.laid (t':=s.toks) (o:=.lst (xs++ys)) (fun b ob q=>ah _ q) (ak _) ⟨by rw[List.length_append];omega,_,0,r1.append r2,ai _ rfl⟩,rfl,q _ (I.hok.fresh (ak _))⟩
theorem cQ:dZ X (binaryOp .Add) cF:=by
 intro pins s σ H Z m x y dx dy v u R Q I ok rx ry r1 r2 h k;unfold cF at h
 split at h
 ·cases r1.int;cases r2.int
  exact B6 pins s σ H _ _ v u Q I rx ry ⟨_,_,rfl,rfl,k _ m _ H h Ext.refl ok .ofInt⟩
 ·cases r1.str;cases r2.str
  exact Sv pins s σ H _ _ v u Q I rx ry ⟨_,_,rfl,rfl,h.1,k _ m _ H h.2 Ext.refl ok .ofStr⟩
 ·rename_i a b;simp only[RD,RP]at r1 r2;obtain⟨p,vs,rfl,h1,h2⟩:=r1;obtain⟨q,ws,rfl,g1,g2⟩:=r2;have l1:=h2.length
  have l2:=g2.length
  by_cases e1:a=[]
  ·subst e1;simp only[RPs]at h2;subst h2
   cases rx;cases ry
   refine Z6 I h1 g1 (k _ m _ H h.2 Ext.refl ok ?_);simp only[RD,RP];exact⟨q,ws,rfl,g1,by simpa using g2⟩
  ·refine K3 pins s σ H _ _ v u Q I rx ry ⟨p,q,vs,ws,rfl,rfl,h1,g1,?_,by omega,fun e2=>?_,fun e2 t ht=>?_⟩
   ·rintro rfl
    cases a with
    | nil=>exact e1 rfl
    | cons _ _=>simp at l1
   ·subst e2;have e3:b=[]:=by cases b with | nil=>rfl | cons _ _=>simp at l2
    subst e3;refine k _ m _ H h.2 Ext.refl ok ?_;simp only[RD,RP];exact⟨p,vs,rfl,h1,by simpa using h2⟩
   ·have sm:Same H (upd H t (.tup (vs++ws))):=cC ht
    refine k _ m _ _ h.2 (ok.ext sm) (ok.grow sm) ?_;simp only[RD,RP];exact⟨t,_,rfl,.inl (.inl cA),RPs.ext (ok.ext sm) _ _ (h2.append g2)⟩
 ·rename_i a b;simp only[RD,RP]at r1 r2;obtain⟨p,vs,rfl,h0,h1,h2⟩:=r1;obtain⟨q,ws,rfl,g0,g1,g2⟩:=r2;have l1:=h2.length
  have l2:=g2.length
  refine Dh pins s σ H _ _ v u Q I rx ry ⟨p,q,vs,ws,rfl,rfl,h1,g1,by omega,fun t ht=>?_⟩
  have sm:Same H (upd H t (.lst (vs++ws))):=cC ht
  refine k _ m _ _ h.2 (ok.ext sm) (ok.grow sm) ?_;simp only[RD,RP];exact⟨t,_,rfl,eY ok ht,.inl (.inl cA),RPs.ext (ok.ext sm) _ _ (h2.append g2)⟩
 ·rename_i c b;obtain⟨aa,hm,hz,hq⟩:=h;obtain⟨rfl,_⟩:=r1;obtain⟨vs,g0,g3⟩:=ok.l hm;simp only[RD,RP]at r2;obtain⟨q,ws,rfl,_,g1,g2⟩:=r2;have l1:=g3.length
  have l2:=g2.length
  refine Dh pins s σ H _ _ v u Q I rx ry ⟨c,q,vs,ws,rfl,rfl,.inl (.inl g0),g1,by omega,fun t ht=>?_⟩
  have sm:Same H (upd H t (.lst (vs++ws))):=cC ht
  refine k _ m _ _ hq (ok.ext sm) (ok.grow sm) ?_;simp only[RD,RP];exact⟨t,_,rfl,eY ok ht,.inl (.inl cA),RPs.ext (ok.ext sm) _ _ (g3.append g2)⟩
 ·exact h.elim
end
section
variable {X:Cx}{a b c e:Expr}{es:List Expr}{f g:DE}{ga:DA}{pos p2 p:Pos}
@[simp] def qT(f:DE):DE:=fun d m Q=>f d m fun x m1=>∃ i,x=.dat (.int i)/\Q (.dat (.int (-i))) m1
theorem O4(ha:PE X a (LE X.K f)):PE X (.UnaryOp .USub a pos) (LE X.K (qT f)) :=
 PE.imp (Te R4 ha) fun s H Q h=>by
  obtain⟨Z,d,m,R,ok,rs,h,k⟩:=h;refine⟨Z,d,m,_,ok,rs,h,fun x m1 v H1 ⟨i,e,q⟩ e1 ok1 rd=>?_⟩;subst e;exact⟨i,rd.int,k _ m1 _ H1 q e1 ok1 .ofInt⟩
@[simp] def aN:D2
 | .dat (.tuple xs),.dat (.int i),m,Q=>∃ p,bT xs i=some p/\Q (.dat p) m
 | .dat (.list xs),.dat (.int i),m,Q=>∃ p,bT xs i=some p/\Q (.dat p) m
 | .cel a,.dat (.int i),m,Q=>∃ xs p,m a=some (.l xs)/\bT xs i=some p/\Q (.dat p) m
 | .dat (.str z),.dat (.int i),m,Q=>∃ c,z.length<=sizeLine/\bT z.cps.toList i=some c/\Q (.dat (.str ⟨#[c]⟩)) m
 | _,_,_,_=>False
theorem RPs.at{K:ad}{Z:Addr->Prop}{m:Mu}{H:Hp}{xs:List PyData}{vs:List V}{i:Int}{p:PyData}(h:RPs K Z m H xs vs)(e:bT xs i=some p):∃ v,bT vs i=some v/\RP K Z m H p v:=by
 unfold bT at e ⊢;rw[h.length]
 cases q:fB xs.length i with
 | none=>rw[q]at e;cases e
 | some j =>
  rw[q]at e;exact h.get (i:=j) e
theorem B8(ha:PE X a (LE X.K f))(hb:PE X b (LE X.K g))(hs:uX b:=by exact fun _ _=>rfl):PE X (.Subscript a b pos) (LE X.K (aF aN f g)) :=
 PE.imp (Xy Xi ha hb hs) fun s H Q h=>by
  obtain⟨Z,d,m,R,ok,rs,h,k⟩:=h;refine⟨Z,d,m,_,ok,rs,h,fun x m1 v H1 q e1 ok1 rx=>⟨Z,d,m1,_,ok1,rs.ext e1,q,fun y m2 w H2 q2 e2 ok2 ry=>?_⟩⟩;have rx2:=rx.ext e2
  have e12:=e1.trans e2
  unfold aN at q2
  split at q2
  ·obtain⟨p,ep,q⟩:=q2
   cases ry.int
   simp only[RD,RP]at rx2;obtain⟨a,vs,rfl,h1,h2⟩:=rx2;obtain⟨z,ez,rz⟩:=h2.at ep;exact .inr (.inl ⟨a,vs,_,z,rfl,rfl,h1,ez,k _ m2 z H2 q e12 ok2 rz⟩)
  ·obtain⟨p,ep,q⟩:=q2
   cases ry.int
   simp only[RD,RP]at rx2;obtain⟨a,vs,rfl,_,h1,h2⟩:=rx2;obtain⟨z,ez,rz⟩:=h2.at ep;exact .inl ⟨a,vs,_,z,rfl,rfl,h1,ez,k _ m2 z H2 q e12 ok2 rz⟩
  ·obtain⟨xs,p,hm,ep,q⟩:=q2
   cases ry.int
   obtain⟨rfl,_⟩:=rx2;obtain⟨vs,h1,h2⟩:=ok2.l hm;obtain⟨z,ez,rz⟩:=h2.at ep;exact .inl ⟨_,vs,_,z,rfl,rfl,.inl (.inl h1),ez,k _ m2 z H2 q e12 ok2 rz⟩
  ·obtain⟨c,hz,ec,q⟩:=q2
   cases ry.int
   cases rx2.str
   exact .inr (.inr ⟨_,_,c,rfl,rfl,hz,ec,k _ m2 _ H2 q e12 ok2 .ofStr⟩)
  ·exact q2.elim
abbrev DO:=bI->Mu->(Option Int->Mu->Prop)->Prop
def LO(K:ad)(f:DO):TO:=fun s H Q=>∃ (Z:Addr->Prop) (d:bI) (m:Mu) (R:Option Int->Mu->Prop),Ok K Z m H/\RS K Z m H d s/\f d m R /\
 ∀ x m' H',R x m'->Ext K Z m H m' H'->Ok K Z m' H'->Q x H'
@[simp] def fH:DO:=fun _ m Q=>Q none m
@[simp] def cY(f:DE):DO:=fun d m Q=>f d m fun x m1=>∃ i,x=.dat (.int i)/\Q (some i) m1
theorem PO.imp{e:Option Expr}{t t':TO}(h:PO X e t)(q:∀ s H Q,t' s H Q->t s H Q):PO X e t':=fun pins s d H Q I w=>h pins s d H Q I (q _ _ _ w)
theorem FJ:PO X none (LO X.K fH):=PO.imp Sj fun s H Q h=>by
 obtain⟨Z,d,m,R,ok,rs,h,k⟩:=h;exact k none m H h Ext.refl ok
theorem A9(ha:PE X a (LE X.K f)):PO X (some a) (LO X.K (cY f)):=PO.imp (Z8 ha) fun s H Q h=>by
 obtain⟨Z,d,m,R,ok,rs,h,k⟩:=h;refine⟨Z,d,m,_,ok,rs,h,fun x m1 v H1 ⟨i,e,q⟩ e1 ok1 rd=>?_⟩;subst e;exact⟨i,rd.int,k _ m1 H1 q e1 ok1⟩
def cP{α:Type}(xs:List α)(lo hi:Option Int):List α:=(xs.drop (HT.sIx xs.length 0 lo)).take (HT.sIx xs.length xs.length hi-HT.sIx xs.length 0 lo)
theorem RPs.cut{K:ad}{Z:Addr->Prop}{m:Mu}{H:Hp}{xs:List PyData}{vs:List V}{lo hi:Option Int}(h:RPs K Z m H xs vs):RPs K Z m H (cP xs lo hi) (iN vs lo hi):=by
 unfold cP iN;rw[h.length];exact(h.drop _).take _
theorem Pr{α:Type}(xs:List α){lo hi:Option Int}(h:HT.sIx xs.length 0 lo=0/\HT.sIx xs.length xs.length hi=xs.length):cP xs lo hi=xs:=by
 unfold cP;rw[h.1,h.2];simp
def I0(K:ad):V->Option Int->Option Int->Hp->VK->Prop:=fun x lo hi H Q=>∃ a xs,x=.ref a/\SqT K H a xs /\
 (HT.sIx xs.length 0 lo=0/\HT.sIx xs.length xs.length hi=xs.length)/\Q (.ref a) H
theorem BJ{prog:Program}{w:World}{A:Around}{E:Value->Shared->Prop}{s:Shared}{t sl:Addr}{items:Array Value}{vl vu:Value}{lo hi:Option Int}{Q:Value->Shared->Prop}(ht:IsTup s.heap t items)(hs:s.heap.IsSliceOf sl vl vu .none)(pl:IsPart vl lo)(pu:IsPart vu hi)
  (hw:HT.sIx items.size 0 lo=0/\HT.sIx items.size items.size hi=items.size)
  (h:Q (.ref t) s):wpAny (model prog w) A (getItem (.ref t) (.ref sl)) Q E s:=by
 obtain⟨os,hos,hcs,hds⟩:=id hs;have hTs:s.TypeIs (.ref sl) "slice":=⟨os,hos,hcs⟩
 unfold getItem
 try with_reducible refine wpAny_holding ?_
 first | refine ae (af ?_) | skip
 refine ae (wpAny_sequenceKey ht.typeIs #[1] ?_)
 refine ae (wpAny_callSpecial?_slot (name:=Str.ofString "__getitem__") ht.typeIs PyProof.Rows.slot_tuple_getitem
  (wpAny_call_entry PyProof.Rows.slot_tuple_getitem ht.typeIs entry_tuple_getitem ?_ (args_tuple_getitem _ _)))
 show wpAny _ _ (Builtin.Tuple.tupleItemsOf (.ref t)>>=_) _ _ s
 refine ae (tupleItemsOf_ ht ?_);refine ae (wpAny_typeOf hTs ?_);rw[if_pos #[1]]
 refine ae (HT.sliceApplied_gen hs pl pu ?_);have hyes:(((HT.sIx items.size 0 lo:Nat):Int)==0&&(1:Int)==1&&(HT.sIx items.size items.size hi-HT.sIx items.size 0 lo)==items.size)=true:=by
  rw[hw.1,hw.2];simp
 show wpAny _ _ (if (((HT.sIx items.size 0 lo:Nat):Int)==0&&(1:Int)==1&&(HT.sIx items.size items.size hi-HT.sIx items.size 0 lo)==items.size)=true then _ else _) _ _ s
 rw[if_pos hyes];refine ae ?_;unfold Builtin.Tuple.tupleIsExact;refine ae (wpAny_typeOf ht.typeIs (af ?_));rw[if_pos #[1]]
 first
  | exact ae (wpAny_rule (af ⟨_,rfl,af h⟩))
  | exact ae (wpAny_rule (ae (af (af ⟨_,rfl,af h⟩))))
theorem EO:SlR X (I0 X.K):=by
 intro pins s σ H x v vl vu lo hi sl Q I rx hs pl pu h;obtain⟨a,xs,rfl,hx,hw,q⟩:=h
 cases rx
 obtain⟨its,r,ht,hz⟩:=I.tuple hx;have hlen:its.toArray.size=xs.length:=by rw[ay];exact r.length.symm
 refine⟨"tuple",_,PyProof.Rows.slot_tuple_getitem.lookup,ht.typeIs,?_⟩;exact BJ ht hs pl pu (by rw[hlen];exact hw) ⟨.ref a,H,I,rfl,q⟩
abbrev DC:=List D->Mu->DK->Prop
def CallD(X:Cx)(fn:Value)(r:DC):Prop :=
 ∀ (pins:List (Addr×Obj)) (s:Shared) (σ:L2.St) (H:Hp) (Z:Addr->Prop) (m:Mu) (xs:List V) (ds:List D) (us:List Value) (R:DK) (Q:VK),Inv X pins σ H s->Ok X.K Z m H->Vals xs us->RDs X.K Z m H ds xs->r ds m R ->
  (∀ d m' v' H',R d m'->Ext X.K Z m H m' H'->Ok X.K Z m' H'->RD X.K Z m' H' d v'->Q v' H')->wpAny (model X.prog X.w) X.A (call fn us) (EP X pins σ Q) X.xe s
theorem CallD.cr{fn:Value}{r:DC}(h:CallD X fn r):CallR X fn (fun vs H Q=>∃ Z m ds R,Ok X.K Z m H/\RDs X.K Z m H ds vs/\r ds m R/\∀ d m' v' H',R d m'->Ext X.K Z m H m' H'->Ok X.K Z m' H'->RD X.K Z m' H' d v'->Q v' H'):=by
 intro pins s σ H xs us Q I r1 ⟨Z,m,ds,R,ok,rd,q,k⟩;exact h pins s σ H Z m xs ds us R Q I ok r1 rd q k
@[simp] def bD(r:DC)(g:DA):DE:=fun d m Q=>g d m fun xs m1=>r xs m1 Q
theorem LE.call{r:DC}{H:Hp}{σ:L2.St}{Q:VK}(h:LE X.K (bD r ga) σ H Q) :
  LA X.K ga σ H fun vs H1=>∃ Z m ds R,Ok X.K Z m H1/\RDs X.K Z m H1 ds vs/\r ds m R/\∀ d m' v' H',R d m'->Ext X.K Z m H1 m' H'->Ok X.K Z m' H'->RD X.K Z m' H' d v'->Q v' H':=by
 obtain⟨Z,d,m,R,ok,rs,h,k⟩:=h;exact⟨Z,d,m,_,ok,rs,h,fun xs m1 vs H1 q e1 ok1 r1=>⟨Z,m1,xs,R,ok1,r1,q,fun d' m' v' H' h1 h2 h3 h4=>k d' m' v' H' h1 (e1.trans h2) h3 h4⟩⟩
theorem CS{x:Str}{id:String}{r:DC}(hc:CallD X (.builtin id) r)(hg:Gl X x)(hm:X.mg x=none)(hv:bootBuiltins x=some (.builtin id))(ha:PA X (e::es) (LA X.K ga))(hn:x≠"__name__":=by decide)(hdb:(x==("__debug__" : Str))=false:=by decide)
  (he:starEach (e::es) X.env=(false,eval e X.env)::starEach es X.env:=by rfl) (hpl:(backTo pos (starEach es X.env)).any (·.1)=false:=by rfl):PE X (.Call (.Name x p) (e::es) [] pos) (LE X.K (bD r ga)) :=
 PE.imp (AW hc.cr hg hm hv ha hn hdb he hpl) fun s H Q h=>h.call
theorem Yw{x:Str}{T:String}{r:DC}(hc:CallD X (.type T) r)(hg:Gl X x)(hm:X.mg x=none)(hv:bootBuiltins x=some (.type T))(ha:PA X (e::es) (LA X.K ga))(hn:x≠"__name__":=by decide)(hdb:(x==("__debug__" : Str))=false:=by decide)
  (he:starEach (e::es) X.env=(false,eval e X.env)::starEach es X.env:=by rfl) (hpl:(backTo pos (starEach es X.env)).any (·.1)=false:=by rfl):PE X (.Call (.Name x p) (e::es) [] pos) (LE X.K (bD r ga)) :=
 PE.imp (FC hc.cr hg hm hv ha hn hdb he hpl) fun s H Q h=>h.call
theorem RDs.one{K:ad}{Z:Addr->Prop}{m:Mu}{H:Hp}{x:D}{vs:List V}(h:RDs K Z m H [x] vs):∃ v,vs=[v]/\RD K Z m H x v:=by
 obtain⟨v,r,h1,h2,h3⟩:=h
 cases (show r=[] from h3)
 exact⟨v,h1,h2⟩
theorem RDs.two{K:ad}{Z:Addr->Prop}{m:Mu}{H:Hp}{x y:D}{vs:List V}(h:RDs K Z m H [x,y] vs):∃ v w,vs=[v,w]/\RD K Z m H x v/\RD K Z m H y w:=by
 obtain⟨v,r,h1,h2,h3⟩:=h;obtain⟨w,rfl,h4⟩:=RDs.one h3;exact⟨v,w,h1,h2,h4⟩
@[simp] def dP:DC
 | [.dat (.tuple xs)],m,Q=>Q (.dat (.int xs.length)) m
 | [.dat (.list xs)],m,Q=>Q (.dat (.int xs.length)) m
 | [.dat (.str z)],m,Q=>z.length<=sizeLine/\Q (.dat (.int z.length)) m
 | [.cel a],m,Q=>∃ xs,m a=some (.l xs)/\Q (.dat (.int xs.length)) m
 | _,_,_=>False
theorem eA:CallD X (.builtin "len") dP:=by
 intro pins s σ H Z m xs ds us R Q I ok rv rd h k;unfold dP at h
 split at h
 ·obtain⟨v,rfl,r1⟩:=rd.one;simp only[RD,RP]at r1;obtain⟨a,vs,rfl,h1,h2⟩:=r1;refine xR pins s σ H _ us Q I rv ⟨a,vs,rfl,.inr h1,?_⟩;rw[h2.length];exact k _ m _ H h Ext.refl ok .ofInt
 ·obtain⟨v,rfl,r1⟩:=rd.one;simp only[RD,RP]at r1;obtain⟨a,vs,rfl,_,h1,h2⟩:=r1;refine xR pins s σ H _ us Q I rv ⟨a,vs,rfl,.inl h1,?_⟩;rw[h2.length];exact k _ m _ H h Ext.refl ok .ofInt
 ·obtain⟨v,rfl,r1⟩:=rd.one
  cases r1.str
  exact FU pins s σ H _ us Q I rv ⟨_,rfl,h.1,k _ m _ H h.2 Ext.refl ok .ofInt⟩
 ·obtain⟨v,rfl,r1⟩:=rd.one;obtain⟨rfl,_⟩:=r1;obtain⟨ys,hm,q⟩:=h;obtain⟨vs,h1,h2⟩:=ok.l hm;refine xR pins s σ H _ us Q I rv ⟨_,vs,rfl,.inl (.inl (.inl h1)),?_⟩;rw[h2.length];exact k _ m _ H q Ext.refl ok .ofInt
 ·exact h.elim
@[simp] def uT:DC
 | [.dat (.int i)],m,Q=>Q (.dat (.int (if i<0 then -i else i))) m
 | _,_,_=>False
theorem P8:CallD X (.builtin "abs") uT:=by
 intro pins s σ H Z m xs ds us R Q I ok rv rd h k;unfold uT at h
 split at h
 ·obtain⟨v,rfl,r1⟩:=rd.one
  cases r1.int
  exact GA pins s σ H _ us Q I rv ⟨_,rfl,k _ m _ H h Ext.refl ok .ofInt⟩
 ·exact h.elim
@[simp] def kH:DC
 | [.dat (.int i)],m,Q=>Q (.dat (.int i)) m
 | [.dat (.bool b)],m,Q=>Q (.dat (.int (if b then 1 else 0))) m
 | _,_,_=>False
theorem oB:CallD X (.type "int") kH:=by
 intro pins s σ H Z m xs ds us R Q I ok rv rd h k;unfold kH at h
 split at h
 ·obtain⟨v,rfl,r1⟩:=rd.one
  cases r1.int
  exact De pins s σ H _ us Q I rv (.inl ⟨_,rfl,k _ m _ H h Ext.refl ok .ofInt⟩)
 ·obtain⟨v,rfl,r1⟩:=rd.one
  cases r1.bl
  exact De pins s σ H _ us Q I rv (.inr ⟨_,rfl,k _ m _ H h Ext.refl ok .ofInt⟩)
 ·exact h.elim
@[simp] def uE:DC
 | [.dat (.tuple xs)],m,Q=>Q (.dat (.list xs)) m
 | [.dat (.list xs)],m,Q=>Q (.dat (.list xs)) m
 | _,_,_=>False
theorem g6:CallD X (.type "list") uE:=by
 intro pins s σ H Z m xs ds us R Q I ok rv rd h k;unfold uE at h
 split at h
 ·obtain⟨v,rfl,r1⟩:=rd.one;simp only[RD,RP]at r1;obtain⟨a,vs,rfl,h1,h2⟩:=r1;refine Qn pins s σ H _ us Q I rv ⟨a,vs,rfl,.inr h1,fun l hl=>?_⟩;have sm:Same H (upd H l (.lst vs)):=cC hl
  refine k _ m _ _ h (ok.ext sm) (ok.grow sm) ?_;simp only[RD,RP];exact⟨l,vs,rfl,eY ok hl,.inl (.inl cA),RPs.ext (ok.ext sm) _ _ h2⟩
 ·obtain⟨v,rfl,r1⟩:=rd.one;simp only[RD,RP]at r1;obtain⟨a,vs,rfl,_,h1,h2⟩:=r1;refine Qn pins s σ H _ us Q I rv ⟨a,vs,rfl,.inl h1,fun l hl=>?_⟩;have sm:Same H (upd H l (.lst vs)):=cC hl
  refine k _ m _ _ h (ok.ext sm) (ok.grow sm) ?_;simp only[RD,RP];exact⟨l,vs,rfl,eY ok hl,.inl (.inl cA),RPs.ext (ok.ext sm) _ _ h2⟩
 ·exact h.elim
@[simp] def fN:DC
 | [.dat p],m,Q=>p.showable=true/\p.shown.length<=sizeLine/\p.depth<=100/\Q (.dat (.str p.shown)) m
 | _,_,_=>False
theorem gM(hu:X.A.units+200<cLine)(hg:X.A.guards=some []):CallD X (.builtin "repr") fN:=by
 intro pins s σ H Z m xs ds us R Q I ok rv rd h k;unfold fN at h
 split at h
 ·rename_i p;obtain⟨v,rfl,r1⟩:=rd.one;obtain⟨u,rfl,ru⟩:=eR rv;obtain⟨h1,h2,h3,h4⟩:=h;have fin:∀ (tk tk':Nat),EP X pins σ Q (.str p.shown tk) {s with toks:=tk'}:=fun tk tk'=>⟨.str p.shown,H,I.tok _,⟨_,rfl⟩,k _ m _ H h4 Ext.refl ok .ofStr⟩
  have nd:=RP.noDict X.K p v r1 h1
  obtain⟨as,rd⟩:=RP.reads I p v u r1 ru
  cases rd with
  | none=>exact PySem.P.repr_of_none (fin _ _)
  | bool b=>exact PySem.P.repr_of_bool (by simpa only[PyData.shown] using fin _ _)
  | int i t=>exact PySem.P.repr_of_int (by simpa[PyData.showable] using h1) (by simpa only[PyData.shown] using fin _ _)
  | str x t=>exact PySem.P.repr_of_str (by simpa only[PyData.shown] using fin _ _) (by simpa only[PyData.shown] using h2)
  | list q1 q2 q3 q4 =>
   refine repr_of_reads' (.list q1 q2 q3 q4) h1 (PyData.noDict_hsm nd) hg #[0] (fun _ _ e=>e) (fun h' u tk kp=>⟨.str _,H,I.kept kp,⟨_,rfl⟩,k _ m _ H h4 Ext.refl ok .ofStr⟩) h2
  | tuple q1 q2 q3 q4 =>
   refine repr_of_reads' (.tuple q1 q2 q3 q4) h1 (PyData.noDict_hsm nd) hg #[0] (fun _ _ e=>e) (fun h' u tk kp=>⟨.str _,H,I.kept kp,⟨_,rfl⟩,k _ m _ H h4 Ext.refl ok .ofStr⟩) h2
  | dict q1 q2 q3 q4 q5=>simp only[PyData.hasDict]at nd;cases nd
 ·exact h.elim
end
section
variable {X:Cx}{st:Stmt}{rest body orelse:List Stmt}{t u b:DS}{e c tg iter:Expr}{f:DE}{tc:DT}{pos:Pos}
@[simp] def aQ:DS:=fun E d m=>E.nx d m
@[simp] def aI(t u:DS):DS:=fun E d m=>t {E with nx:=u E} d m
theorem A8:PSs X [] (LS X.K aQ):=PSs.imp Uw fun E s H h=>by
 obtain⟨Z,d,m,R,ok,rs,h,k,_⟩:=h;exact k d m s H h Ext.refl ok rs
theorem AE(h1:PS X st (LS X.K t))(h2:PSs X rest (LS X.K u)):PSs X (st::rest) (LS X.K (aI t u)):=PSs.imp (F9 h1 h2) fun E s H h=>by
 obtain⟨Z,d,m,R,ok,rs,h,kn,kr,kb,kc⟩:=h;refine⟨Z,d,m,_,ok,rs,h,fun d' m' s' H' q e1 ok1 rs1=>⟨Z,d',m',R,ok1,rs1,q,?_,?_,?_,?_⟩,kr,kb,kc⟩
 ·exact fun d2 m2 s2 H2 q2 e2 ok2 rs2=>kn d2 m2 s2 H2 q2 (e1.trans e2) ok2 rs2
 ·exact fun x m2 v H2 q2 e2 ok2 r2=>kr x m2 v H2 q2 (e1.trans e2) ok2 r2
 ·exact fun d2 m2 s2 H2 q2 e2 ok2 rs2=>kb d2 m2 s2 H2 q2 (e1.trans e2) ok2 rs2
 ·exact fun d2 m2 s2 H2 q2 e2 ok2 rs2=>kc d2 m2 s2 H2 q2 (e1.trans e2) ok2 rs2
@[simp] def eW(f:DE):DS:=fun E d m=>f d m fun _ m1=>E.nx d m1
theorem C5(he:PE X e (LE X.K f))(hs:swapsWith e none pos.line X.env=pure false:=by rfl):PS X (.Expr e pos) (LS X.K (eW f)):=PS.imp (N3 he hs) fun E s H h=>by
 obtain⟨Z,d,m,R,ok,rs,h,k,_⟩:=h;exact⟨Z,d,m,_,ok,rs,h,fun x m1 v H1 q e1 ok1 r1=>k d m1 s H1 q e1 ok1 (rs.ext e1)⟩
@[simp] def bG(f:DE):DS:=fun E d m=>f d m E.rt
theorem p8(he:PE X e (LE X.K f)):PS X (.Return (some e) pos) (LS X.K (bG f)):=PS.imp (U5 he) fun E s H h=>by
 obtain⟨Z,d,m,R,ok,rs,h,_,kr,_⟩:=h;exact⟨Z,d,m,_,ok,rs,h,fun x m1 v H1 q e1 ok1 r1=>kr x m1 v H1 q e1 ok1 r1⟩
@[simp] def cO(c:DT)(t u:DS):DS:=fun E d m=>c d m fun k m1=>if k=true then t E d m1 else u E d m1
theorem E4(hc:PT X c (LT X.K tc))(h1:PSs X body (LS X.K t))(h2:PSs X orelse (LS X.K u)):PS X (.If c body orelse pos) (LS X.K (cO tc t u)):=PS.imp (Wp hc h1 h2) fun E s H h=>by
 obtain⟨Z,d,m,R,ok,rs,h,kn,kr,kb,kc⟩:=h;refine⟨Z,d,m,_,ok,rs,h,fun k m1 H1 q e1 ok1=>?_⟩;have mk:∀ {z:DS},z R d m1->LS X.K z E s H1:=fun q=>⟨Z,d,m1,R,ok1,rs.ext e1,q,
  fun d2 m2 s2 H2 q2 e2 ok2 rs2=>kn d2 m2 s2 H2 q2 (e1.trans e2) ok2 rs2,fun x m2 v H2 q2 e2 ok2 r2=>kr x m2 v H2 q2 (e1.trans e2) ok2 r2,
  fun d2 m2 s2 H2 q2 e2 ok2 rs2=>kb d2 m2 s2 H2 q2 (e1.trans e2) ok2 rs2,fun d2 m2 s2 H2 q2 e2 ok2 rs2=>kc d2 m2 s2 H2 q2 (e1.trans e2) ok2 rs2⟩
 cases k with
 | true=>exact Tf (mk #[4,q])
 | false=>exact F8 (mk #[4,q])
@[simp] def aZ(i:Nat)(f:DE):DS:=fun E d m=>f d m fun x m1=>E.nx (d.set i (some x)) m1
theorem Ux(i:Nat){x:Str}{pos':Pos}(hN:X.N.Nodup)(he:PE X e (LE X.K f))(hi:X.N[i]?=some x:=by rfl)(hx:hU X.env.scope x:=by first | exact Or.inl rfl | exact Or.inr rfl)
  (hs:swapsWith e (some (.Name x pos')) pos.line X.env=pure false:=by rfl) (hf:X.fn x=true\/X.env.scope.names.lookup x=some .local:=by first | exact .inl rfl | exact .inr rfl) :
  PS X (.Assign [.Name x pos'] e pos) (LS X.K (aZ i f)):=PS.imp (BG hN hi hx he hs hf) fun E s H h=>by
 obtain⟨Z,d,m,R,ok,rs,h,k,_⟩:=h;exact⟨Z,d,m,_,ok,rs,h,fun x m1 v H1 q e1 ok1 r1=>k _ m1 _ H1 q e1 ok1 ((rs.ext e1).set r1)⟩
abbrev DG:=D->bI->Mu->(bI->Mu->Prop)->Prop
abbrev gK:=List PyData->bI->Mu->(bI->Mu->Prop)->Prop
def LG(K:ad)(g:DG):TG:=fun v s H Q=>∃ Z x d m R,Ok K Z m H/\RS K Z m H d s/\RD K Z m H x v/\g x d m R/\∀ d' m' s' H',R d' m'->Ext K Z m H m' H'->Ok K Z m' H'->RS K Z m' H' d' s'->Q s' H'
def iF(K:ad)(g:gK):iK:=fun vs s H Q=>∃ Z ps d m R,Ok K Z m H/\RS K Z m H d s/\RPs K Z m H ps vs/\g ps d m R/\∀ d' m' s' H',R d' m'->Ext K Z m H m' H'->Ok K Z m' H'->RS K Z m' H' d' s'->Q s' H'
theorem PG.imp{t t':TG}(h:PG X e t)(q:∀ v s H Q,t' v s H Q->t v s H Q):PG X e t':=fun pins s d H v u Q I r w=>h pins s d H v u Q I r (q _ _ _ _ w)
theorem PGs.imp{es:List Expr}{t t':iK}(h:PGs X es t)(q:∀ v s H Q,t' v s H Q->t v s H Q):PGs X es t':=fun pins s d H v u Q I r w=>h pins s d H v u Q I r (q _ _ _ _ w)
@[simp] def gN(i:Nat):DG:=fun x d m Q=>Q (d.set i (some x)) m
theorem Y3(i:Nat){x:Str}(hN:X.N.Nodup)(hi:X.N[i]?=some x:=by rfl)(hx:hU X.env.scope x:=by first | exact Or.inl rfl | exact Or.inr rfl)
  (hf:X.fn x=true\/X.env.scope.names.lookup x=some .local:=by first | exact .inl rfl | exact .inr rfl):PG X (.Name x pos) (LG X.K (gN i)):=PG.imp (Su hN hi hx hf) fun v s H Q h=>by
 obtain⟨Z,x,d,m,R,ok,rs,rd,h,k⟩:=h;exact k _ m _ H h Ext.refl ok (rs.set rd)
@[simp] def cG:gK:=fun ps d m Q=>ps=[]/\Q d m
@[simp] def bC(g:DG)(r:gK):gK
 | p::qs,d,m,Q=>g (.dat p) d m fun d' m'=>r qs d' m' Q
 | [],_,_,_=>False
theorem C2:PGs X [] (iF X.K cG):=PGs.imp Q5 fun vs s H Q h=>by
 obtain⟨Z,ps,d,m,R,ok,rs,rp,⟨rfl,h⟩,k⟩:=h;simp only[RPs]at rp;exact⟨rp,k d m s H h Ext.refl ok rs⟩
theorem Yd{es:List Expr}{g:DG}{r:gK}(h1:PG X e (LG X.K g))(h2:PGs X es (iF X.K r))(hs:(assignEach (e::es) X.env).map (·.2)=assign e X.env::(assignEach es X.env).map (·.2):=by rfl) :
  PGs X (e::es) (iF X.K (bC g r)):=PGs.imp (F0 h1 h2 hs) fun vs s H Q h=>by
 obtain⟨Z,ps,d,m,R,ok,rs,rp,h,k⟩:=h
 match ps,rp,h with
 | [],_,h=>exact h.elim
 | p::qs,rp,h =>
 simp only[RPs]at rp;obtain⟨v,w,rfl,r1,r2⟩:=rp;exact⟨v,w,rfl,Z,.dat p,d,m,_,ok,rs,r1,h,fun d' m' s' H' q e1 ok1 rs1=>⟨Z,qs,d',m',R,ok1,rs1,RPs.ext e1 _ _ r2,q,fun d2 m2 s2 H2 q2 e2 ok2 rs2=>k d2 m2 s2 H2 q2 (e1.trans e2) ok2 rs2⟩⟩
@[simp] def gT(n:Nat)(g:gK):DG:=fun x d m Q=>∃ ps,x=.dat (.tuple ps)/\ps.length=n/\g ps d m Q
theorem C1{es:List Expr}{j n:Nat}{g:gK}(hc:X.calm=true)(h:PGs X es (iF X.K g))(hn:(assignEach es X.env).length=n:=by rfl)(hst:(assignEach es X.env).findIdx? (·.1)=none:=by rfl) :
  PG X (.Tuple es j pos) (LG X.K (gT n g)):=PG.imp (d6 hc h hn hst) fun v s H Q h=>by
 obtain⟨Z,x,d,m,R,ok,rs,rd,⟨ps,rfl,hl,h⟩,k⟩:=h;simp only[RD,RP]at rd;obtain⟨a,vs,rfl,h1,h2⟩:=rd;exact⟨a,vs,rfl,h1,by rw[h2.length];exact hl,Z,ps,d,m,R,ok,rs,h2,h,k⟩
@[simp] def lG(f:DE)(g:DG):DS:=fun E d m=>f d m fun x m1=>g x d m1 E.nx
theorem GL{g:DG}(he:PE X e (LE X.K f))(hg:PG X tg (LG X.K g))(hs:swapsWithSole [tg] e pos.line X.env=pure false:=by rfl)(hw:swappedStores [tg] e X.env=pure none:=by rfl)
  (h1:(assignEach [tg] X.env).map (·.2)=[assign tg X.env]:=by rfl):PS X (.Assign [tg] e pos) (LS X.K (lG f g)):=PS.imp (Ps he hg hs hw h1) fun E s H h=>by
 obtain⟨Z,d,m,R,ok,rs,h,k,_⟩:=h;exact⟨Z,d,m,_,ok,rs,h,fun x m1 v H1 q e1 ok1 r1=>⟨Z,x,d,m1,_,ok1,rs.ext e1,r1,q,fun d2 m2 s2 H2 q2 e2 ok2 rs2=>k d2 m2 s2 H2 q2 (e1.trans e2) ok2 rs2⟩⟩
@[simp] def iQ(i j:Nat)(g:DA):DS:=fun E d m=>g d m fun xs m1=>∃ x y,xs=[x,y]/\E.nx ((d.set i (some x)).set j (some y)) m1
theorem EM(i j:Nat){x y:Str}{a b:Expr}{g:DA}{px py pt:Pos}{kt k2 pt2}(hc:X.calm=true)(hN:X.N.Nodup)(ha:PA X [a,b] (LA X.K g))(hi:X.N[i]?=some x:=by rfl)(hj:X.N[j]?=some y:=by rfl)(hij:i≠j:=by decide)
  (hx:X.env.scope.names.lookup x=some .local:=by rfl) (hy:X.env.scope.names.lookup y=some .local:=by rfl)
  (hw:swappedStores [.Tuple [.Name x px,.Name y py] kt pt] (.Tuple [a,b] k2 pt2) X.env=pure (some [x,y]):=by rfl)
  (hs:swapsWithSole [.Tuple [.Name x px,.Name y py] kt pt] (.Tuple [a,b] k2 pt2) pos.line X.env=pure false:=by rfl) :
  PS X (.Assign [.Tuple [.Name x px,.Name y py] kt pt] (.Tuple [a,b] k2 pt2) pos) (LS X.K (iQ i j g)):=PS.imp (Ss hc hN hi hj hij hx hy ha hw hs) fun E s H h=>by
 obtain⟨Z,d,m,R,ok,rs,h,k,_⟩:=h;refine⟨Z,d,m,_,ok,rs,h,fun xs m1 vs H1 ⟨x,y,e,q⟩ e1 ok1 r1=>?_⟩;subst e;obtain⟨v,w,rfl,r1,r2⟩:=r1.two;exact⟨v,w,rfl,k _ m1 _ H1 q e1 ok1 (((rs.ext e1).set r1).set r2)⟩
@[simp] def nP(fo fi f:DE):DS:=fun E d m=>f d m fun x m1=>fo d m1 fun o m2=>fi d m2 fun i m3 =>
 ∃ a k xs j p,o=.cel a/\i=.dat (.int k)/\x=.dat p/\m3 a=some (.l xs)/\fB xs.length k=some j/\E.nx d (aW m3 a (.l (xs.set j p)))
theorem k6{o i:Expr}{fo fi:DE}{tpos:Pos}(he:PE X e (LE X.K f))(ho:PE X o (LE X.K fo))(hi:PE X i (LE X.K fi))
  (ha:∀ v,assign (.Subscript o i tpos) X.env v=(do
   let ov <- holding [v] (eval o X.env)
   let iv <- holding [v,ov] (eval i X.env)
   standAt tpos
   holding [v,ov,iv] (setItem ov iv v)
   release [v,ov,iv] []):=by intro _;rfl)
  (hs:swapsWithSole [.Subscript o i tpos] e pos.line X.env=pure false:=by rfl) (hw:swappedStores [.Subscript o i tpos] e X.env=pure none:=by rfl)
  (h1:(assignEach [.Subscript o i tpos] X.env).map (·.2)=[assign (.Subscript o i tpos) X.env]:=by rfl):PS X (.Assign [.Subscript o i tpos] e pos) (LS X.K (nP fo fi f)) :=
 PS.imp (Ps he (Tl ho hi FE ha) hs hw h1) fun E s H h=>by
 obtain⟨Z,d,m,R,ok,rs,h,k,_⟩:=h;refine⟨Z,d,m,_,ok,rs,h,fun x m1 v H1 q e1 ok1 r1=>⟨Z,d,m1,_,ok1,rs.ext e1,q,fun o m2 w H2 q2 e2 ok2 r2=>⟨Z,d,m2,_,ok2,(rs.ext e1).ext e2,q2,fun i m3 z H3 q3 e3 ok3 r3=>?_⟩⟩⟩;obtain⟨a,k',xs,j,p,rfl,rfl,rfl,hm,hj,q⟩:=q3
 cases r3.int
 obtain⟨rfl,_⟩:=r2.ext e3;obtain⟨vs,g1,g2⟩:=ok3.l hm;have r1':=r1.ext (e2.trans e3)
 refine⟨a,vs,k',j,rfl,rfl,g1,by rw[g2.length];exact hj,?_⟩
 have e4:Ext X.K Z m3 H3 (aW m3 a (.l (xs.set j p))) (upd H3 a (.lst (vs.set j v))):=Ext.put ok3 hm g1
 exact k d _ s _ q (e1.trans (e2.trans (e3.trans e4))) (ok3.put hm g1 (g2.set r1')) ((rs.ext e1).ext (e2.trans (e3.trans e4)))
def wO(c:DT)(b:DS):DS:=fun E d m=>∃ W:Nat->bI->Mu->Prop,(∃ n,W n d m)/\∀ n d m,W n d m ->
 c d m fun k m1=>if k=true then ∃ N:bI->Mu->Prop,(∀ d' m',N d' m'->∃ n',n'<n/\W n' d' m')/\b {E with nx:=N,ct:=N,bk:=E.nx} d m1 else E.nx d m1
theorem E9(hp:PassesOwn (model X.prog X.w) X.A X.env X.xe)(hc:PT X c (LT X.K tc))(hb:PSs X body (LS X.K b)):PS X (.While c body [] pos) (LS X.K (wO tc b)):=PS.imp (Zc hp hc hb) fun E s H h=>by
 obtain⟨Z,d,m,R,ok,rs,⟨W,⟨n0,w0⟩,turn⟩,kn,kr,kb,kc⟩:=h;refine⟨fun n s' H'=>∃ d' m',Ext X.K Z m H m' H'/\Ok X.K Z m' H'/\RS X.K Z m' H' d' s'/\W n d' m',⟨n0,d,m,Ext.refl,ok,rs,w0⟩,?_⟩;rintro n s1 H1 ⟨d1,m1,e1,ok1,rs1,w1⟩;refine⟨Z,d1,m1,_,ok1,rs1,turn n d1 m1 w1,fun k m2 H2 q e2 ok2=>?_⟩
 cases k with
 | false =>
  rw[if_neg am]at q ⊢;exact kn d1 m2 s1 H2 q (e1.trans e2) ok2 (rs1.ext e2)
 | true =>
  rw[if_pos rfl]at q ⊢;obtain⟨N,hN,q⟩:=q;refine⟨fun s' H'=>∃ d' m',Ext X.K Z m H m' H'/\Ok X.K Z m' H'/\RS X.K Z m' H' d' s'/\N d' m',fun s' H' ⟨d',m',g1,g2,g3,g4⟩=>?_,?_⟩
  ·obtain⟨n',hn,w⟩:=hN d' m' g4;exact⟨n',hn,d',m',g1,g2,g3,w⟩
  ·have e12:=e1.trans e2
   exact⟨Z,d1,m2,_,ok2,rs1.ext e2,q,fun d3 m3 s3 H3 q3 e3 ok3 rs3=>⟨d3,m3,e12.trans e3,ok3,rs3,q3⟩,fun x m3 v H3 q3 e3 ok3 r3=>kr x m3 v H3 q3 (e12.trans e3) ok3 r3,
    fun d3 m3 s3 H3 q3 e3 ok3 rs3=>kn d3 m3 s3 H3 q3 (e12.trans e3) ok3 rs3,fun d3 m3 s3 H3 q3 e3 ok3 rs3=>⟨d3,m3,e12.trans e3,ok3,rs3,q3⟩⟩
abbrev DI:=bI->Mu->(List D->Mu->Prop)->Prop
def Yld(K:ad)(Z:Addr->Prop)(m:Mu)(H:Hp)(x:D)(v:V)(H2 H3:Hp):Prop :=
 (H3=H2/\RD K Z m H x v)\/∃ p ps vs,x=.dat (.tuple ps)/\v=.ref p/\H2 p=none/\H3=upd H2 p (.tup vs)/\RPs K Z m H ps vs
theorem Yld.same{K:ad}{Z:Addr->Prop}{m:Mu}{H H2 H3:Hp}{x:D}{v:V}(h:Yld K Z m H x v H2 H3):Same H2 H3:=by
 rcases h with⟨rfl,_⟩ | ⟨p,ps,vs,_,_,hp,rfl,_⟩
 ·exact fun _ _ q=>q
 ·exact cC hp
theorem Yld.rd{K:ad}{Z Z':Addr->Prop}{m m':Mu}{H H2 H3:Hp}{x:D}{v:V}(tr:∀ d v,RD K Z m H d v->RD K Z' m' H2 d v)(ok:Ok K Z' m' H2)(h:Yld K Z m H x v H2 H3):RD K Z' m' H3 x v:=by
 rcases h with⟨rfl,h⟩ | ⟨p,ps,vs,rfl,rfl,hp,rfl,h⟩
 ·exact tr _ _ h
 ·have h2:=RPs.lift (fun p v q=>tr (.dat p) v q) h
  simp only[RD,RP];exact⟨p,vs,rfl,.inl (.inl cA),RPs.ext (ok.ext (cC hp)) _ _ h2⟩
structure ExtY (K:ad) (Z:Addr->Prop) (m:Mu) (H:Hp) (m':Mu) (H':Hp):Prop where
 t:∀ a vs,SqT K H a vs->SqT K H' a vs
 l:∀ a vs,(m a=none/\¬ Z a)->SqL K H a vs->m' a=none/\SqL K H' a vs
 fz:∀ a o u,H a=some (.frz o u)->H' a=some (.frz o u)
theorem Ext.y{K:ad}{Z:Addr->Prop}{m m':Mu}{H H':Hp}(e:Ext K Z m H m' H'):ExtY K Z m H m' H':=⟨e.t,e.l,e.fz⟩
def kQ(K:ad)(Z:Addr->Prop)(m:Mu)(H:Hp)(xs:List D)(J:It):Prop:=∀ m2 H2,ExtY K Z m H m2 H2 ->
 (∀ (i:Nat) (x:D),xs[i]?=some x->J.go i H2/\∀ v H3,J.yld i H2 v H3->Yld K Z m H x v H2 H3)/\J.stop xs.length H2
def LI(K:ad)(fi:DI):TI:=fun s H R=>∃ (Z:Addr->Prop) (d:bI) (m:Mu) (ZZ:List D->Mu->Prop),Ok K Z m H/\RS K Z m H d s/\fi d m ZZ /\
 ∀ xs m' H' J,ZZ xs m'->Ext K Z m H m' H'->Ok K Z m' H'->kQ K Z m' H' xs J->R J H'
@[simp] def cJ(f:DE):DI:=fun d m Q=>f d m fun x m1=>(∃ ps,x=.dat (.list ps)/\Q (ps.map .dat) m1)\/(∃ ps,x=.dat (.tuple ps)/\Q (ps.map .dat) m1)
theorem PI.imp{t t':TI}(h:PI X tg e t)(q:∀ s H R,t' s H R->t s H R):PI X tg e t':=fun pins s d H R I w=>h pins s d H R I (q _ _ _ w)
theorem pN{ps:List PyData}{i:Nat}{x:D}(h:(ps.map D.dat)[i]?=some x):∃ p,ps[i]?=some p/\x=.dat p:=by
 rw[List.getElem?_map]at h
 cases e:ps[i]? with
 | none=>rw[e]at h;cases h
 | some p=>rw[e]at h;cases h;exact⟨p,rfl,rfl⟩
theorem C4{K:ad}{Z:Addr->Prop}{m:Mu}{H:Hp}{a:Addr}{vs:List V}{ps:List PyData}(h0:m a=none/\¬ Z a)(h1:SqL K H a vs)(h2:RPs K Z m H ps vs):kQ K Z m H (ps.map .dat) (oC K a):=by
 intro m2 H2 e;obtain⟨q0,q1⟩:=e.l a vs h0 h1;have q2:=h2
 refine⟨fun i x hx=>?_,⟨vs,q1,by rw[q2.length,av];exact ak _⟩⟩
 obtain⟨p,hp,rfl⟩:=pN hx;obtain⟨v,hv,rv⟩:=h2.get hp;refine⟨⟨vs,v,q1,hv⟩,fun v' H3 y=>.inl ⟨y.1,?_⟩⟩;have:=y.2 vs q1
 rw[hv]at this
 cases this
 exact rv
theorem EA{K:ad}{Z:Addr->Prop}{m:Mu}{H:Hp}{a:Addr}{vs:List V}{ps:List PyData}(h1:SqT K H a vs)(h2:RPs K Z m H ps vs):kQ K Z m H (ps.map .dat) (rQ K a):=by
 intro m2 H2 e;have q1:=e.t a vs h1
 have q2:=h2
 refine⟨fun i x hx=>?_,⟨vs,q1,by rw[q2.length,av];exact ak _⟩⟩
 obtain⟨p,hp,rfl⟩:=pN hx;obtain⟨v,hv,rv⟩:=h2.get hp;refine⟨⟨vs,v,q1,hv⟩,fun v' H3 y=>.inl ⟨y.1,?_⟩⟩;have:=y.2 vs q1
 rw[hv]at this
 cases this
 exact rv
theorem Q3{l:Expr}{tl:TE}(hl:PE X l tl):PI X tg l (fun s H R=>tl s H fun x H1=>(∃ a,x=.ref a/\(∃ xs,SqL X.K H1 a xs)/\R (oC X.K a) H1)\/(∃ a,x=.ref a/\(∃ xs,SqT X.K H1 a xs)/\R (rQ X.K a) H1)):=by
 intro pins s σ H R I h;refine aS (hl pins s σ H _ I h) fun v s1 ⟨x,H1,I1,r1,q1⟩=>?_;rcases q1 with⟨a,e,⟨xs,hq⟩,q⟩ | ⟨a,e,⟨xs,hq⟩,q⟩
 ·subst e
  cases r1
  obtain⟨its,rv,p,hz⟩:=I1.list hq;refine wpAny_pyIter_list p.isList ?_;refine⟨s1.heap.objs.size,[s1.heap.objs.size],_,_,H1,rfl,I1.kept (t':=s1.toks) fun b o e=>ah _ e,Um a _,⟨_,ai _ rfl,rfl,rfl⟩,fun b hb=>?_,q⟩;have e:b=s1.heap.objs.size:=by simpa using hb
  subst e;exact I1.fpOk (ak _) (I1.hok.fresh (ak _))
 ·subst e
  cases r1
  obtain⟨its,rv,p,hz⟩:=I1.tuple hq;refine wpAny_pyIter_tuple (show s1.heap.IsTuple a its.toArray from p) ?_
  refine⟨s1.heap.objs.size,[s1.heap.objs.size],_,_,H1,rfl,I1.kept (t':=s1.toks) fun b o e=>ah _ e,DZ a _,⟨_,ai _ rfl,rfl,rfl⟩,fun b hb=>?_,q⟩;have e:b=s1.heap.objs.size:=by simpa using hb
  subst e;exact I1.fpOk (ak _) (I1.hok.fresh (ak _))
theorem Sn(ha:PE X e (LE X.K f)):PI X tg e (LI X.K (cJ f)):=PI.imp (Q3 ha) fun s H R h=>by
 obtain⟨Z,d,m,ZZ,ok,rs,h,k⟩:=h;refine⟨Z,d,m,_,ok,rs,h,fun x m1 v H1 q e1 ok1 rd=>?_⟩;rcases q with⟨ps,rfl,q⟩ | ⟨ps,rfl,q⟩
 ·simp only[RD,RP]at rd;obtain⟨a,vs,rfl,h0,h1,h2⟩:=rd;exact .inl ⟨a,rfl,⟨vs,h1⟩,k _ m1 H1 _ q e1 ok1 (C4 h0 h1 h2)⟩
 ·simp only[RD,RP]at rd;obtain⟨a,vs,rfl,h1,h2⟩:=rd;exact .inr ⟨a,rfl,⟨vs,h1⟩,k _ m1 H1 _ q e1 ok1 (EA h1 h2)⟩
def dD(lo:Int)(n:Nat):List D:=(List.range n).map fun i=>.dat (.int (lo+(i:Nat)))
@[simp] def jT(f:DE):DI:=fun d m Q=>f d m fun x m1=>∃ j:Int,x=.dat (.int j)/\-(2^62)<=j/\j<2^62/\Q (dD 0 j.toNat) m1
theorem Z9{p:Pos}(hg:Gl X "range")(hm:X.mg "range"=none)(ha:PE X e (LE X.K f))(hs:starEach [e] X.env=[(false,eval e X.env)]:=by rfl):PI X tg (.Call (.Name "range" p) [e] [] pos) (LI X.K (jT f)) :=
 PI.imp (V2 hg hm (jY ha kX (by rw[hs];rfl)) hs) fun s H R h=>by
  obtain⟨Z,d,m,ZZ,ok,rs,h,k⟩:=h;refine⟨Z,d,m,_,ok,rs,h,fun x m1 v H1 ⟨j,e,h1,h2,q⟩ e1 ok1 rd=>?_⟩;subst e
  cases rd.int
  show ∃ j':Int,[V.int j]=[V.int j']/\_
  refine⟨j,rfl,h1,h2,k _ m1 H1 _ q e1 ok1 fun m2 H2 e2=>⟨fun i x hx=>?_,?_⟩⟩
  ·unfold dD at hx;rw[List.getElem?_map]at hx
   cases ei:(List.range j.toNat)[i]? with
   | none=>rw[ei]at hx;cases hx
   | some i' =>
    rw[ei]at hx
    cases hx
    have hl:=(List.getElem?_eq_some_iff.mp ei).1
    have hi:i'=i:=by
     obtain⟨_,z⟩:=List.getElem?_eq_some_iff.mp ei;rw[List.getElem_range]at z;exact z.symm
    subst hi;rw[List.length_range]at hl;refine⟨hl,fun v' H3 y=>.inl ⟨y.1,?_⟩⟩;rw[y.2];exact .ofInt
  ·show j.toNat<=(dD 0 j.toNat).length
   unfold dD;rw[av,List.length_range];exact ak _
def bW(g:DG)(b:DS)(E:Ends2):List D->bI->Mu->Prop
 | [],d,m=>E.nx d m
 | x::xs,d,m=>g x d m fun d' m'=>b {E with nx:=bW g b E xs,ct:=bW g b E xs,bk:=E.nx} d' m'
@[simp] def dQ(fi:DI)(g:DG)(b:DS):DS:=fun E d m=>fi d m fun xs m1=>bW g b E xs d m1
theorem Vy{fi:DI}{g:DG}(hp:PassesOwn (model X.prog X.w) X.A X.env X.xe)(hc:X.calm=true)(hi:PI X tg iter (LI X.K fi))(hg:PG X tg (LG X.K g))(hb:PSs X body (LS X.K b))
  (hs:∀ x,foldedSetIterable iter X.env x=pure x:=by intro _;rfl):PS X (.For tg iter body [] pos) (LS X.K (dQ fi g b)):=PS.imp (U0 hp hc hi hg hb hs) fun E s H h=>by
 obtain⟨Z,d,m,R,ok,rs,h,kn,kr,kb,kc⟩:=h;refine⟨Z,d,m,_,ok,rs,h,fun xs m1 H1 J q e1 ok1 yl=>?_⟩;refine⟨fun i n s' H'=>∃ d' m',n=xs.length-i/\i<=xs.length/\Ext X.K Z m1 H1 m' H'/\Ok X.K Z m' H'/\RS X.K Z m' H' d' s'/\bW g b R (xs.drop i) d' m',⟨xs.length,d,m1,by simp,Nat.zero_le _,Ext.refl,ok1,rs.ext e1,by simpa using q⟩,?_⟩
 rintro i n s2 H2 ⟨d2,m2,rfl,hi,e2,ok2,rs2,w⟩;obtain⟨y1,y2⟩:=yl m2 H2 e2.y
 by_cases hl:i<xs.length
 ·rw[List.drop_eq_getElem_cons hl]at w;obtain⟨go,yd⟩:=y1 i xs[i] (List.getElem?_eq_getElem hl);refine .inr ⟨go,fun s' H'=>∃ d' m',Ext X.K Z m1 H1 m' H'/\Ok X.K Z m' H'/\RS X.K Z m' H' d' s'/\bW g b R (xs.drop (i+1)) d' m',fun s' H' ⟨d',m',g1,g2,g3,g4⟩=>⟨xs.length-(i+1),by omega,d',m',rfl,hl,g1,g2,g3,g4⟩,fun v H3 y=>?_⟩
  have yy:=yd v H3 y
  have e2':=e2.trans (ok2.ext yy.same)
  refine⟨Z,xs[i],d2,m2,_,ok2.grow yy.same,rs2.ext (ok2.ext yy.same),yy.rd (fun d v h=>h.ext e2) ok2,w,fun d3 m3 s3 H3 q3 e3 ok3 rs3=>?_⟩;have e23:=e2'.trans e3
  have e13:=e1.trans e23
  exact⟨Z,d3,m3,_,ok3,rs3,q3,fun d4 m4 s4 H4 q4 e4 ok4 rs4=>⟨d4,m4,e23.trans e4,ok4,rs4,q4⟩,fun x m4 v H4 q4 e4 ok4 r4=>kr x m4 v H4 q4 (e13.trans e4) ok4 r4,
   fun d4 m4 s4 H4 q4 e4 ok4 rs4=>kn d4 m4 s4 H4 q4 (e13.trans e4) ok4 rs4,fun d4 m4 s4 H4 q4 e4 ok4 rs4=>⟨d4,m4,e23.trans e4,ok4,rs4,q4⟩⟩
 ·have e:i=xs.length:=by omega
  subst e;rw[List.drop_length]at w;exact .inl ⟨y2,kn d2 m2 s2 H2 w (e1.trans e2) ok2 rs2⟩
end
section
variable {X:Cx}{a e:Expr}{es:List Expr}{f:DE}{ga:DA}{pos p p1 p2 p3 p4:Pos}
theorem Vals.rev:∀ {xs:List V} {us:List Value},Vals xs us->Vals xs.reverse us.reverse
 | _,_,.nil=>.nil
 | _,_,.cons r t=>by
  rw[List.reverse_cons,List.reverse_cons];exact(Vals.rev t).append (.cons r .nil)
@[simp] def Kh:PyData->String
 | .none=>"NoneType"
 | .bool _=>"bool"
 | .int _=>"int"
 | .str _=>"str"
 | .list _=>"list"
 | .tuple _=>"tuple"
 | .dict _=>"dict"
@[simp] def isK(q:PyData)(c:String):Bool:=Kh q==c||(Kh q == "bool" && c == "int")
def LSp(K:ad)(n:Nat)(sp:DC):Sp:=fun vs H Q _=>∃ Z ds m R,Ok K Z m H/\RDs K Z m H ds vs/\ds.length=n/\sp ds m R/\∀ d m' v' H',R d m'->Ext K Z m H m' H'->Ok K Z m' H'->RD K Z m' H' d v'->Q v' H'
theorem LSp.len{K:ad}{n:Nat}{sp:DC}{vs:List V}{H:Hp}{Q:VK}{E:XK}(h:LSp K n sp vs H Q E):vs.length=n:=by
 obtain⟨Z,ds,m,R,_,rd,hl,_⟩:=h;rw[rd.length];exact hl
@[simp] def aT(n:Nat)(sp:DC)(g:DA):DE:=fun d m Q=>g d m fun xs m1=>xs.length=n/\sp xs m1 Q
theorem P6{k n:Nat}{fa:Addr}{fd:FuncData}{ps:List Str}{sp:DC}{x:Str}(F:FnOk X.prog X.w X.K X.mg X.base eD k fa fd ps (LSp X.K n sp))(hr:Room k X.A)(hm:X.mg x=some (.ref fa))(hk:PySem.W.keepIn X.K (.ref fa)=true)
  (hb:Binds X.K fd ps []) (hx:X.xe=fun _ _=>False) (ha:PA X (e::es) (LA X.K ga)) (hg:Gl X x:=by rfl) (hdb:(x==("__debug__" : Str))=false:=by decide)
  (he:starEach (e::es) X.env=(false,eval e X.env)::starEach es X.env:=by rfl) (hpl:(backTo pos (starEach es X.env)).any (·.1)=false:=by rfl):PE X (.Call (.Name x p) (e::es) [] pos) (LE X.K (aT n sp ga)) :=
 PE.imp (BR F hr hg hm hk hb .nil (Fs (X:=X)) ha hdb he hpl) fun s H Q h=>by
  obtain⟨Z,d,m,R,ok,rs,h,k⟩:=h;refine⟨Z,d,m,_,ok,rs,h,fun xs m1 vs H1 ⟨hl,q⟩ e1 ok1 rd=>⟨Z,xs,m1,R,ok1,by simpa using rd,hl,q,fun d' m' v' H' h1 h2 h3 h4=>k d' m' v' H' h1 (e1.trans h2) h3 h4⟩⟩
@[simp] def bN(N:List Str)(ds:List D):bI:=ds.map some++List.replicate (N.length-ds.length) none
theorem RDs.get{K:ad}{Z:Addr->Prop}{m:Mu}{H:Hp}:∀ {xs:List D} {vs:List V} {i:Nat} {x:D},RDs K Z m H xs vs->xs[i]?=some x->∃ v,vs[i]?=some v/\RD K Z m H x v
 | [],_,_,_,_,e=>by simp at e
 | _::_,_,0,x,⟨v,r,h1,h2,_⟩,e=>by
  simp at e;subst h1 e;exact⟨v,rfl,h2⟩
 | _::xs,_,i+1,x,⟨v,r,h1,_,h3⟩,e=>by
  obtain⟨u,q1,q2⟩:=RDs.get (i:=i) (x:=x) h3 #[4,e]
  subst h1;exact⟨u,by simpa using q1,q2⟩
theorem CM{K:ad}{Z:Addr->Prop}{m:Mu}{H:Hp}{N:List Str}{ds:List D}{vs:List V}(h:RDs K Z m H ds vs):RS K Z m H (bN N ds) (start N vs):=by
 have hl:=h.length
 refine⟨?_,fun i x hx=>?_⟩
 ·unfold bN L2.start;rw[List.length_append,List.length_append,av,av,List.length_replicate,List.length_replicate,hl]
 ·unfold bN at hx
  by_cases hi:i<ds.length
  ·rw[List.getElem?_append_left #[4,hi],List.getElem?_map]at hx
   cases e:ds[i]? with
   | none=>rw[e]at hx;cases hx
   | some y =>
    rw[e]at hx
    cases hx
    obtain⟨v,q1,q2⟩:=h.get e;refine⟨v,?_,q2⟩;unfold L2.start;rw[List.getElem?_append_left (by rw[av,hl];exact hi),List.getElem?_map,q1]
    rfl
  ·rw[List.getElem?_append_right #[4,hi],List.getElem?_replicate]at hx
   split at hx<;>cases hx
end
section
variable {P:Program}{w:World}{K:ad}{mg:Str->Option Value}{base:Heap}
theorem FQ{x qual:Str}{st:Stmt}{fa:Addr}{fd:FuncData}{N ps:List Str}{k:Nat}{sp:DC}{body:DS}(F:Fun K x qual st fa fd)(S:FnScope N ps (dS st))
  (hb:∀ (cdv:Value) (A:Around) (outer:List Env) (s:Shared) (H:Hp) (E:XK),Room k (A.deeper (envOfC qual (dS st) s.heap.objs.size fa cdv)) ->
   PSs (iB eD P w K mg base N qual (dS st) fa cdv A outer s H E).nox (gR st) (LS K body))
  (hv:∀ ds m R,ds.length=ps.length->sp ds m R->body {nx:=fun _ m=>R (.dat .none) m,rt:=R} (bN N ds) m):FnOk P w K mg base eD (k+1) fa fd ps (LSp K ps.length sp):=by
 refine F.ok S (fun vs H Q E h=>h.len) (fun cdv A outer s H vs Q E hr h=>?_);obtain⟨Z,ds,m,R,ok,rd,hl,h,kk⟩:=h;refine⟨_,hb cdv A outer s H E hr,Z,bN N ds,m,_,ok,CM rd,hv ds m R hl h,?_,?_,?_,?_⟩
 ·intro d' m' s' H' q e1 ok1 _;exact kk _ m' _ H' q e1 ok1 (by simp only[RD,RP])
 ·exact fun x m' v H' q e1 ok1 r1=>kk x m' v H' q e1 ok1 r1
 ·exact fun _ _ _ _ q _ _ _=>q.elim
 ·exact fun _ _ _ _ q _ _ _=>q.elim
end
end DL
namespace L2
open PySem
theorem Room.u100{k:Nat}{A:Around}(r:Room k A):A.units+100<cLine:=by have:=r.un;omega
theorem Room.u200{k:Nat}{A:Around}(r:Room k A):A.units+200<cLine:=by have:=r.un;omega
end L2
namespace DL
open PySem PySem.Spec PyProof.Rows L2
theorem eB:bootBuiltins "len"=some (.builtin "len"):=by decide +kernel
theorem BK:bootBuiltins "abs"=some (.builtin "abs"):=by decide +kernel
theorem fU:bootBuiltins "repr"=some (.builtin "repr"):=by decide +kernel
theorem mS:bootBuiltins "int"=some (.type "int"):=by decide +kernel
theorem Rw:bootBuiltins "list"=some (.type "list"):=by decide +kernel
theorem eV:bootBuiltins "tuple"=some (.type "tuple"):=by decide +kernel
theorem zY{K:ad}{Z:Addr->Prop}{m:Mu}{H:Hp}:∀ ns:List Int,RPs K Z m H (ns.map PyData.int) (ns.map V.int)
 | []=>by simp[RPs]
 | n::ns=>by
  simp only[au,RPs];exact⟨_,_,rfl,by simp only[RP],zY ns⟩
theorem FZ{K:ad}{sp:DC}{H:Hp}{a:Addr}{ns:List Int}{E:XK}(hS:SqL K H a (ns.map V.int))(h:sp [.dat (.list (ns.map .int))] (fun _=>none) (fun d _=>d=.dat (.bool true))):LSp K 1 sp [.ref a] H (fun v _=>v=.bl true) E:=by
 have ok:Ok K (fun _=>False) (fun _=>none) H:=⟨fun b ds e=>(by cases e),fun _ z=>False.elim z⟩
 refine⟨fun _=>False,[.dat (.list (ns.map .int))],fun _=>none,fun d _=>d=.dat (.bool true),ok,⟨.ref a,[],rfl,?_,rfl⟩,rfl,h,?_⟩
 ·simp only[RD,RP];exact⟨a,_,rfl,by first | exact⟨rfl,fun z=>z⟩ | simp,hS,zY ns⟩
 ·rintro d m' v' H' rfl _ _ r;simpa only[RD,RP] using r
theorem rP(env:Env):∀ (names:List (Str×NameKind)) (cs:List (Str×Addr)),(∀ x,(x,NameKind.free)∈names->∃ c,env.cells.lookup x=some c)->(∀ p∈cs,env.cells.lookup p.1=some p.2) ->
  ∃ cl:List (Str×Addr),(forIn names cs (fun(x:Str×NameKind) (r:List (Str×Addr))=>(if (x.2==.free)=true then (do let c <- cellOf env x.1;pure (ForInStep.yield ((x.1,c)::r))) else pure (ForInStep.yield r):Sem (ForInStep (List (Str×Addr))))))=pure cl /\
   (∀ p∈cl,env.cells.lookup p.1=some p.2)/\(∀ p∈cs,p∈cl)/\∀ x,(x,NameKind.free)∈names->∃ c,(x,c)∈cl
 | [],cs,_,h=>⟨cs,rfl,h,fun _ z=>z,fun x z=>nomatch z⟩
 | (n,k)::r,cs,hf,h=>by
  by_cases hk:k=.free
  ·subst hk;obtain⟨c,hc⟩:=hf n List.mem_cons_self;obtain⟨cl,e,h1,h2,h3⟩:=rP env r ((n,c)::cs) (fun x hx=>hf x (aq _ hx)) (fun p hp=>by
    rcases List.mem_cons.mp hp with rfl | hp
    ·exact hc
    ·exact h p hp)
   refine⟨cl,?_,h1,fun p hp=>h2 p (aq _ hp),fun x hx=>?_⟩
   ·rw[List.forIn_cons];have e2:cellOf env n=pure c:=by unfold cellOf;rw[hc]
    simp only[beq_self_eq_true,if_true,e2,pure_bind];exact e
   ·rcases List.mem_cons.mp hx with z | hx
    ·cases z
     exact⟨c,h2 _ List.mem_cons_self⟩
    ·exact h3 x hx
  ·obtain⟨cl,e,h1,h2,h3⟩:=rP env r cs (fun x hx=>hf x (aq _ hx)) h;refine⟨cl,?_,h1,h2,fun x hx=>?_⟩
   ·rw[List.forIn_cons];have e2:(k==NameKind.free)=false:=by simpa using hk
    simp only[e2,Bool.false_eq_true,if_false,pure_bind];exact e
   ·rcases List.mem_cons.mp hx with z | hx
    ·cases z
     exact absurd rfl hk
    ·exact h3 x hx
theorem wH{scope:Scope}{env:Env}(hf:∀ x,(x,NameKind.free)∈scope.names->∃ c,env.cells.lookup x=some c) :
  ∃ cl:List (Str×Addr),closureFor scope env=pure cl/\(∀ p∈cl,env.cells.lookup p.1=some p.2)/\∀ x,(x,NameKind.free)∈scope.names->∃ c,(x,c)∈cl:=by
 obtain⟨cl,e,h1,_,h3⟩:=rP env scope.names [] hf (fun _ z=>nomatch z);refine⟨cl,?_,h1,h3⟩;unfold closureFor
 first
  | exact e
  | (show(do let cs <- forIn scope.names ([]:List (Str×Addr)) _;pure cs:Sem _)=_;rw[e];rfl)
  | (simp only[];rw[e];rfl)
section
variable {prog:Program}{w:World}{A:Around}{R:Result->Shared->Prop}{s:Shared}
theorem J8{elt target iter:Expr}{ifs:List Expr}{scope:Scope}{pos:Pos}{it acc:Value}{env:Env}(I:Nat->Shared->Prop)
  (turn:∀ n s,I n s->wpAny (model prog w) A (pyNext it) (fun r s₁=>match r with
   | none=>R (.ok .next) s₁
   | some v=>wpAny (model prog w) A (letOwnedTupleGo target it v) (fun _ s₀=>wpAny (model prog w) A (assign target env v) (fun _ s₂ =>
     wpAny (model prog w) A (forIn ifs true fun c r=>if r=true then do let ok <- isTrue c env (eval c env);pure (ForInStep.yield ok) else pure (ForInStep.yield r)) (fun ok s₃ =>
      if ok=true then wpAny (model prog w) A (eval elt env) (fun x s₄ =>
       wpAny (model prog w) A (call (.builtin "list.append") [acc,x]) (fun _ s₅=>∃ m,m<n/\I m s₅) (fun _ _=>False) s₄) (fun _ _=>False) s₃
      else ∃ m,m<n/\I m s₃) (fun _ _=>False) s₂) (fun _ _=>False) s₀) (fun _ _=>False) s₁) (fun _ _=>False) s)
  (n:Nat) (h:I n s) :
  codeAny (model prog w) A (.compLoop (.ListComp elt [⟨target,iter,ifs,0⟩] scope pos) 0 it acc env) R s:=by
 have ff:∀ {E:Value->Shared->Prop} (x:Value) (s:Shared),False->E x s:=fun _ _ z=>z.elim
 refine codeAny_loop rfl I (fun n s hI=>?_) n h;show wpAny _ A ((compTurn (.ListComp elt [⟨target,iter,ifs,0⟩] scope pos) 0 it acc env).onRaise (fun x=>do noteFrame x env;theTreesLotGoes x)) _ _ s
 refine wpAny_noted ?_;rw[compTurn_list];refine ae (wpAny_standAt (ae (wpAny_mono (turn n s hI) (fun r s₁ h₁=>?_) ff)))
 cases r with
 | none=>exact af h₁
 | some v =>
  refine ae (wpAny_mono h₁ (fun _ s₀ h₀=>?_) ff);refine ae (wpAny_mono h₀ (fun _ s₂ h₂=>ae (wpAny_mono h₂ (fun ok s₃ h₃=>?_) ff)) ff)
  cases ok with
  | true =>
   simp only[if_true]at h₃ ⊢;refine ae (ae (wpAny_mono h₃ (fun x s₄ h₄=>ae (wpAny_mono h₄ (fun _ s₅ h₅=>af (af ⟨rfl,h₅⟩)) ff)) ff))
  | false =>
   simp only[Bool.false_eq_true,if_false]at h₃ ⊢;exact af ⟨rfl,h₃⟩
end
def aX(X:Cx)(scope:Scope)(cl:List (Str×Addr))(C:Addr)(NC:List Str)(s2:Shared)(H2:Hp)(pins:List (Addr×Obj))(fp:List Addr):Cx where
 prog:=X.prog
 w:=X.w
 K:=X.K
 mg:=X.mg
 base:=X.base
 A:=X.A
 N:=NC
 s₀:=s2
 H₀:=H2
 env:=compEnvC scope cl C X.env
 outer:=X.stack
 stack:=X.stack
 ex:=fp
 fn:=fun _=>false
 calm:=X.calm
 pn:=X.pn++pins
 xe:=fun _ _=>False
theorem nL{cl:List (Str×Addr)}{x:Str}{c:Addr}(h:cl.lookup x=some c):(x,c)∈cl:=PySem.mem_of_lookup h
theorem Mg{cl:List (Str×Addr)}{x:Str}:∀ {c:Addr},(x,c)∈cl->∃ c',cl.lookup x=some c':=by
 induction cl with
 | nil=>intro c h;cases h
 | cons p r ih =>
  intro c h;rw[List.lookup_cons]
  cases hx:x==p.1 with
  | true=>exact⟨_,rfl⟩
  | false =>
   rcases List.mem_cons.mp h with e | h
   ·subst e;simp at hx
   ·exact ih h
theorem wW{env:Env}:∀ {names:List (Str×NameKind)} {x:Str},(∀ y∈names,y.2≠.cell) ->
  ((names.map fun(n,k)=>if (k==NameKind.free&&env.scope.kind==.function&&env.kindOf n==some .cell) then (n,NameKind.cell) else (n,k)).lookup x=some .cell \/
    (names.map fun(n,k)=>if (k==NameKind.free&&env.scope.kind==.function&&env.kindOf n==some .cell) then (n,NameKind.cell) else (n,k)).lookup x=some .free)->(x,NameKind.free)∈names
 | [],x,_,h=>by simp at h
 | (n,k)::r,x,hc,h=>by
  have ih:=@wW env r x (fun y hy=>hc y (aq _ hy))
  by_cases hk:(k==NameKind.free&&env.scope.kind==.function&&env.kindOf n==some .cell)=true
  ·have kf:k=.free:=by
    rw[Bool.and_eq_true,Bool.and_eq_true]at hk;exact eq_of_beq hk.1.1
   subst kf;simp only[au,hk,if_true,List.lookup_cons]at h
   cases hx:x==n with
   | true =>
    have:x=n:=eq_of_beq hx
    subst this;exact List.mem_cons_self
   | false =>
    simp only[hx]at h;exact aq _ (ih h)
  ·have hk':(k==NameKind.free&&env.scope.kind==.function&&env.kindOf n==some .cell)=false:=by simpa using hk
   simp only[au,hk',Bool.false_eq_true,if_false,List.lookup_cons]at h
   cases hx:x==n with
   | true =>
    have:x=n:=eq_of_beq hx
    subst this;simp only[hx]at h;have hne:=hc (x,k) List.mem_cons_self
    rcases h with h | h
    ·exact absurd (Option.some.inj h) hne
    ·have:k=.free:=Option.some.inj h
     subst this;exact List.mem_cons_self
   | false =>
    simp only[hx]at h;exact aq _ (ih h)
section
variable {X:Cx}{pins:List (Addr×Obj)}{σ:L2.St}{H2:Hp}{s2:Shared}{scope:Scope}{cl:List (Str×Addr)}{NC:List Str}{fp:List Addr}{C:Addr}
theorem D6(I2:Inv X pins σ H2 s2)(hf:∀ b∈fp,cK X pins H2 b)(hob:∀ b∈fp,∃ o,s2.heap.get? b=some o/\∀ v,o.data≠.cell v)(hkind:scope.kind=.function)(hcell:∀ y∈scope.names,y.2≠.cell)
  (hcl1:∀ p∈cl,X.env.cells.lookup p.1=some p.2) (hcl2:∀ x,(x,NameKind.free)∈scope.names->∃ c,(x,c)∈cl) (hC:s2.heap.objs.size<=C):(aX X scope cl C NC s2 H2 pins fp).Ok:=by
 have lk:∀ x c,cl.lookup x=some c->X.env.cells.lookup x=some c:=fun x c h=>hcl1 (x,c) (nL h)
 refine⟨I2.ok.mod,hkind,I2.ok.glob,I2.ok.blt,hC,fun x y c h1 h2=>I2.ok.inj x y c (lk x c h1) (lk y c h2),fun x hx=>?_,fun x c h=>absurd (show false=true from h) am,I2.ok.hd,I2.ok.frames,.inl rfl,fun b hb=>⟨?_,fun x c h=>?_⟩,fun b o e=>I2.bs b o e,
  Nat.le_trans I2.ok.bsz I2.sz,fun b o e hb=>?_,fun b hb hs=>?_,I2.stack,I2.stkFree⟩
 ·obtain⟨c,hc⟩:=hcl2 x (wW (env:=X.env) hcell hx);exact Mg hc
 ·obtain⟨o,ho,_⟩:=hob b hb;exact ao (aj (ag ho) hC)
 ·exact(hf b hb).2.2.2.2.1 x c (lk x c h)
 ·rcases (hf b hb).2.2.2.1 with z | z
  ·exact I2.ok.noex b o e z
  ·exact absurd (aj (ag e) (Nat.le_trans I2.ok.bsz z)) (Nat.lt_irrefl _)
 ·rcases List.mem_cons.mp (I2.stkSub b hs) with z | z
  ·exact(hf b hb).2.1 z
  ·exact(hf b hb).2.2.1 z
theorem Gp{o0:HO}{σ':L2.St}{h₁:Heap}{tk:Nat}{mm:Str->Option Value}(I2:Inv X pins σ H2 s2)(hf:∀ b∈fp,cK X pins H2 b)(hob:∀ b∈fp,∃ o,s2.heap.get? b=some o/\∀ v,o.data≠.cell v)(hkind:scope.kind=.function)(hcell:∀ y∈scope.names,y.2≠.cell)
  (hcl1:∀ p∈cl,X.env.cells.lookup p.1=some p.2) (hcl2:∀ x,(x,NameKind.free)∈scope.names->∃ c,(x,c)∈cl)
  (hlen:σ'.length=NC.length) (hσ:∀ (i:Nat) (x:Str) (v:V),NC[i]?=some x->σ'[i]?=some (some v)->gX (relabel scope X.env) x->((relabel scope X.env).names.lookup x=some .cell\/(relabel scope X.env).names.lookup x=some .free)/\(X.env.kindOf x=some .cell\/X.env.kindOf x=some .free)/\∃ j:Nat,X.N[j]?=some x/\σ[j]?=some (some v))
  (hC:C=s2.heap.objs.size+1) (hns:h₁.Ns C mm) (hk:∀ b u,s2.heap.get? b=some u->h₁.get? b=some u)
  (hO:ObjOk X.prog X.w (upd H2 s2.heap.objs.size o0) h₁ s2.heap.objs.size o0) :
  Inv (aX X scope cl C NC s2 H2 pins fp) [] σ' (upd H2 s2.heap.objs.size o0) {s2 with heap:=h₁,toks:=tk}:=by
 have lk:∀ x c,cl.lookup x=some c->X.env.cells.lookup x=some c:=fun x c h=>hcl1 (x,c) (nL h)
 have hn:H2 s2.heap.objs.size=none:=I2.hok.fresh (ak _)
 have le1:s2.heap.objs.size<=C:=by rw[hC];exact Nat.le_succ _
 have ne1:C≠s2.heap.objs.size:=by rw[hC];exact Nat.succ_ne_self _
 have hCn:H2 C=none:=I2.hok.fresh le1
 have neD:∀ b o,s2.heap.get? b=some o->b≠s2.heap.objs.size:=fun b o e=>ao (ag e)
 refine⟨D6 I2 hf hob hkind hcell hcl1 hcl2 le1,rfl,I2.bare,Un.laid hk (ak _) hn,⟨mm,hns,fun i x v h1 h2 h3=>?_⟩,fun x c h=>?_,?_,fun x c h=>?_,fun p hp=>?_,?_,hlen⟩
 ·obtain⟨hy,hx,j,hj,hv⟩:=hσ i x v h1 h2 h3;obtain⟨m,hnX,hl⟩:=I2.loc;have vis:gX X.env.scope x:=by rcases hx with z | z;exact .inr (.inl z);exact .inr (.inr z)
  obtain⟨u,r,l⟩:=hl j x v hj hv vis;refine⟨u,r,.inr ⟨hy,?_⟩⟩;obtain⟨c',hc'⟩:=hcl2 x (wW (env:=X.env) hcell hy);obtain⟨c,hc⟩:=Mg hc';refine⟨c,hc,?_⟩;rcases l with⟨z,_⟩ | ⟨_,c2,e2,o,ho,hd⟩
  ·rcases hx with q | q
   ·rw[z]at q;cases q
   ·rw[z]at q;cases q
  ·have:=lk x c hc
   rw[e2]at this
   cases this
   exact⟨o,hk _ o ho,hd⟩
 ·obtain⟨v,o,ho,hd⟩:=I2.cell x c (lk x c h);exact⟨v,o,hk _ o ho,hd⟩
 ·show upd H2 s2.heap.objs.size o0 C=none
  rw[bF ne1];exact hCn
 ·obtain⟨v,o,ho,hd⟩:=I2.cell x c (lk x c h);rw[bF (neD c o ho)];exact I2.freeC x c (lk x c h)
 ·have hp':p∈X.pn++pins:=by
   rcases List.mem_append.mp hp with z | z
   ·exact z
   ·cases z
  obtain⟨e,n,ne,nf,d⟩:=I2.pin p hp';refine⟨hk _ _ e,by rw[bF (neD _ _ e)];exact n,?_,fun z=>?_,d⟩
  ·show p.1≠C
   exact ao (aj (ag e) le1)
  ·rcases List.mem_cons.mp (I2.stkSub p.1 z) with q | q
   ·exact ne q
   ·exact nf q
 ·exact I2.hok.laid hk (ak _) hO
theorem He{σ':L2.St}{h₁:Heap}{tk:Nat}{mm:Str->Option Value}(I2:Inv X pins σ H2 s2)(hf:∀ b∈fp,cK X pins H2 b)(hob:∀ b∈fp,∃ o,s2.heap.get? b=some o/\∀ v,o.data≠.cell v)(hkind:scope.kind=.function)(hcell:∀ y∈scope.names,y.2≠.cell)
  (hcl1:∀ p∈cl,X.env.cells.lookup p.1=some p.2) (hcl2:∀ x,(x,NameKind.free)∈scope.names->∃ c,(x,c)∈cl)
  (hlen:σ'.length=NC.length) (hσ:∀ (i:Nat) (x:Str) (v:V),NC[i]?=some x->σ'[i]?=some (some v)->gX (relabel scope X.env) x->((relabel scope X.env).names.lookup x=some .cell\/(relabel scope X.env).names.lookup x=some .free)/\(X.env.kindOf x=some .cell\/X.env.kindOf x=some .free)/\∃ j:Nat,X.N[j]?=some x/\σ[j]?=some (some v))
  (hC:C=s2.heap.objs.size+1) (hns:h₁.Ns C mm) (hk:∀ b u,s2.heap.get? b=some u->h₁.get? b=some u)
  (hD:h₁.get? s2.heap.objs.size=some {cls:=.type "list",data:=.seq ([]:List Value).toArray}) :
  Inv (aX X scope cl C NC s2 H2 pins fp) [] σ' (upd H2 s2.heap.objs.size (.lst [])) {s2 with heap:=h₁,toks:=tk} :=
 Gp I2 hf hob hkind hcell hcl1 hcl2 hlen hσ hC hns hk ⟨Nat.zero_le _,[],0,.nil,hD⟩
theorem sW{py:List (Addr×Obj)}{σ'':L2.St}{H':Hp}{s':Shared}{h':Heap}(I2:Inv X pins σ H2 s2)(hf:∀ b∈fp,cK X pins H2 b)(Iy:Inv (aX X scope cl C NC s2 H2 pins fp) py σ'' H' s')(hC:s2.heap.objs.size<=C)(hs:Heap.SameBut C s'.heap h') :
  Inv X pins σ H' {s' with heap:=h'}:=by
 have u:Un (gJ X.stack) fp H2 H' s2.heap s'.heap:=Iy.base
 have neC:∀ b o,s2.heap.get? b=some o->b≠C:=fun b o e=>ao (aj (ag e) hC)
 have fC:H' C=none:=Iy.free
 refine I2.call' (s':={s' with heap:=h'}) (ch:=fp) Iy.os ⟨fun b o e n hb hx=>(hs.2 b (neC b o e)).trans (u.keep b o e n hb hx),fun b o e n hb hx=>?_,u.free,fun b o e hx=>?_,u.tups,u.frzs,u.tbls⟩ (fun b o e=>?_) Iy.bare fun b hb=>?_
 ·obtain⟨sl,q⟩:=u.slot b o e n hb hx;exact⟨sl,(hs.2 b (neC b o e)).trans q⟩
 ·obtain⟨o',q⟩:=u.there b o e hx;exact⟨o',(hs.2 b (neC b o e)).trans q⟩
 ·refine(Iy.hok b o e).stay (fun c v hc q=>(hs.2 c ?_).trans q) (fun _ q=>q) (fun _ _ q=>q) fun _ _ _ q=>q;rintro rfl;rcases hc with rfl | hc
  ·rw[fC]at e;cases e
  ·rw[fC]at hc;cases hc
 ·obtain⟨_,f1,_,f3,f4,f5⟩:=hf b hb;exact⟨f3,f1,f4,f5⟩
end
section
variable {K:ad}{Z Y:Addr->Prop}{m m':Mu}{H H':Hp}
mutual
theorem RP.tr0(ht:∀ a vs,SqT K H a vs->SqT K H' a vs)(hl:∀ a vs,(m a=none/\¬ Z a)->SqL K H a vs->(m' a=none/\¬ Y a)/\SqL K H' a vs)(hf:∀ a o u,H a=some (.frz o u)->H' a=some (.frz o u)):∀ (p:PyData) (v:V),RP K Z m H p v->RP K Y m' H' p v
 | .none,v,h=>by simpa only[RP] using h
 | .bool _,v,h=>by simpa only[RP] using h
 | .int _,v,h=>by simpa only[RP] using h
 | .str _,v,h=>by simpa only[RP] using h
 | .tuple xs,v,h=>by
  simp only[RP]at h ⊢;obtain⟨a,vs,h1,h2,h3⟩:=h;exact⟨a,vs,h1,ht a vs h2,RPs.tr0 ht hl hf xs vs h3⟩
 | .list xs,v,h=>by
  simp only[RP]at h ⊢;obtain⟨a,vs,h1,h2,h3,h4⟩:=h;obtain⟨q1,q2⟩:=hl a vs h2 h3;exact⟨a,vs,h1,q1,q2,RPs.tr0 ht hl hf xs vs h4⟩
 | .dict kvs,v,h=>by
  simp only[RP]at h ⊢;obtain⟨a,o,u,vs,h1,h2,h3,h4⟩:=h;exact⟨a,o,u,vs,h1,hf a o u h2,h3,RPd.tr0 ht hl hf kvs _ h4⟩
theorem RPd.tr0(ht:∀ a vs,SqT K H a vs->SqT K H' a vs)(hl:∀ a vs,(m a=none/\¬ Z a)->SqL K H a vs->(m' a=none/\¬ Y a)/\SqL K H' a vs)(hf:∀ a o u,H a=some (.frz o u)->H' a=some (.frz o u)):∀ (xs:List (PyData×PyData)) (vs:List (PyData×V)),RPd K Z m H xs vs->RPd K Y m' H' xs vs
 | [],vs,h=>by simpa only[RPd] using h
 | (k,p)::xs,vs,h=>by
  simp only[RPd]at h ⊢;obtain⟨v,r,h1,h2,h3⟩:=h;exact⟨v,r,h1,RP.tr0 ht hl hf p v h2,RPd.tr0 ht hl hf xs r h3⟩
theorem RPs.tr0(ht:∀ a vs,SqT K H a vs->SqT K H' a vs)(hl:∀ a vs,(m a=none/\¬ Z a)->SqL K H a vs->(m' a=none/\¬ Y a)/\SqL K H' a vs)(hf:∀ a o u,H a=some (.frz o u)->H' a=some (.frz o u)):∀ (xs:List PyData) (vs:List V),RPs K Z m H xs vs->RPs K Y m' H' xs vs
 | [],vs,h=>by simpa only[RPs] using h
 | x::xs,vs,h=>by
  simp only[RPs]at h ⊢;obtain⟨v,r,h1,h2,h3⟩:=h;exact⟨v,r,h1,RP.tr0 ht hl hf x v h2,RPs.tr0 ht hl hf xs r h3⟩
end
theorem RP.tr(ht:∀ a vs,SqT K H a vs->SqT K H' a vs)(hl:∀ a vs,(m a=none/\¬ Z a)->SqL K H a vs->(m' a=none/\¬ Y a)/\SqL K H' a vs)(p:PyData)(v:V)(h:RP K Z m H p v)(hf:∀ a o u,H a=some (.frz o u)->H' a=some (.frz o u):=by first | exact fun _ _ _ q=>q | exact Ext.fz ‹_› | (intro a o u q;first | (rw[bF (by rintro rfl;simp_all)];exact q) | (unfold upd;split<;>simp_all))):RP K Y m' H' p v:=RP.tr0 ht hl hf p v h
theorem RPs.tr(ht:∀ a vs,SqT K H a vs->SqT K H' a vs)(hl:∀ a vs,(m a=none/\¬ Z a)->SqL K H a vs->(m' a=none/\¬ Y a)/\SqL K H' a vs)(p:List PyData)(v:List V)(h:RPs K Z m H p v)(hf:∀ a o u,H a=some (.frz o u)->H' a=some (.frz o u):=by first | exact fun _ _ _ q=>q | exact Ext.fz ‹_› | (intro a o u q;first | (rw[bF (by rintro rfl;simp_all)];exact q) | (unfold upd;split<;>simp_all))):RPs K Y m' H' p v:=RPs.tr0 ht hl hf p v h
def aO(Z:Addr->Prop)(D:Addr):Addr->Prop:=fun a=>Z a\/a=D
variable {D:Addr}{ys zs:List V}
theorem Lq(hD:H D=none)(hk:K.lookup D=none):∀ a vs,(m a=none/\¬ Z a)->SqL K H a vs->(m a=none/\¬ aO Z D a)/\SqL K (upd H D (.lst ys)) a vs:=fun a vs h1 h2 =>
 ⟨⟨h1.1,fun z=>z.elim h1.2 (SqL.ne hD hk h2)⟩,(cC hD).seq h2⟩
theorem mK(hD:H D=some (.lst ys)):∀ a vs,SqT K H a vs->SqT K (upd H D (.lst zs)) a vs:=fun b xs h=>by
 rcases h with (h | ⟨o,h⟩) | h
 ·have ne:b≠D:=by rintro rfl;rw[hD]at h;cases h
  exact .inl (.inl (by rw[bF ne];exact h))
 ·have ne:b≠D:=by rintro rfl;rw[hD]at h;cases h
  exact .inl (.inr ⟨o,by rw[bF ne];exact h⟩)
 ·exact .inr h
theorem xX{a:Addr}{vs:List V}(ne:a≠D)(h:SqL K H a vs):SqL K (upd H D (.lst zs)) a vs:=by
 rcases h with (h | ⟨o,h⟩) | h
 ·exact .inl (.inl (by rw[bF ne];exact h))
 ·exact .inl (.inr ⟨o,by rw[bF ne];exact h⟩)
 ·exact .inr h
theorem qR:∀ a vs,(m a=none/\¬ aO Z D a)->SqL K H a vs->(m a=none/\¬ aO Z D a)/\SqL K (upd H D (.lst zs)) a vs:=fun a vs h1 h2 =>
 ⟨h1,xX (fun e=>h1.2 (.inr e)) h2⟩
end
section
variable {K:ad}{Z:Addr->Prop}{m m1 m':Mu}{H H1 H':Hp}{D:Addr}{ys zs:List V}
theorem My{x:DL.D}{v:V}(hD:H D=none)(hk:K.lookup D=none)(h:RD K Z m H x v):RD K (aO Z D) m (upd H D (.lst ys)) x v:=by
 cases x with
 | dat p=>exact RP.tr (fun a vs q=>SqT.same (cC hD) q) (Lq hD hk) p v h
 | cel a=>exact h
theorem Rr{x:DL.D}{v:V}(hD:H D=some (.lst ys))(h:RD K (aO Z D) m H x v):RD K (aO Z D) m (upd H D (.lst zs)) x v:=by
 cases x with
 | dat p=>exact RP.tr (mK hD) qR p v h
 | cel a=>exact h
theorem Gc(ok:Ok K Z m H)(hD:H D=none)(hk:K.lookup D=none):Ok K (aO Z D) m (upd H D (.lst ys)):=by
 refine⟨fun a c h=>?_,fun a h=>?_⟩
 ·obtain⟨o,h1,h2⟩:=ok.g a c h;have ne:a≠D:=by rintro rfl;rw[hD]at h1;cases h1
  exact⟨o,by rw[bF ne];exact h1,h2.lift fun p v q=>RP.tr (fun a vs q=>SqT.same (cC hD) q) (Lq hD hk) p v q⟩
 ·rcases h with h | h
  ·have ne:a≠D:=by rintro rfl;exact(ok.z a h).2 hD
   exact⟨(ok.z a h).1,by rw[bF ne];exact(ok.z a h).2⟩
  ·subst h;exact⟨(eY ok hD).1,by rw[cA];intro z;cases z⟩
theorem Dq(ok:Ok K (aO Z D) m H)(hD:H D=some (.lst ys)):Ok K (aO Z D) m (upd H D (.lst zs)):=by
 refine⟨fun a c h=>?_,fun a h=>?_⟩
 ·obtain⟨o,h1,h2⟩:=ok.g a c h;have ne:a≠D:=by
   rintro rfl;have:=(ok.z a (.inr rfl)).1
   rw[h]at this
   cases this
  exact⟨o,by rw[bF ne];exact h1,h2.lift fun p v q=>RP.tr (mK hD) qR p v q⟩
 ·by_cases e:a=D
  ·subst e;exact⟨(ok.z a h).1,by rw[cA];intro z;cases z⟩
  ·exact⟨(ok.z a h).1,by rw[bF e];exact(ok.z a h).2⟩
theorem yD(ok:Ok K (aO Z D) m H):Ok K Z m H:=by
 refine⟨fun a c h=>?_,fun a h=>ok.z a (.inl h)⟩;obtain⟨o,h1,h2⟩:=ok.g a c h;exact⟨o,h1,h2.lift fun p v q=>RP.tr (fun _ _ q=>q) (fun a vs q1 q2=>⟨⟨q1.1,fun z=>q1.2 (.inl z)⟩,q2⟩) p v q⟩
theorem jK(e:Ext K Z m1 H1 m H)(hD:H1 D=none)(hk:K.lookup D=none)(e2:Ext K (aO Z D) m H m' H'):Ext K Z m1 H1 m' H' :=
 ⟨fun a vs h=>e2.t a vs (e.t a vs h),fun a vs h1 h2=>let ⟨q1,q2⟩:=e.l a vs h1 h2;e2.l a vs ⟨q1,fun z=>z.elim h1.2 (SqL.ne hD hk h2)⟩ q2,fun a h=>(e2.z a (.inl h)).trans (e.z a h),fun a h=>e2.c a (e.c a h),fun a o u h=>e2.fz a o u (e.fz a o u h),fun a h=>by
  have q:=e.fm a h
  rw[e2.fm a (by rw[q];exact h),q]⟩
theorem V7(e:Ext K Z m1 H1 m H)(ok1:Ok K Z m1 H1)(hD:H1 D=none)(hk:K.lookup D=none)(hH:H D=some (.lst ys)):Ext K Z m1 H1 m (upd H D (.lst zs)) :=
 ⟨fun a vs h=>mK hH a vs (e.t a vs h),fun a vs h1 h2=>let ⟨q1,q2⟩:=e.l a vs h1 h2;⟨q1,xX (SqL.ne hD hk h2) q2⟩,fun a h=>by
  have ne:a≠D:=by rintro rfl;exact(ok1.z a h).2 hD
  rw[bF ne];exact e.z a h,e.c,fun a o u h=>by
  have q:=e.fz a o u h
  rw[bF (by rintro rfl;rw[hH]at q;cases q)]
  exact q,e.fm⟩
end
def dR(g:DG)(t:DT)(f:DE):List D->List PyData->bI->Mu->(List PyData->Mu->Prop)->Prop
 | [],acc,_,m,Q=>Q acc m
 | x::xs,acc,d,m,Q=>g x d m fun d1 m1=>t d1 m1 fun b m2=>if b=true then f d1 m2 fun y m3=>∃ p,y=.dat p/\acc.length<sizeLine/\dR g t f xs (acc++[p]) d1 m3 Q else dR g t f xs acc d1 m2 Q
def bP{α:Type}(src:List (Option Nat))(d:List (Option α)):List (Option α):=src.map fun o=>o.bind fun j=>(d[j]?).join
@[simp] def cW(src:List (Option Nat))(fi:DI)(g:DG)(t:DT)(f:DE):DE:=fun d m Q=>fi d m fun xs m1=>dR g t f xs [] (bP src d) m1 fun ps m2=>Q (.dat (.list ps)) m2
def PF(Y:Cx)(ifs:List Expr)(t:TT):Prop:=∀ (pins:List (Addr×Obj)) (s:Shared) (σ:L2.St) (H:Hp) (Q:Bool->Hp->Prop),Inv Y pins σ H s->t σ H Q ->
 wpAny (model Y.prog Y.w) Y.A (forIn ifs true fun c r=>if r=true then do let ok <- isTrue c Y.env (eval c Y.env);pure (ForInStep.yield ok) else pure (ForInStep.yield r)) (TP Y pins σ Q) Y.xe s
@[simp] def cX:DT:=fun _ m Q=>Q true m
theorem u5{Y:Cx}:PF Y [] (LT Y.K cX):=fun pins s σ H Q I h=>by
 obtain⟨Z,d,m,R,ok,rs,h,k⟩:=h;exact wpAny_tests_nil ⟨H,I,k true m H h Ext.refl ok⟩
theorem BB{Y:Cx}{c:Expr}{t:TT}(h:PT Y c t):PF Y [c] t:=fun pins s σ H Q I q=>wpAny_tests_one (h pins s σ H Q I q)
theorem wN{K:ad}{Z:Addr->Prop}{m:Mu}{H:Hp}{d:bI}{σ:L2.St}(src:List (Option Nat))(rs:RS K Z m H d σ):RS K Z m H (bP src d) (bP src σ):=by
 refine⟨by unfold bP;rw[av,av],fun i x h=>?_⟩
 unfold bP at h ⊢;rw[List.getElem?_map]at h ⊢
 cases e:src[i]? with
 | none=>rw[e]at h;cases h
 | some o =>
  rw[e]at h
  cases o with
  | none=>cases h
  | some j =>
   have h':(d[j]?).join=some x:=Option.some.inj h
   cases ej:d[j]? with
   | none=>rw[ej]at h';cases h'
   | some w =>
    rw[ej]at h';have h2:w=some x:=h'
    subst h2;obtain⟨v,q1,q2⟩:=rs.2 j x ej;exact⟨v,by rw[Option.map_some,Option.bind_some,q1];rfl,q2⟩
theorem yG{α:Type}{src:List (Option Nat)}{d:List (Option α)}{i:Nat}{v:α}(h:(bP src d)[i]?=some (some v)):∃ j:Nat,src[i]?=some (some j)/\d[j]?=some (some v):=by
 unfold bP at h;rw[List.getElem?_map]at h
 cases e:src[i]? with
 | none=>rw[e]at h;cases h
 | some o =>
  rw[e]at h
  cases o with
  | none=>cases h
  | some j =>
   have h':(d[j]?).join=some v:=Option.some.inj h
   cases ej:d[j]? with
   | none=>rw[ej]at h';cases h'
   | some w =>
    rw[ej]at h';have h2:w=some v:=h'
    subst h2;exact⟨j,rfl,ej⟩
theorem uG{K:ad}{Z:Addr->Prop}{m1 m':Mu}{H1 H':Hp}{D:Addr}{x:DL.D}{v:V}(hD:H1 D=none)(hk:K.lookup D=none)(e:Ext K Z m1 H1 m' H')(h:RD K Z m1 H1 x v):RD K (aO Z D) m' H' x v:=by
 cases x with
 | dat p=>exact RP.tr e.t (fun a vs h1 h2=>let ⟨q1,q2⟩:=e.l a vs h1 h2;⟨⟨q1,fun z=>z.elim h1.2 (SqL.ne hD hk h2)⟩,q2⟩) p v h
 | cel a=>exact⟨h.1,e.c a h.2⟩
section
variable {X:Cx}{tg iter elt:Expr}{ifs:List Expr}{scope:Scope}{NC:List Str}{fi:DI}{g:DG}{t:DT}{f:DE}{pos:Pos}
def jN(X:Cx)(scope:Scope)(NC:List Str)(src:List (Option Nat)):Prop:=NC.length=src.length/\∀ (i:Nat) (x:Str) (j:Nat),NC[i]?=some x->src[i]?=some (some j)->X.N[j]?=some x/\(x,NameKind.free)∈scope.names /\
 ((relabel scope X.env).names.lookup x=some .cell\/(relabel scope X.env).names.lookup x=some .free)
structure Off (X:Cx) (pins:List (Addr×Obj)) (H:Hp) (C:Addr):Prop where
 h:H C=none
 l:C≠X.env.locals
 s:X.s₀.heap.objs.size<=C
 c:∀ x c,X.env.cells.lookup x=some c->c≠C
 p:∀ p∈X.pn++pins,p.1≠C
theorem Off.inv{pins:List (Addr×Obj)}{σ:L2.St}{H:Hp}{s:Shared}{C:Addr}{h':Heap}(o:Off X pins H C)(I:Inv X pins σ H s)(hs:Heap.SameBut C s.heap h'):Inv X pins σ H {s with heap:=h'} :=
 I.turned (t':=s.toks) (it:=C) (fun b ob hb e=>(hs.2 b hb).trans e) o.h o.l (.inr o.s) o.c o.p
def CA(K:ad)(Z:Addr->Prop)(m:Mu)(H:Hp)(xs:List D)(J:It):Prop:=∀ m2 H2,Ext K Z m H m2 H2 ->
 (∀ (i:Nat) (x:D),xs[i]?=some x->J.go i H2/\∀ v H3,J.yld i H2 v H3->Yld K Z m H x v H2 H3)/\J.stop xs.length H2
theorem N7{wi:TI}(src:List (Option Nat))(hc:X.calm=true)(hi:PI X tg iter wi)
  (hg:∀ cl C s2 H2 pins fp,PG (aX X scope cl C NC s2 H2 pins fp) tg (LG X.K g)) (ht:∀ cl C s2 H2 pins fp,PF (aX X scope cl C NC s2 H2 pins fp) ifs (LT X.K t)) (he:∀ cl C s2 H2 pins fp,PE (aX X scope cl C NC s2 H2 pins fp) elt (LE X.K f))
  (hkind:scope.kind=.function) (hcell:∀ y∈scope.names,y.2≠.cell) (hnames:∀ y∈scope.names,y.2=.local->scope.names.lookup y.1=some .local)
  (hfree:∀ x,(x,NameKind.free)∈scope.names->X.env.kindOf x=some .cell\/X.env.kindOf x=some .free) (hsrc:jN X scope NC src)
  (hs:∀ x,foldedSetIterable iter X.env x=pure x) {use:Option (Value->Sem Unit)} {QQ:Value->Shared->Prop} {pos':Pos} {pins:List (Addr×Obj)} {s:Shared} {σ:L2.St} {H:Hp} {Z:Addr->Prop} {d:bI} {m:Mu} {RL:List PyData->Mu->Prop}
  (I:Inv X pins σ H s) (ok:Ok X.K Z m H) (rs:RS X.K Z m H d σ) (h:wi σ H fun J H1=>∃ xs m1,Ext X.K Z m H m1 H1/\Ok X.K Z m1 H1/\CA X.K Z m1 H1 xs J/\dR g t f xs [] (bP src d) m1 RL)
  (fin:∀ (s5:Shared) (C D:Addr) (H':Hp) (m':Mu) (ps:List PyData),RL ps m'->Ext X.K Z m H m' H'->Ok X.K Z m' H'->RD X.K Z m' H' (.dat (.list ps)) (.ref D)->(∃ mm,s5.heap.Ns C mm)->Inv X pins σ H' s5->Off X pins H' C->(m' D=none/\Ext X.K Z m H (aW m' D (.l ps)) H'/\Ok X.K Z (aW m' D (.l ps)) H') ->
   compPost (model X.prog X.w) X.A X.xe use QQ (.ref D) C (.ok .next) s5) :
  wpAny (model X.prog X.w) X.A (comprehension (.ListComp elt [⟨tg,iter,ifs,0⟩] scope pos) scope X.env pos' (newList []) false (eval iter X.env) use) QQ X.xe s:=by
 obtain⟨cl,hclos,hcl1,hcl2⟩:=wH (scope:=scope) (env:=X.env) fun x hx=>I.ok.has x (hfree x hx);refine wpAny_comprehension_free (use:=use) rfl hs hclos hkind hnames ?_;refine aS (hi pins s σ H _ I h) fun xv s₁ h₁=>aS h₁ fun itv s₂ h₂=>?_;obtain⟨it,fp,tn,J,H2,eit,I2,T,st2,f2,xs,m1,e1,ok1,yl,lp⟩:=h₂;subst eit;refine wpAny_newObj_type (wpAny_newFunctionEnv hcell (by intro y hy;simp at hy) (fun h₁ hns₁ hsb₁=>?_) hkind)
 dsimp only at hns₁ hsb₁ ⊢
 generalize hH2:s₂.heap.push {cls:=.type "list",dict:=none,data:=.seq ([]:List Value).toArray}=HP at hns₁ hsb₁ ⊢
 have hC:HP.objs.size=s₂.heap.objs.size+1:=by rw[<- hH2,Heap.size_push]
 have leC:s₂.heap.objs.size<=HP.objs.size:=by rw[hC];exact Nat.le_succ _
 have old:∀ b o,s₂.heap.get? b=some o->h₁.get? b=some o:=fun b o e=>hsb₁.extBut b o (ao (aj (ag e) leC)) (ah _ (hH2▸ah _ e))
 have hacc:h₁.get? s₂.heap.objs.size=some {cls:=.type "list",data:=.seq ([]:List Value).toArray}:=hsb₁.extBut _ _ (by rw[hC];exact ao (Nat.lt_succ_self _)) (ah _ (hH2▸ai _ rfl))
 have hD:H2 s₂.heap.objs.size=none:=I2.hok.fresh (ak _)
 have hkD:X.K.lookup s₂.heap.objs.size=none:=by
  cases e:X.K.lookup s₂.heap.objs.size with
  | none=>rfl
  | some o=>exact absurd (ag (I2.kIn _ o e)) (Nat.lt_irrefl _)
 have obf:∀ b∈fp,∃ o,s₂.heap.get? b=some o/\∀ v,o.data≠.cell v:=T.obj 0 _ st2
 have hσ:∀ (i:Nat) (x:Str) (v:V),NC[i]?=some x->(bP src σ)[i]?=some (some v)->gX (relabel scope X.env) x->((relabel scope X.env).names.lookup x=some .cell\/(relabel scope X.env).names.lookup x=some .free)/\(X.env.kindOf x=some .cell\/X.env.kindOf x=some .free)/\∃ j:Nat,X.N[j]?=some x/\σ[j]?=some (some v):=fun i x v h1 h2 _=>by
  obtain⟨j,q1,q2⟩:=yG h2;obtain⟨a1,a2,a3⟩:=hsrc.2 i x j h1 q1;exact⟨a3,hfree x a2,j,a1,q2⟩
 have I4:=fun tk=>He (cl:=cl) (NC:=NC) (σ':=bP src σ) (tk:=tk) I2 f2 obf hkind hcell hcl1 hcl2 (by unfold bP;rw[av];exact hsrc.1.symm) hσ hC hns₁ old hacc
 have st4:tn 0 h₁:=T.keep 0 _ _ st2 fun b _ o e=>old b o e
 -- the loop
 have loop:∀ s₃:Shared,s₃={s₂ with heap:=h₁,toks:=s₂.toks+([]:List (Str×Value)).length} ->
   codeAny (model X.prog X.w) X.A (.compLoop (.ListComp elt [⟨tg,iter,ifs,0⟩] scope pos) 0 (.ref it) (.ref s₂.heap.objs.size) (compEnvC scope cl HP.objs.size X.env))
    (compPost (model X.prog X.w) X.A X.xe use QQ (.ref s₂.heap.objs.size) HP.objs.size) s₃:=by
  rintro s₃ rfl;refine J8 (fun n s'=>∃ (i:Nat) (ys:List V) (acc:List PyData) (d':bI) (m':Mu) (σ':L2.St) (H':Hp),n=xs.length-i/\i<=xs.length/\Inv (aX X scope cl HP.objs.size NC s₂ H2 pins fp) [] σ' H' s'/\tn i s'.heap/\(∀ b∈fp,H' b=none) /\
   H' s₂.heap.objs.size=some (.lst ys)/\RPs X.K (aO Z s₂.heap.objs.size) m' H' acc ys/\Ext X.K Z m1 H2 m' H'/\Ok X.K (aO Z s₂.heap.objs.size) m' H'/\RS X.K (aO Z s₂.heap.objs.size) m' H' d' σ' /\
   dR g t f (xs.drop i) acc d' m' RL) ?_ xs.length ?_
  rotate_left
  ·have rs1:RS X.K Z m1 H2 (bP src d) (bP src σ):=wN src (rs.ext e1)
   refine⟨0,[],[],bP src d,m1,bP src σ,_,by simp,Nat.zero_le _,I4 _,st4,fun b hb=>?_,cA,by simp[RPs],ok1.ext (cC hD),Gc ok1 hD hkD,⟨rs1.1,fun i x hx=>?_⟩,by simpa using lp⟩
   ·obtain⟨o,ho,_⟩:=obf b hb;rw[bF (ao (ag ho))];exact(f2 b hb).1
   ·obtain⟨v,q1,q2⟩:=rs1.2 i x hx;exact⟨v,q1,My hD hkD q2⟩
  rintro n s4 ⟨i,ys,acc,d',m',σ',H',rfl,hi',I5,st5,fr5,hDy,racc,eX,ok5,rs5,lp5⟩;have stat:∀ b∈fp,cK (aX X scope cl HP.objs.size NC s₂ H2 pins fp) [] H' b:=fun b hb=>by
   obtain⟨g0,g1,g2,g3,g4,g5⟩:=f2 b hb;obtain⟨o,ho,_⟩:=obf b hb;refine⟨fr5 b hb,ao (aj (ag ho) leC),fun z=>?_,.inl hb,fun x c e=>g4 x c (hcl1 (x,c) (nL e)),fun p hp=>?_⟩
   ·rcases List.mem_cons.mp (I2.stkSub b z) with q | q
    ·exact g1 q
    ·exact g2 q
   ·rcases List.mem_append.mp hp with q | q
    ·exact g5 p q
    ·cases q
  obtain⟨y1,y2⟩:=yl m' H' eX
  by_cases hlt:i<xs.length
  ·rw[List.drop_eq_getElem_cons hlt]at lp5;obtain⟨go,yd⟩:=y1 i xs[i] (List.getElem?_eq_getElem hlt);refine aS (T.item (aX X scope cl HP.objs.size NC s₂ H2 pins fp) rfl rfl rfl hc i [] s4 σ' H' (fun _ _=>False) I5 stat st5 go) fun r s5 hq0=>?_;obtain⟨u,hr,h5⟩:=hq0;subst hr;refine aS h5 fun _ s6 hq0=>?_;obtain⟨x,H6,I6,r6,yy,st6,fr6⟩:=hq0;have yy':=yd x H6 yy
   have e56:Ext X.K (aO Z s₂.heap.objs.size) m' H' m' H6:=ok5.ext yy'.same
   have rv:=yy'.rd (fun d v h=>uG hD hkD eX h) ok5
   have hDy:=yy'.same _ _ hDy
   have racc:=RPs.ext e56 _ _ racc
   have eX:=jK eX hD hkD e56
   have rs5:=rs5.ext e56
   have ok5:=ok5.grow yy'.same
   have stat:∀ b∈fp,cK (aX X scope cl HP.objs.size NC s₂ H2 pins fp) [] H6 b:=fun b hb=>⟨fr6 b hb,(stat b hb).2⟩
   have I6':=I6.pinned stat (T.obj _ _ st6)
   -- what stands when a turn is over
   have over:∀ {s7:Shared} {σ7:L2.St} {H7:Hp} {ys7:List V} {acc7:List PyData} {d7:bI} {m7:Mu},Inv (aX X scope cl HP.objs.size NC s₂ H2 pins fp) ([]++kA fp s6.heap) σ7 H7 s7->H7 s₂.heap.objs.size=some (.lst ys7)->RPs X.K (aO Z s₂.heap.objs.size) m7 H7 acc7 ys7 ->
     Ext X.K Z m1 H2 m7 H7->Ok X.K (aO Z s₂.heap.objs.size) m7 H7->RS X.K (aO Z s₂.heap.objs.size) m7 H7 d7 σ7->(dR g t f (xs.drop (i+1)) acc7 d7 m7 RL) ->
     ∃ n,n<xs.length-i/\∃ (i:Nat) (ys:List V) (acc:List PyData) (d':bI) (m':Mu) (σ':L2.St) (H':Hp),n=xs.length-i/\i<=xs.length/\Inv (aX X scope cl HP.objs.size NC s₂ H2 pins fp) [] σ' H' s7/\tn i s7.heap/\(∀ b∈fp,H' b=none) /\
      H' s₂.heap.objs.size=some (.lst ys)/\RPs X.K (aO Z s₂.heap.objs.size) m' H' acc ys/\Ext X.K Z m1 H2 m' H'/\Ok X.K (aO Z s₂.heap.objs.size) m' H'/\RS X.K (aO Z s₂.heap.objs.size) m' H' d' σ' /\
      dR g t f (xs.drop i) acc d' m' RL:=by
    intro s7 σ7 H7 ys7 acc7 d7 m7 I7 a1 a2 a3 a4 a5 a6;refine⟨xs.length-(i+1),by omega,i+1,ys7,acc7,d7,m7,σ7,H7,rfl,hlt,I7.unpinned,T.keep _ _ _ st6 fun b hb o e=>(I7.pin (b,o) (List.mem_append_right _ (List.mem_append_right _ (iP hb e)))).1,fun b hb=>?_,a1,a2,a3,a4,a5,a6⟩
    obtain⟨o,e,dd⟩:=T.obj _ _ st6 b hb;exact(I7.pin (b,o) (List.mem_append_right _ (List.mem_append_right _ (iP hb e)))).2.1
   refine aS (hg cl _ s₂ H2 pins fp _ s6 σ' _ x u (fun σ7 H7=>∃ d7 m7,Ext X.K (aO Z s₂.heap.objs.size) m' H6 m7 H7/\Ok X.K (aO Z s₂.heap.objs.size) m7 H7/\RS X.K (aO Z s₂.heap.objs.size) m7 H7 d7 σ7 /\
    t d7 m7 fun b m2=>if b=true then f d7 m2 fun y m3=>∃ p,y=.dat p/\acc.length<sizeLine/\dR g t f (xs.drop (i+1)) (acc++[p]) d7 m3 RL else dR g t f (xs.drop (i+1)) acc d7 m2 RL) I6' r6
    ⟨_,xs[i],d',m',_,ok5,rs5,rv,lp5,fun d7 m7 σ7 H7 q7 e7 ok7 rs7=>⟨d7,m7,e7,ok7,rs7,q7⟩⟩) fun _ s7 hq0=>?_
   obtain⟨σ7,H7,I7,d7,m7,e7,ok7,rs7,q7⟩:=hq0;refine aS (ht cl _ s₂ H2 pins fp _ s7 σ7 H7 (fun b H8=>∃ m8,Ext X.K (aO Z s₂.heap.objs.size) m7 H7 m8 H8/\Ok X.K (aO Z s₂.heap.objs.size) m8 H8 /\
    if b=true then f d7 m8 fun y m3=>∃ p,y=.dat p/\acc.length<sizeLine/\dR g t f (xs.drop (i+1)) (acc++[p]) d7 m3 RL else dR g t f (xs.drop (i+1)) acc d7 m8 RL) I7
    ⟨_,d7,m7,_,ok7,rs7,q7,fun b m8 H8 q8 e8 ok8=>⟨m8,e8,ok8,q8⟩⟩) fun b s8 hq0=>?_
   obtain⟨H8,I8,m8,e8,ok8,q8⟩:=hq0;have e68:=e7.trans e8
   have hD8:H8 s₂.heap.objs.size=some (.lst ys):=(e68.z _ (.inr rfl)).trans hDy
   cases b with
   | false =>
    rw[if_neg am]at q8;exact over I8 hD8 (RPs.ext e68 _ _ racc) (jK eX hD hkD e68) ok8 (rs7.ext e8) q8
   | true =>
    rw[if_pos rfl]at q8;refine aS (he cl _ s₂ H2 pins fp _ s8 σ7 H8 (fun v H9=>∃ p m9,RP X.K (aO Z s₂.heap.objs.size) m9 H9 p v/\Ext X.K (aO Z s₂.heap.objs.size) m8 H8 m9 H9/\Ok X.K (aO Z s₂.heap.objs.size) m9 H9/\acc.length<sizeLine/\dR g t f (xs.drop (i+1)) (acc++[p]) d7 m9 RL) I8
     ⟨_,d7,m8,_,ok8,rs7.ext e8,q8,fun y m9 v H9 hq1 e9 ok9 r9=>by
      obtain⟨p,ey,hz,q9⟩:=hq1;subst ey;exact⟨p,m9,r9,e9,ok9,hz,q9⟩⟩) fun yv s9 hq0=>?_
    obtain⟨y,H9,I9,ry,p,m9,rp9,e9,ok9,hz,q9⟩:=hq0;have e69:=e68.trans e9
    have hD9:H9 s₂.heap.objs.size=some (.lst ys):=(e69.z _ (.inr rfl)).trans hDy
    have racc9:=RPs.ext e69 _ _ racc
    have rs9:=(rs7.ext e8).ext e9
    refine aS (xI _ s9 σ7 H9 (.ref s₂.heap.objs.size) [y] (.ref s₂.heap.objs.size) [yv] (fun v H10=>H10=upd H9 s₂.heap.objs.size (.lst (ys++[y]))) I9 rfl (.cons ry .nil) ⟨_,ys,y,rfl,rfl,hD9,by rw[racc9.length];exact hz,rfl⟩) fun rv s10 hq0=>?_
    obtain⟨v10,H10,I10,_,e10⟩:=hq0;subst e10;refine over I10 cA ?_ (V7 (jK eX hD hkD e69) ok1 hD hkD hD9) (Dq ok9 hD9) ⟨rs9.1,fun j z hj=>?_⟩ q9
    ·exact RPs.tr (mK hD9) qR _ _ (racc9.append (by simp only[RPs];exact⟨y,[],rfl,rp9,rfl⟩))
    ·obtain⟨v,a1,a2⟩:=rs9.2 j z hj;exact⟨v,a1,Rr hD9 a2⟩
  ·have e:i=xs.length:=by omega
   subst e;rw[List.drop_length]at lp5;refine aS (T.done (aX X scope cl HP.objs.size NC s₂ H2 pins fp) rfl rfl rfl hc _ [] s4 σ' H' (fun _ _=>False) I5 stat st5 y2) fun r s5 hq0=>?_;obtain⟨hr,I6⟩:=hq0;subst hr;have IX:=sW I2 f2 I6 leC (Heap.SameBut.refl _ _)
   have nz:¬ Z s₂.heap.objs.size:=fun z=>(ok1.z _ z).2 hD
   refine fin s5 HP.objs.size s₂.heap.objs.size H' m' acc lp5 (e1.trans eX) (yD ok5) ?_ ⟨_,I6.loc.choose_spec.1⟩ IX ⟨I6.free,Nat.ne_of_gt (aj I2.lt leC),Nat.le_trans I2.sz leC,fun x c e=>?_,fun p hp=>?_⟩ ⟨(ok5.z _ (.inr rfl)).1,?_,?_⟩
   ·simp only[RD,RP];exact⟨_,ys,rfl,⟨(ok5.z _ (.inr rfl)).1,nz⟩,.inl (.inl hDy),RPs.tr (fun _ _ q=>q) (fun a vs q1 q2=>⟨⟨q1.1,fun z=>q1.2 (.inl z)⟩,q2⟩) _ _ racc⟩
   ·obtain⟨v,q⟩:=I2.cell x c e;exact ao (aj q.lt leC)
   ·exact ao (aj (ag (I2.pin p hp).1) leC)
   ·refine⟨fun a vs q=>(e1.trans eX).t a vs q,fun a vs q1 q2=>?_,fun a q=>(e1.trans eX).z a q,fun a q=>?_,(e1.trans eX).fz,fun a q=>?_⟩
    ·obtain⟨_,q3⟩:=e1.l a vs q1 q2;have ne:=SqL.ne hD hkD q3
     obtain⟨q4,q5⟩:=(e1.trans eX).l a vs q1 q2;exact⟨by rw[cE ne];exact q4,q5⟩
    ·by_cases ea:a=s₂.heap.objs.size
     ·subst ea;rw[bM];rfl
     ·rw[cE ea];exact(e1.trans eX).c a q
    ·have fq:=(e1.trans eX).fm a q
     have ne:a≠s₂.heap.objs.size:=by
      rintro rfl;rw[(ok5.z _ (.inr rfl)).1]at fq;rw[<- fq]at q
      cases q
     rw[cE ne];exact fq
   ·have tr:∀ (a:Addr) (vs:List V),(m' a=none/\¬ aO Z s₂.heap.objs.size a)->SqL X.K H' a vs->(aW m' s₂.heap.objs.size (.l acc) a=none/\¬ Z a)/\SqL X.K H' a vs:=fun a vs q1 q2=>⟨⟨by rw[cE fun z=>q1.2 (.inr z)];exact q1.1,fun z=>q1.2 (.inl z)⟩,q2⟩
    refine⟨fun a c q=>?_,fun a q=>?_⟩
    ·by_cases ea:a=s₂.heap.objs.size
     ·subst ea;rw[bM]at q
      cases q
      exact⟨_,hDy,RPs.tr (fun _ _ q=>q) tr _ _ racc⟩
     ·rw[cE ea]at q;obtain⟨o,q1,q2⟩:=ok5.g a c q;exact⟨o,q1,q2.lift fun p v q3=>RP.tr (fun _ _ q=>q) tr p v q3⟩
    ·have ne:a≠s₂.heap.objs.size:=fun z=>nz (z▸q)
     obtain⟨q1,q2⟩:=ok5.z a (.inl q);exact⟨by rw[cE ne];exact q1,q2⟩
 exact codeAny_compStart_list (loop _ rfl) (T.self _ 0 _ _ _ st4 (loop _ rfl))
theorem Rj(src:List (Option Nat))(hc:X.calm=true)(hi:PI X tg iter (LI X.K fi))
  (hg:∀ cl C s2 H2 pins fp,PG (aX X scope cl C NC s2 H2 pins fp) tg (LG X.K g)) (ht:∀ cl C s2 H2 pins fp,PF (aX X scope cl C NC s2 H2 pins fp) ifs (LT X.K t)) (he:∀ cl C s2 H2 pins fp,PE (aX X scope cl C NC s2 H2 pins fp) elt (LE X.K f))
  (hkind:scope.kind=.function) (hcell:∀ y∈scope.names,y.2≠.cell) (hnames:∀ y∈scope.names,y.2=.local->scope.names.lookup y.1=some .local)
  (hfree:∀ x,(x,NameKind.free)∈scope.names->X.env.kindOf x=some .cell\/X.env.kindOf x=some .free) (hsrc:jN X scope NC src)
  (hs:∀ x,foldedSetIterable iter X.env x=pure x) {use:Option (Value->Sem Unit)} {QQ:Value->Shared->Prop} {pos':Pos} {pins:List (Addr×Obj)} {s:Shared} {σ:L2.St} {H:Hp} {Z:Addr->Prop} {d:bI} {m:Mu} {RL:List PyData->Mu->Prop}
  (I:Inv X pins σ H s) (ok:Ok X.K Z m H) (rs:RS X.K Z m H d σ) (h:fi d m fun xs m1=>dR g t f xs [] (bP src d) m1 RL)
  (fin:∀ (s5:Shared) (C D:Addr) (H':Hp) (m':Mu) (ps:List PyData),RL ps m'->Ext X.K Z m H m' H'->Ok X.K Z m' H'->RD X.K Z m' H' (.dat (.list ps)) (.ref D)->(∃ mm,s5.heap.Ns C mm)->Inv X pins σ H' s5->Off X pins H' C->(m' D=none/\Ext X.K Z m H (aW m' D (.l ps)) H'/\Ok X.K Z (aW m' D (.l ps)) H') ->
   compPost (model X.prog X.w) X.A X.xe use QQ (.ref D) C (.ok .next) s5) :
  wpAny (model X.prog X.w) X.A (comprehension (.ListComp elt [⟨tg,iter,ifs,0⟩] scope pos) scope X.env pos' (newList []) false (eval iter X.env) use) QQ X.xe s :=
 N7 src hc hi hg ht he hkind hcell hnames hfree hsrc hs I ok rs ⟨Z,d,m,_,ok,rs,h,fun xs m1 H1 J q e1 ok1 y1=>⟨xs,m1,e1,ok1,fun m2 H2 e=>y1 m2 H2 e.y,q⟩⟩ fin
theorem Xr(src:List (Option Nat))(hc:X.calm=true)(hi:PI X tg iter (LI X.K fi))
  (hg:∀ cl C s2 H2 pins fp,PG (aX X scope cl C NC s2 H2 pins fp) tg (LG X.K g)) (ht:∀ cl C s2 H2 pins fp,PF (aX X scope cl C NC s2 H2 pins fp) ifs (LT X.K t)) (he:∀ cl C s2 H2 pins fp,PE (aX X scope cl C NC s2 H2 pins fp) elt (LE X.K f))
  (hkind:scope.kind=.function) (hcell:∀ y∈scope.names,y.2≠.cell) (hnames:∀ y∈scope.names,y.2=.local->scope.names.lookup y.1=some .local)
  (hfree:∀ x,(x,NameKind.free)∈scope.names->X.env.kindOf x=some .cell\/X.env.kindOf x=some .free) (hsrc:jN X scope NC src)
  (hs:∀ x,foldedSetIterable iter X.env x=pure x:=by intro _;rfl) :
  PE X (.ListComp elt [⟨tg,iter,ifs,0⟩] scope pos) (LE X.K (cW src fi g t f)):=by
 intro pins s σ H Q I h;obtain⟨Z,d,m,R,ok,rs,h,k⟩:=h;rw[eval_ListComp];refine Rj src hc hi hg ht he hkind hcell hnames hfree hsrc hs (use:=none) (QQ:=EP X pins σ Q) (RL:=fun ps m2=>R (.dat (.list ps)) m2) I ok rs h ?_;intro s5 C D H' m' ps q e ok' rd ⟨mm,hns⟩ I5 off hcl;exact⟨mm,hns,fun h' hs'=>⟨.ref D,H',off.inv I5 hs',rfl,k _ m' _ H' q e ok' rd⟩⟩
theorem g9(i:Nat){y:Str}{py spos:Pos}(src:List (Option Nat))(hc:X.calm=true)(hi:PI X tg iter (LI X.K fi))
  (hg:∀ cl C s2 H2 pins fp,PG (aX X scope cl C NC s2 H2 pins fp) tg (LG X.K g)) (ht:∀ cl C s2 H2 pins fp,PF (aX X scope cl C NC s2 H2 pins fp) ifs (LT X.K t)) (he:∀ cl C s2 H2 pins fp,PE (aX X scope cl C NC s2 H2 pins fp) elt (LE X.K f))
  (hkind:scope.kind=.function) (hcell:∀ y∈scope.names,y.2≠.cell) (hnames:∀ y∈scope.names,y.2=.local->scope.names.lookup y.1=some .local)
  (hfree:∀ x,(x,NameKind.free)∈scope.names->X.env.kindOf x=some .cell\/X.env.kindOf x=some .free) (hsrc:jN X scope NC src)
  (hN:X.N.Nodup) (hi2:X.N[i]?=some y:=by rfl) (hx:hU X.env.scope y:=by first | exact Or.inl rfl | exact Or.inr rfl) (hf:X.fn y=true\/X.env.scope.names.lookup y=some .local:=by first | exact .inl rfl | exact .inr rfl)
  (hsw:swapsWith (.ListComp elt [⟨tg,iter,ifs,0⟩] scope pos) (some (.Name y py)) spos.line X.env=pure true:=by rfl)
  (hs:∀ x,foldedSetIterable iter X.env x=pure x:=by intro _;rfl) :
  PS X (.Assign [.Name y py] (.ListComp elt [⟨tg,iter,ifs,0⟩] scope pos) spos) (LS X.K (aZ i (cW src fi g t f))):=by
 intro pins s σ H E I h;obtain⟨Z,d,m,R,ok,rs,h,k,_⟩:=h;rw[exec_Assign_Name_used _ _ _ _ hsw];refine ae (wpAny_standAt (ae ?_));rw[arm_evalThenUse_ListComp];refine ae ?_;refine aS (Rj src hc hi hg ht he hkind hcell hnames hfree hsrc hs (use:=some (assign (.Name y py) X.env)) (QQ:=fun _ s'=>SP X pins E .next s') (RL:=fun ps m2=>R.nx (d.set i (some (.dat (.list ps)))) m2) I ok rs h ?_) (fun _ s' q=>af (af q));intro s5 C D H' m' ps q e ok' rd ⟨mm,hns⟩ I5 off hcl;show wpAny _ X.A (assign (.Name y py) X.env (.ref D)) _ _ s5
 refine wpAny_assign_Name (Hl I5 hN hi2 hx (v:=.ref D) rfl (fun s6 I6 ⟨a,hs6,ha⟩=>?_) hf);have ne:C≠a:=by
  rcases ha with rfl | ha
  ·exact off.l
  ·exact Ne.symm (off.c _ _ ha)
 refine⟨mm,hns.sameBut hs6 ne,fun h' hs'=>?_⟩;exact⟨_,H',off.inv I6 hs',k _ m' _ H' q e ok' ((rs.ext e).set rd)⟩
end
theorem Jl:Manifest.owners.lookup (String.ofList "desrever".toList.reverse)=some Manifest.sig_reversed:=by kernel_rfl
theorem mW:Slot "reversed" "__next__" "reversed.__next__":=.of (owner:="reversed") (n:="__next__") (by rw[typeLookup_type,builtinLookup_eq_fast];kernel_rfl) #[3] #[3] #[3] (by first | exact .inl #[3] | exact .inr #[3]) (by rw[isSubtype_type];kernel_rfl)
theorem Jf:entryFor table "reversed.__next__"=some Builtin.«reversed.__next__»:=entryFor_of_tree (by kernel_rfl)
theorem Qo(a:Value):argsOk "reversed.__next__" ⟨[a],[]⟩:=by
 unfold argsOk;rw[signature?_of (id:="reversed.__next__") (n:="__txen__".toList) (o:="desrever".toList) (by kernel_rfl) Jl]
 kernel_rfl
theorem Cj:Slot "reversed" "__iter__" "reversed.__iter__":=.of (owner:="reversed") (n:="__iter__") (by rw[typeLookup_type,builtinLookup_eq_fast];kernel_rfl) #[3] #[3] #[3] (by first | exact .inl #[3] | exact .inr #[3]) (by rw[isSubtype_type];kernel_rfl)
theorem E1(a:Value):argsOk "reversed.__iter__" ⟨[a],[]⟩:=by
 unfold argsOk;rw[signature?_of (id:="reversed.__iter__") (n:="__reti__".toList) (o:="desrever".toList) (by kernel_rfl) Jl]
 kernel_rfl
theorem AH:entryFor table "reversed.__iter__"=some Builtin.«dict_keyiterator.__iter__»:=entryFor_alias (id':="dict_keyiterator.__iter__") (by kernel_rfl) (by first | rfl | decide +kernel | (unfold String.splitOn;simp +decide [String.splitOnAux])) #[3] (by kernel_rfl)
theorem J1:typeLookup (.type "tuple") "__reversed__"=pure none:=by rw[typeLookup_type,builtinLookup_eq_fast];kernel_rfl
theorem Yr:isSubtype (.type "tuple") (.type "dict")=pure false:=by rw[isSubtype_type];kernel_rfl
theorem N8:Slot "reversed" "__init__" "object.__init__":=.of (owner:="object") (n:="__init__") (by rw[typeLookup_type,builtinLookup_eq_fast];kernel_rfl) #[3] #[3] #[3] (by first | exact .inl #[3] | exact .inr #[3]) (by rw[isSubtype_type];kernel_rfl)
theorem AZ:TypeCalled "reversed" "reversed.__new__" "object.__init__":=⟨by decide +kernel,F.create_reversed,⟨_,_,F.mro_reversed⟩,F.made_reversed,F.plain_reversed_new,F.sub_reversed_self,N8⟩
def wG(t:Addr)(i:Int):Obj:={cls:=.type "reversed",data:=.fields #[.ref t,rawInt i]}
theorem Ut(t:Addr)(items:Array Value):Meets (Builtin.«reversed.__new__» ⟨[.type "reversed",.ref t],[]⟩) (fun _ R s=>IsTup s.heap t items/\(items.size:Int)<2^63 /\
  R (.ok (.ret (.ref s.heap.objs.size))) {s with heap:=s.heap.push (wG t ((items.size:Int)-1)),toks:=s.toks+1+1}):=.of_wp fun prog w A R s hs=>by
 obtain⟨ht,hz,h⟩:=hs;unfold Builtin.«reversed.__new__»;refine ae (wpAny_of_eq (newClass_reversed _) ?_)
 try dsimp only
 refine ae (wpAny_of_eq (a:=()) (by first | rfl | kernel_rfl) (ae (wpAny_of_eq (a:=()) (by first | rfl | kernel_rfl) ?_)))
 try dsimp only
 refine ae (wpAny_specialOf ht.typeIs J1 ?_)
 try dsimp only
 refine ae ?_;show wpAny _ _ (isInstance (.ref t) (.type "dict")>>=_) _ _ s
 refine ae (wpAny_isInstance ht.typeIs Yr ?_);show wpAny _ _ (specialOf (.ref t) (Str.ofString "__getitem__")>>=_) _ _ s
 refine ae (wpAny_specialOf ht.typeIs PyProof.Rows.slot_tuple_getitem.lookup ?_);show wpAny _ _ (pure true) _ _ s
 refine af ?_;show wpAny _ _ (call (Value.builtin "len") [Value.ref t]>>=_) _ _ s
 refine ae (PyProof.Rows.len_tuple ht hz ?_);refine ae (af ?_);refine ae ?_;show wpAny _ _ (newObj (.type "reversed") (.fields #[.ref t,rawInt ((items.size:Int)-1)])) _ _ _
 exact wpAny_newObj_type (af ⟨_,rfl,h⟩)
section
variable {prog:Program}{w:World}{A:Around}{E:Value->Shared->Prop}{s:Shared}
theorem Vj{t:Addr}{items:Array Value}{Q:Value->Shared->Prop}(ht:IsTup s.heap t items)(hz:(items.size:Int)<2^63)
  (h:Q (.ref s.heap.objs.size) {s with heap:=s.heap.push (wG t ((items.size:Int)-1)),toks:=s.toks+1+1}):wpAny (model prog w) A (call (.type "reversed") [.ref t]) Q E s :=
 callType_new AZ #[1] (F.typeCall_reversed_1 _) (F.newCall_reversed_1 _) (fun obj=>F.args_object_init_2 obj _) F.entry_reversed_new (Ut t items) ⟨ht,hz,⟨_,ai _ rfl,rfl⟩,h⟩
def IsRv(h:Heap)(a t:Addr)(i:Int):Prop:=∃ o,h.get? a=some o/\o.cls=.type "reversed"/\o.data=.fields #[.ref t,rawInt i]
theorem IsRv.typeIs{a t:Addr}{i:Int}(x:IsRv s.heap a t i):s.TypeIs (.ref a) "reversed":=let ⟨o,ho,hc,_⟩:=x;⟨o,ho,hc⟩
theorem O2{it t:Addr}{i:Nat}{items:Array Value}{x:Value}{Q:Option Value->Shared->Prop}(hit:IsRv s.heap it t (i:Int))(ht:IsTup s.heap t items)(hz:(items.size:Int)<2^63)(hx:items[i]?=some x)
  (hQ:∀ h' tk,IsRv h' it t ((i:Int)-1)->Heap.SameBut it s.heap h'->Q (some x) {s with heap:=h',toks:=tk}):wpAny (model prog w) A (pyNext (.ref it)) Q E s:=by
 obtain⟨o,ho,hc,hd⟩:=id hit;have hi:i<items.size:=(Array.getElem?_eq_some_iff.mp hx).1
 unfold pyNext;refine ae (wpAny_attempt (wpAny_callSpecial?_slot (name:=Str.ofString "__next__") hit.typeIs mW (wpAny_call_entry mW hit.typeIs Jf ?_ (Qo _))));unfold Builtin.«reversed.__next__»;refine ae (wpAny_of_eq (a:=(Value.ref it,[])) rfl ?_)
 try dsimp only
 refine ae (wpAny_field ho hd (x:=.ref t) rfl ?_);refine ae (wpAny_field ho hd (x:=rawInt (i:Int)) rfl ?_);show wpAny _ _ (if (i:Int)<0 then _ else _) _ _ s
 rw[if_neg #[0]]
 refine ae (wpAny_specialOf ht.typeIs PyProof.Rows.slot_tuple_getitem.lookup ?_)
 try dsimp only
 rw[if_neg #[2]]
 refine ae (wpAny_mkInt (ae (wpAny_attempt (getItem_tuple (j:=i) ht #[0] #[0] ?_ hx ?_))))
 ·unfold seqIndex?;have h0:¬ ((i:Int)<0):=by omega
  simp[h0,hi]
 ·try dsimp only
  refine ae (wpAny_field ho hd (x:=rawInt (i:Int)) rfl ?_);show wpAny _ _ (setField (.ref it) 1 (rawInt ((i:Int)-1))>>=_) _ _ _
  refine ae (wpAny_setField ho hd #[2] ?_)
  refine af ⟨x,rfl,af (hQ _ _ ?_ (Heap.SameBut.update ..))⟩;refine⟨_,Heap.get?_update_self _ ho (Obj.isFreed_of_fields (Obj.data_mapFields hd _)),(Obj.cls_mapFields ..).trans hc,?_⟩;rw[Obj.data_mapFields hd];simp
theorem Ty{it t:Addr}{Q:Option Value->Shared->Prop}(hh:A.handled=none)(hit:IsRv s.heap it t (-1))
  (hQ:∀ h',Heap.ExtBut it s.heap h'->Q none {s with heap:=h'}):wpAny (model prog w) A (pyNext (.ref it)) Q E s:=by
 obtain⟨o,ho,hc,hd⟩:=id hit;unfold pyNext;refine ae (wpAny_attempt (wpAny_callSpecial?_slot (name:=Str.ofString "__next__") hit.typeIs mW (wpAny_call_entry mW hit.typeIs Jf ?_ (Qo _))));unfold Builtin.«reversed.__next__»;refine ae (wpAny_of_eq (a:=(Value.ref it,[])) rfl ?_)
 try dsimp only
 refine ae (wpAny_field ho hd (x:=.ref t) rfl ?_);refine ae (wpAny_field ho hd (x:=rawInt (-1)) rfl ?_);show wpAny _ _ (if (-1:Int)<0 then _ else _) _ _ s
 rw[if_pos #[1]]
 refine ae (wpAny_rule ?_);refine ae ?_;show wpAny _ _ (setField (.ref it) 1 (rawInt (-1))>>=_) _ _ _
 refine ae (wpAny_setField ho hd #[2] ?_)
 have ho1:=Heap.get?_update_self (Obj.mapFields (·.setIfInBounds 1 (rawInt (-1)))) ho (Obj.isFreed_of_fields (Obj.data_mapFields hd _))
 refine wpAny_setField ho1 (Obj.data_mapFields hd _) #[2] ?_
 refine ae ?_;have eb:∀ f g:Obj->Obj,Heap.ExtBut it s.heap ((s.heap.update it f).update it g):=fun f g b o' hb e=>by
  rw[(Heap.SameBut.update ..).2 b hb,(Heap.SameBut.update ..).2 b hb];exact e
 show wpAny _ _ (newExc (.type "StopIteration") []>>=_) _ _ _
 refine ae ?_;simp only[newExc,newTuple];refine ae (wpAny_newObj_type ?_ (by size_fits))
 refine ae (m:=firstArgMember _ _) (wpAny_of_eq (a:=Value.none) (by first | rfl | (simp only[firstArgMember];rfl)) ?_)
 refine wpAny_newObj_type ?_ (by size_fits)
 simp only[raiseNew];refine ae (wpAny_handled ?_)
 first | rw[show A.in1.handled=none from hh] | rw[hh]
 refine ae (af (wpAny_throw ?_));refine ae (wpAny_isInstance (T:="StopIteration") (b:=true) ⟨_,ai _ rfl,rfl⟩ isSubtype_stop ?_);exact af (hQ _ (((eb _ _).push _).push _))
theorem Be{it t:Addr}{i:Int}{Q:Value->Shared->Prop}(hit:IsRv s.heap it t i)(h:Q (.ref it) s):wpAny (model prog w) A (pyIter (.ref it)) Q E s:=by
 refine wpAny_pyIter_slot hit.typeIs Cj (wpAny_call_entry Cj hit.typeIs AH ?_ (E1 _));show wpAny _ _ (ret (.ref it)) _ _ s
 exact af ⟨_,rfl,"reversed",_,hit.typeIs,mW.lookup,h⟩
end
def T0(K:ad)(a:Addr)(n:Nat):It :=
 ⟨fun i H=>i<n/\∃ xs,SqT K H a xs/\xs.length=n,fun i H x H'=>H'=H/\∀ xs,SqT K H a xs->xs[n-1-i]?=some x,fun i _=>i=n⟩
theorem T7{P:Program}{w:World}{K:ad}{tg:Expr}(a it:Addr)(n:Nat):Turn P w K tg (T0 K a n) [it] it (fun i h=>i<=n/\IsRv h it a ((n:Int)-1-(i:Int))) where
 mem:=by simp
 obj:=fun i h st b hb=>by
  have e:b=it:=by simpa using hb
  subst e;obtain⟨_,o,e,c,d⟩:=st;exact⟨o,e,fun v z=>by rw[d]at z;cases z⟩
 keep:=fun i h h' st k=>⟨st.1,let ⟨o,e,r⟩:=st.2;⟨o,k it #[2] o e,r⟩⟩
 item:=by
  intro X hP hw hK hc i pins s σ H E I hf st hg;subst hP hw hK;obtain⟨hi,xs,hq,hn⟩:=hg;obtain⟨its,rv,p,hz⟩:=I.tuple hq;have hl:=rv.length
  have hx:xs[n-1-i]?=some (xs[n-1-i]'#[0]):=List.getElem?_eq_getElem #[0]
  obtain⟨u,hu,ru⟩:=rv.get hx;obtain⟨f0,f1,f2,f3,f4,f5⟩:=hf it #[2]
  have e1:(n:Int)-1-(i:Int)=((n-1-i:Nat):Int):=by omega
  have st2:=st.2
  rw[e1]at st2;have hn:=iY
  refine O2 st2 p (by rw[ay];omega) (x:=u) #[4,hu] fun h' tk st' sb=>?_
  have I1:Inv X pins σ H {s with heap:=h',toks:=tk}:=I.turned (fun b o hb e=>(sb.2 b hb).trans e) f0 f1 f3 f4 f5
  obtain⟨o,e,c,d⟩:=id st';have e2:((n-1-i:Nat):Int)-1=(n:Int)-1-((i+1:Nat):Int):=by omega
  exact⟨u,rfl,nY (s:={s with heap:=h',toks:=tk}) e c d #[1] ⟨_,H,I1,ru,⟨rfl,fun ys hy=>by rw[I.tuple_inj hy hq];exact hx⟩,⟨hi,by rw[<- e2];exact st'⟩,fun b hb=>(hf b hb).1⟩⟩
 done:=by
  intro X hP hw hK hc i pins s σ H E I hf st hg;subst hP hw hK;have hg':i=n:=hg
  subst hg';obtain⟨f0,f1,f2,f3,f4,f5⟩:=hf it #[2]
  have e1:(i:Int)-1-(i:Int)=-1:=by omega
  have st2:=st.2
  rw[e1]at st2;exact Ty (I.ok.hd hc) st2 fun h' eb=>⟨rfl,I.turned (t':=s.toks) (fun b o hb e=>eb b o hb e) f0 f1 f3 f4 f5⟩
 self:=fun _ _ _ _ _ st h=>Be st.2 h
theorem Xl(l:Addr)(items:Array Value)(x:Value)(e:Value->Bool)(j:Nat)(hj:j<items.size)(hit:e items[j]=true)(hno:∀ m (hm:m<items.size),m<j->e items[m]=false) :
  Meets (Builtin.«tuple.index» ⟨[.ref l,x],[]⟩) (fun A R s=>IsTup s.heap l items/\(∀ y,y∈items->SeqAt.EqAt A.in1 s y x (e y))/\R (.ok (.ret (.int j s.toks))) {s with toks:=s.toks+1}) :=
 .of_wp fun prog w A R s h=>by
  obtain⟨ht,he,h⟩:=h;unfold Builtin.«tuple.index»;refine ae (wpAny_of_eq (a:=(Value.ref l,[x])) rfl ?_)
  try dsimp only
  refine ae (tupleItemsOf_ ht ?_)
  try dsimp only
  refine ae (af (ae (af ?_)));rw[Nat.min_self,Std.Legacy.Range.forIn_eq_forIn_range'];refine ae (wpAny_forIn_list _ (fun rest b s'=>s'=s/\∃ k,k<=j/\rest=List.range' k (items.size-k)) _ ?_ ?_ _ _ ?_)
  ·rintro i rest b s' ⟨rfl,k,hk,hr⟩;have hlt:k<items.size:=by omega
   obtain⟨n,hn⟩:∃ n,items.size-k=n+1:=⟨items.size-k-1,by omega⟩
   rw[hn,List.range'_succ]at hr;obtain⟨rfl,rfl⟩:=List.cons.inj hr;have hx:items[i]?=some items[i]:=Array.getElem?_eq_getElem hlt
   simp only[hx];refine ae (he _ (Array.getElem_mem hlt) prog w _ _ ?_)
   by_cases hij:i=j
   ·subst hij;rw[hit];exact ae (ae (wpAny_mkInt (af (af (af ⟨_,rfl,h⟩)))))
   ·rw[hno i hlt #[0]]
    exact af ⟨rfl,i+1,by omega,by congr 1;omega⟩
  ·rintro b s' ⟨rfl,k,hk,hr⟩;have:=congrArg List.length hr
   rw[List.length_range']at this;simp at this;omega
  ·exact⟨rfl,0,Nat.zero_le _,by simp[Std.Legacy.Range.size]⟩
theorem uR:∀ {zs:List Str} {us:List Value},Vals (zs.map V.str) us->∀ i (h:i<us.length) (h2:i<zs.length),∃ t,us[i]=.str zs[i] t
 | [],_,.nil,i,h,_=>absurd h (Nat.not_lt_zero _)
 | z::zs,_,.cons r t,0,_,_=>let ⟨k,e⟩:=r;⟨k,e⟩
 | z::zs,_,.cons r t,i+1,h,h2=>uR t i (Nat.lt_of_succ_lt_succ h) (Nat.lt_of_succ_lt_succ h2)
theorem vN{y:Str}:∀ (zs:List Str) (m:Nat) (h:m<zs.length),m<zs.idxOf y->zs[m]≠y
 | [],_,h,_=>absurd h (Nat.not_lt_zero _)
 | z::zs,0,_,h=>by
  intro e;rw[List.getElem_cons_zero]at e;rw[e,List.idxOf_cons_self]at h;exact absurd h (Nat.lt_irrefl _)
 | z::zs,m+1,hl,h=>by
  rw[List.getElem_cons_succ];refine vN zs m (Nat.lt_of_succ_lt_succ hl) ?_;rw[List.idxOf_cons]at h
  cases e:z==y with
  | true=>simp[e]at h
  | false=>simp[e]at h;omega
section
variable {X:Cx}{a e o:Expr}{es:List Expr}{f g:DE}{ga:DA}{pos p p1 p2:Pos}
def Vb(K:ad):V->List V->Hp->VK->Prop:=fun x xs H Q=>∃ (a:Addr) (y:Str) (zs:List Str),x=.ref a/\xs=[.str y]/\SqT K H a (zs.map V.str)/\y∈zs/\Q (.int (zs.idxOf y:Nat)) H
theorem Ig:MtR X "tuple.index" (Vb X.K):=by
 intro pins s σ H x xs v us Q I rx rs ⟨a,y,zs,e1,e2,hq,hk,q⟩;subst e1 e2
 cases rx
 obtain⟨u,rfl,ru⟩:=eR rs;obtain⟨tk,rfl⟩:=id ru;obtain⟨its,rv,p,hz⟩:=I.tuple hq;have hl:=rv.length
 rw[av]at hl;have hj:zs.idxOf y<zs.length:=List.idxOf_lt_length_iff.mpr hk
 have hit:∀ m (hm:m<its.toArray.size) (hm2:m<zs.length),gE (.str y) its.toArray[m]=(zs[m]==y):=fun m hm hm2=>by
  obtain⟨t,e⟩:=uR rv m #[4,hm] hm2
  have e':its.toArray[m]=.str zs[m] t:=by simpa using e
  rw[e'];rfl
 have hfl:(zs.map V.str).all gC=true:=by
  rw[List.all_eq_true];intro v hv;obtain⟨z,_,rfl⟩:=List.mem_map.mp hv;rfl
 refine call_meets PySem.F.slot_tuple_index p.typeIs PySem.F.entry_tuple_index (PySem.F.args_tuple_index_2 _ _) (Xl a its.toArray (.str y tk) (gE (.str y)) (zs.idxOf y) (by rw[ay];omega) ?_ ?_) ⟨p,?_,?_⟩
 ·rw[hit _ _ hj,List.getElem_idxOf hj];simp
 ·intro m hm hlt;have hm2:m<zs.length:=by omega
  rw[hit m hm hm2];simp only[beq_eq_false_iff_ne];exact vN _ _ hm2 hlt
 ·exact fun w hw=>mR (x:=.str y) ⟨tk,rfl⟩ rfl rv hfl w #[4,hw]
 ·exact⟨.int _,H,I.tok _,⟨_,rfl⟩,q⟩
theorem kW{K:ad}{Z:Addr->Prop}{m:Mu}{H:Hp}:∀ {zs:List Str} {vs:List V},RPs K Z m H (zs.map PyData.str) vs->vs=zs.map V.str
 | [],vs,h=>by simpa[RPs] using h
 | z::zs,vs,h=>by
  simp only[au,RPs]at h;obtain⟨v,r,rfl,h1,h2⟩:=h;simp only[RP]at h1;subst h1;rw[kW h2];rfl
theorem pF{K:ad}{Z:Addr->Prop}{m:Mu}{H:Hp}:∀ (zs:List Str),RPs K Z m H (zs.map PyData.str) (zs.map V.str)
 | []=>by simp[RPs]
 | z::zs=>by
  simp only[au,RPs];exact⟨_,_,rfl,by simp only[RP],pF zs⟩
def KT(K:ad)(a:Addr)(zs:List Str):Prop:=∃ (o:Obj) (its:Array Value) (n:Nat),K.lookup a=some o/\o.cls=.type "tuple"/\o.dict=none/\o.data=.seq its n/\its.size<=sizeLine/\Vals (zs.map V.str) its.toList
theorem KT.sq{K:ad}{a:Addr}{zs:List Str}{H:Hp}(h:KT K a zs):SqT K H a (zs.map V.str):=by
 obtain⟨o,its,n,h1,h2,h3,h4,h5,h6⟩:=h;exact .inr ⟨o,its,n,h1,⟨h2,h3⟩,h4,h5,h6⟩
theorem Rz{x:Str}{c:Addr}{zs:List Str}(hg:Gl X x)(hm:X.mg x=some (.ref c))(hk:KT X.K c zs)(hd:(x==("__debug__" : Str))=false:=by decide):PE X (.Name x pos) (LE X.K (aE (.tuple (zs.map .str)))) :=
 PE.imp (Ol (v:=.ref c) hg hm rfl hd) fun s H Q h=>by
  obtain⟨Z,d,m,R,ok,rs,h,k⟩:=h;refine k _ m _ H h Ext.refl ok ?_;simp only[RD,RP];exact⟨c,_,rfl,hk.sq,pF zs⟩
@[simp] def oN(zs:List Str)(g:DE):DE:=fun d m Q=>g d m fun y m1=>∃ z:Str,y=.dat (.str z)/\z∈zs/\Q (.dat (.int (zs.idxOf z:Nat))) m1
theorem i6{x:Str}{c:Addr}{zs:List Str}{apos cpos:Pos}(hg:Gl X x)(hm:X.mg x=some (.ref c))(hk:KT X.K c zs)(he:PE X e (LE X.K g))(hd:(x==("__debug__" : Str))=false:=by decide)
  (hbase:attributeBase (.Name x p) "index" X.env (eval (.Name x p) X.env)=eval (.Name x p) X.env:=by rfl)
  (hfew:((backTo cpos (starEach [e] X.env)).all (fun x=>!x.1)&&(backToKw cpos (keywordEach [] X.env)).all (fun x=>x.1.isSome)&&decide ([e].length+([]:List Keyword).length+(if ([]:List Keyword).isEmpty then 0 else 1)<30))=true:=by rfl)
  (hline:(apos.endLine==cpos.line)=true:=by rfl) (hs:starEach [e] X.env=(false,eval e X.env)::starEach [] X.env:=by rfl):PE X (.Call (.Attribute (.Name x p) "index" apos) [e] [] cpos) (LE X.K (oN zs g)) :=
 PE.imp (Lz (T:="tuple") (id:="tuple.index") (name:="index") PySem.F.plainAttrs_tuple PySem.F.slot_tuple_index PySem.F.type_tuple_index Ig (Ol (v:=.ref c) hg hm rfl hd) (jY he kX hs) hbase hfew hline hs rfl) fun s H Q h=>by
  obtain⟨Z,d,m,R,ok,rs,h,k⟩:=h;obtain⟨o,its,n,h1,h2,h3,_⟩:=id hk;refine⟨.inr (.inl ⟨rfl,o,h1,h2,h3⟩),?_⟩;refine⟨Z,d,m,_,ok,rs,h,fun y m1 v H1 ⟨z,ey,hz,q⟩ e1 ok1 rd=>?_⟩;subst ey
  cases rd.str
  exact⟨c,z,zs,rfl,rfl,hk.sq,hz,k _ m1 _ H1 q e1 ok1 .ofInt⟩
@[simp] def lS:D2
 | .dat (.str x),.dat (.list ys),m,Q=>∃ zs:List Str,ys=zs.map .str/\Q (.dat (.bool (decide (x∈zs)))) m
 | .dat (.str x),.dat (.tuple ys),m,Q=>∃ zs:List Str,ys=zs.map .str/\Q (.dat (.bool (decide (x∈zs)))) m
 | .dat (.bool x),.dat (.list ys),m,Q=>∃ zs:List Bool,ys=zs.map .bool/\Q (.dat (.bool (decide (x∈zs)))) m
 | .dat (.bool x),.dat (.tuple ys),m,Q=>∃ zs:List Bool,ys=zs.map .bool/\Q (.dat (.bool (decide (x∈zs)))) m
 | .dat (.int x),.dat (.list ys),m,Q=>∃ zs:List Int,ys=zs.map .int/\Q (.dat (.bool (decide (x∈zs)))) m
 | .dat (.int x),.dat (.tuple ys),m,Q=>∃ zs:List Int,ys=zs.map .int/\Q (.dat (.bool (decide (x∈zs)))) m
 | _,_,_,_=>False
theorem tN(x:Str):∀ zs:List Str,jR (.str x) (zs.map V.str)=decide (x∈zs)
 | []=>rfl
 | z::zs=>by
  have ih:=tN x zs
  unfold jR at ih ⊢;rw[au,List.any_cons,ih];show(z==x||decide (x∈zs))=decide (x∈z::zs)
  rw[Bool.eq_iff_iff];simp only[Bool.or_eq_true,beq_iff_eq,decide_eq_true_eq,List.mem_cons];exact⟨fun h=>h.imp Eq.symm id,fun h=>h.imp Eq.symm id⟩
theorem Oz(zs:List Str):(zs.map V.str).all gC=true:=by
 rw[List.all_eq_true];intro v hv;obtain⟨z,_,rfl⟩:=List.mem_map.mp hv;rfl
theorem yQ(x:Bool):∀ zs:List Bool,jR (.bl x) (zs.map V.bl)=decide (x∈zs)
 | []=>rfl
 | z::zs=>by
  have ih:=yQ x zs
  unfold jR at ih ⊢;rw[au,List.any_cons,ih];show(z==x||decide (x∈zs))=decide (x∈z::zs)
  rw[Bool.eq_iff_iff];simp only[Bool.or_eq_true,beq_iff_eq,decide_eq_true_eq,List.mem_cons];exact⟨fun h=>h.imp Eq.symm id,fun h=>h.imp Eq.symm id⟩
theorem Lx(zs:List Bool):(zs.map V.bl).all gC=true:=by
 rw[List.all_eq_true];intro v hv;obtain⟨z,_,rfl⟩:=List.mem_map.mp hv;rfl
theorem yP{K:ad}{Z:Addr->Prop}{m:Mu}{H:Hp}:∀ {zs:List Bool} {vs:List V},RPs K Z m H (zs.map PyData.bool) vs->vs=zs.map V.bl
 | [],vs,h=>by simpa[RPs] using h
 | z::zs,vs,h=>by
  simp only[au,RPs]at h;obtain⟨v,r,rfl,h1,h2⟩:=h;simp only[RP]at h1;subst h1;rw[yP h2];rfl
theorem xF(x:Int):∀ zs:List Int,jR (.int x) (zs.map V.int)=decide (x∈zs)
 | []=>rfl
 | z::zs=>by
  have ih:=xF x zs
  unfold jR at ih ⊢;rw[au,List.any_cons,ih];show(z==x||decide (x∈zs))=decide (x∈z::zs)
  rw[Bool.eq_iff_iff];simp only[Bool.or_eq_true,beq_iff_eq,decide_eq_true_eq,List.mem_cons];exact⟨fun h=>h.imp Eq.symm id,fun h=>h.imp Eq.symm id⟩
theorem Ih(zs:List Int):(zs.map V.int).all gC=true:=by
 rw[List.all_eq_true];intro v hv;obtain⟨z,_,rfl⟩:=List.mem_map.mp hv;rfl
theorem rW{K:ad}{Z:Addr->Prop}{m:Mu}{H:Hp}:∀ {zs:List Int} {vs:List V},RPs K Z m H (zs.map PyData.int) vs->vs=zs.map V.int
 | [],vs,h=>by simpa[RPs] using h
 | z::zs,vs,h=>by
  simp only[au,RPs]at h;obtain⟨v,r,rfl,h1,h2⟩:=h;simp only[RP]at h1;subst h1;rw[rW h2];rfl
theorem vL:dZ X (compareOp .In) lS:=by
 intro pins s σ H Z m x y dx dy v u R Q I ok rx ry r1 r2 h k;unfold lS at h
 split at h
 ·obtain⟨zs,rfl,q⟩:=h
  cases r1.str
  simp only[RD,RP]at r2;obtain⟨a,vs,rfl,_,h1,h2⟩:=r2
  cases kW h2
  refine mL pins s σ H _ _ v u Q I rx ry ⟨a,_,rfl,.inl h1,rfl,Oz zs,?_⟩;rw[if_neg am,tN];exact k _ m _ H q Ext.refl ok .ofBl
 ·obtain⟨zs,rfl,q⟩:=h
  cases r1.str
  simp only[RD,RP]at r2;obtain⟨a,vs,rfl,h1,h2⟩:=r2
  cases kW h2
  refine mL pins s σ H _ _ v u Q I rx ry ⟨a,_,rfl,.inr h1,rfl,Oz zs,?_⟩;rw[if_neg am,tN];exact k _ m _ H q Ext.refl ok .ofBl
 ·obtain⟨zs,rfl,q⟩:=h
  cases r1.bl
  simp only[RD,RP]at r2;obtain⟨a,vs,rfl,_,h1,h2⟩:=r2
  cases yP h2
  refine mL pins s σ H _ _ v u Q I rx ry ⟨a,_,rfl,.inl h1,rfl,Lx zs,?_⟩;rw[if_neg am,yQ];exact k _ m _ H q Ext.refl ok .ofBl
 ·obtain⟨zs,rfl,q⟩:=h
  cases r1.bl
  simp only[RD,RP]at r2;obtain⟨a,vs,rfl,h1,h2⟩:=r2
  cases yP h2
  refine mL pins s σ H _ _ v u Q I rx ry ⟨a,_,rfl,.inr h1,rfl,Lx zs,?_⟩;rw[if_neg am,yQ];exact k _ m _ H q Ext.refl ok .ofBl
 ·obtain⟨zs,rfl,q⟩:=h
  cases r1.int
  simp only[RD,RP]at r2;obtain⟨a,vs,rfl,_,h1,h2⟩:=r2
  cases rW h2
  refine mL pins s σ H _ _ v u Q I rx ry ⟨a,_,rfl,.inl h1,rfl,Ih zs,?_⟩;rw[if_neg am,xF];exact k _ m _ H q Ext.refl ok .ofBl
 ·obtain⟨zs,rfl,q⟩:=h
  cases r1.int
  simp only[RD,RP]at r2;obtain⟨a,vs,rfl,h1,h2⟩:=r2
  cases rW h2
  refine mL pins s σ H _ _ v u Q I rx ry ⟨a,_,rfl,.inr h1,rfl,Ih zs,?_⟩;rw[if_neg am,xF];exact k _ m _ H q Ext.refl ok .ofBl
 ·exact h.elim
@[simp] def dU:DC
 | [.dat (.tuple xs)],m,Q=>Q (.dat (.tuple xs)) m
 | [.dat (.list xs)],m,Q=>Q (.dat (.tuple xs)) m
 | [.cel c],m,Q=>∃ xs,m c=some (.l xs)/\Q (.dat (.tuple xs)) m
 | _,_,_=>False
theorem fA:CallD X (.type "tuple") dU:=by
 intro pins s σ H Z m xs ds us R Q I ok rv rd h k;unfold dU at h
 split at h
 ·obtain⟨v,rfl,r1⟩:=rd.one;have r0:=r1
  simp only[RD,RP]at r1;obtain⟨a,vs,rfl,h1,h2⟩:=r1;exact sH pins s σ H _ us Q I rv ⟨a,vs,rfl,.inr ⟨h1,k _ m _ H h Ext.refl ok r0⟩⟩
 ·obtain⟨v,rfl,r1⟩:=rd.one;simp only[RD,RP]at r1;obtain⟨a,vs,rfl,_,h1,h2⟩:=r1;refine sH pins s σ H _ us Q I rv ⟨a,vs,rfl,.inl ⟨h1,fun l hl=>?_⟩⟩;have sm:Same H (upd H l (.tup vs)):=cC hl
  refine k _ m _ _ h (ok.ext sm) (ok.grow sm) ?_;simp only[RD,RP];exact⟨l,vs,rfl,.inl (.inl cA),RPs.ext (ok.ext sm) _ _ h2⟩
 ·obtain⟨v,rfl,r1⟩:=rd.one;obtain⟨rfl,_⟩:=r1;obtain⟨ys,hm,q⟩:=h;obtain⟨vs,h1,h2⟩:=ok.l hm;refine sH pins s σ H _ us Q I rv ⟨_,vs,rfl,.inl ⟨.inl (.inl h1),fun l hl=>?_⟩⟩;have sm:Same H (upd H l (.tup vs)):=cC hl
  refine k _ m _ _ q (ok.ext sm) (ok.grow sm) ?_;simp only[RD,RP];exact⟨l,vs,rfl,.inl (.inl cA),RPs.ext (ok.ext sm) _ _ h2⟩
 ·exact h.elim
theorem t5:bootBuiltins "reversed"=some (.type "reversed"):=by decide +kernel
@[simp] def rA(f:DE):DI:=fun d m Q=>f d m fun x m1=>∃ ps,x=.dat (.tuple ps)/\Q (ps.reverse.map .dat) m1
theorem L9{tg:Expr}(hg:Gl X "reversed")(hm:X.mg "reversed"=none)(ha:PE X e (LE X.K f))(hs:starEach [e] X.env=[(false,eval e X.env)]:=by rfl):PI X tg (.Call (.Name "reversed" p) [e] [] pos) (LI X.K (rA f)):=by
 intro pins s σ H R I h;obtain⟨Z,d,m,ZZ,ok,rs,h,k⟩:=h;have hA:=jY (X:=X) ha kX (by rw[hs];rfl) pos pins s σ H (fun vs H1=>∃ a xs ps m1,vs=[.ref a]/\SqT X.K H1 a xs/\RPs X.K Z m1 H1 ps xs/\ZZ (ps.reverse.map .dat) m1/\Ext X.K Z m H m1 H1/\Ok X.K Z m1 H1) I ⟨Z,d,m,_,ok,rs,h,fun x m1 v H1 ⟨ps,ex,q⟩ e1 ok1 rd=>by
  subst ex;simp only[RD,RP]at rd;obtain⟨a,vs,rfl,h1,h2⟩:=rd;exact⟨a,vs,ps,m1,rfl,h1,h2,q,e1,ok1⟩⟩
 refine Call_ (gU I hg hm t5 (PyProof.Rows.callWith_type1 (aS hA fun us s1 ⟨vs,H1,I1,r1,q1⟩=>?_) hs rfl));obtain⟨a,xs,ps,m1,e,hq,rp,q,e1,ok1⟩:=q1;subst e;obtain⟨u,rfl,ru⟩:=eR r1
 cases ru
 obtain⟨its,rv,pt,hz⟩:=I1.tuple hq;have hl:=rv.length
 have hn:=iY
 refine Vj pt (by rw[ay];omega) ?_
 have hit:IsRv (s1.heap.push (wG a ((its.toArray.size:Int)-1))) s1.heap.objs.size a ((xs.length:Int)-1-((0:Nat):Int)):=by
  refine⟨_,ai _ rfl,rfl,?_⟩;show Data.fields _=Data.fields _
  rw[ay,<- hl];simp
 refine Be (s:={s1 with heap:=_,toks:=_}) hit ?_;refine⟨s1.heap.objs.size,[s1.heap.objs.size],_,_,H1,rfl,I1.kept fun b o e=>ah _ e,T7 a _ xs.length,⟨Nat.zero_le _,hit⟩,fun b hb=>?_,k _ m1 H1 _ q e1 ok1 ?_⟩
 ·have e:b=s1.heap.objs.size:=by simpa using hb
  subst e;exact I1.fpOk (ak _) (I1.hok.fresh (ak _))
 ·intro m2 H2 e2;have q1:=e2.t a xs hq
  have hlp:=rp.length
  refine⟨fun i x hx=>?_,?_⟩
  ·obtain⟨pp,hp,rfl⟩:=pN hx;have hlt:i<ps.length:=by
    have:=(List.getElem?_eq_some_iff.mp hp).1
    simpa using this
   rw[List.getElem?_reverse hlt]at hp;obtain⟨v,hv,rv⟩:=rp.get hp;refine⟨⟨by omega,xs,q1,rfl⟩,fun v' H3 y=>.inl ⟨y.1,?_⟩⟩
   have:=y.2 xs q1
   rw[hlp]at this;rw[hv]at this
   cases this
   exact rv
  ·show(ps.reverse.map D.dat).length=xs.length
   rw[av,List.length_reverse];exact hlp.symm
end
def chkB(scope:Scope)(env:Env):Bool:=scope.names.all fun y=>(decide (y.2≠.cell))&&(!decide (y.2=.local)||decide (scope.names.lookup y.1=some .local))&&(!decide (y.2=.free)||decide (env.kindOf y.1=some .cell)||decide (env.kindOf y.1=some .free))
def chkS(N:List Str)(scope:Scope)(env:Env):List Str->List (Option Nat)->Bool
 | [],[]=>true
 | x::xs,o::os=>(match o with | none=>true | some j=>decide (N[j]?=some x)&&decide ((x,NameKind.free)∈scope.names)&&(decide ((relabel scope env).names.lookup x=some .cell)||decide ((relabel scope env).names.lookup x=some .free)))&&chkS N scope env xs os
 | _,_=>false
theorem chkB.ok{scope:Scope}{env:Env}(h:chkB scope env=true):(∀ y∈scope.names,y.2≠.cell)/\(∀ y∈scope.names,y.2=.local->scope.names.lookup y.1=some .local)/\∀ x,(x,NameKind.free)∈scope.names->env.kindOf x=some .cell\/env.kindOf x=some .free:=by
 unfold chkB at h;rw[List.all_eq_true]at h;have q:∀ y∈scope.names,y.2≠.cell/\(y.2=.local->scope.names.lookup y.1=some .local)/\(y.2=.free->env.kindOf y.1=some .cell\/env.kindOf y.1=some .free):=fun y hy=>by
  have:=h y hy
  simp only[Bool.and_eq_true,Bool.or_eq_true,Bool.not_eq_true',decide_eq_true_eq,decide_eq_false_iff_not]at this;obtain⟨⟨a,b⟩,c⟩:=this;refine⟨a,fun e=>b.resolve_left (fun n=>n e),fun e=>?_⟩;rcases c with (c | c) | c
  ·exact absurd e c
  ·exact .inl c
  ·exact .inr c
 exact⟨fun y hy=>(q y hy).1,fun y hy=>(q y hy).2.1,fun x hx=>(q _ hx).2.2 rfl⟩
theorem chkS.ok{X:Cx}{scope:Scope}:∀ {NC:List Str} {src:List (Option Nat)},chkS X.N scope X.env NC src=true->jN X scope NC src
 | [],[],_=>⟨rfl,fun i x j h=>by simp at h⟩
 | [],_::_,h=>by simp[chkS]at h
 | _::_,[],h=>by simp[chkS]at h
 | y::ys,o::os,h=>by
  simp only[chkS,Bool.and_eq_true]at h;obtain⟨h1,h2⟩:=h;obtain⟨q1,q2⟩:=chkS.ok h2;refine⟨by rw[List.length_cons,List.length_cons,q1],fun i x j e1 e2=>?_⟩
  cases i with
  | zero =>
   simp at e1 e2;subst e1 e2;simp only[Bool.and_eq_true,Bool.or_eq_true,decide_eq_true_eq]at h1;exact⟨h1.1.1,h1.1.2,h1.2⟩
  | succ i=>exact q2 i x j #[4,e1] #[4,e2]
section
variable {X:Cx}{tg iter elt:Expr}{ifs:List Expr}{scope:Scope}{fi:DI}{g:DG}{t:DT}{f:DE}{pos:Pos}
theorem Xu(NC:List Str)(src:List (Option Nat))(hc:X.calm=true)(hi:PI X tg iter (LI X.K fi))
  (hg:∀ cl C s2 H2 pins fp,PG (aX X scope cl C NC s2 H2 pins fp) tg (LG X.K g)) (ht:∀ cl C s2 H2 pins fp,PF (aX X scope cl C NC s2 H2 pins fp) ifs (LT X.K t)) (he:∀ cl C s2 H2 pins fp,PE (aX X scope cl C NC s2 H2 pins fp) elt (LE X.K f))
  (hkind:scope.kind=.function:=by rfl) (hB:chkB scope X.env=true:=by rfl) (hS:chkS X.N scope X.env NC src=true:=by rfl)
  (hs:∀ x,foldedSetIterable iter X.env x=pure x:=by intro _;rfl):PE X (.ListComp elt [⟨tg,iter,ifs,0⟩] scope pos) (LE X.K (cW src fi g t f)) :=
 Xr (NC:=NC) src hc hi hg ht he hkind (chkB.ok hB).1 (chkB.ok hB).2.1 (chkB.ok hB).2.2 (chkS.ok hS) hs
theorem b9(i:Nat){y:Str}{py spos:Pos}(NC:List Str)(src:List (Option Nat))(hc:X.calm=true)(hN:X.N.Nodup)(hi:PI X tg iter (LI X.K fi))
  (hg:∀ cl C s2 H2 pins fp,PG (aX X scope cl C NC s2 H2 pins fp) tg (LG X.K g)) (ht:∀ cl C s2 H2 pins fp,PF (aX X scope cl C NC s2 H2 pins fp) ifs (LT X.K t)) (he:∀ cl C s2 H2 pins fp,PE (aX X scope cl C NC s2 H2 pins fp) elt (LE X.K f))
  (hkind:scope.kind=.function:=by rfl) (hB:chkB scope X.env=true:=by rfl) (hS:chkS X.N scope X.env NC src=true:=by rfl)
  (hi2:X.N[i]?=some y:=by rfl) (hx:hU X.env.scope y:=by first | exact Or.inl rfl | exact Or.inr rfl) (hf:X.fn y=true\/X.env.scope.names.lookup y=some .local:=by first | exact .inl rfl | exact .inr rfl)
  (hsw:swapsWith (.ListComp elt [⟨tg,iter,ifs,0⟩] scope pos) (some (.Name y py)) spos.line X.env=pure true:=by rfl)
  (hs:∀ x,foldedSetIterable iter X.env x=pure x:=by intro _;rfl):PS X (.Assign [.Name y py] (.ListComp elt [⟨tg,iter,ifs,0⟩] scope pos) spos) (LS X.K (aZ i (cW src fi g t f))) :=
 g9 (NC:=NC) i src hc hi hg ht he hkind (chkB.ok hB).1 (chkB.ok hB).2.1 (chkB.ok hB).2.2 (chkS.ok hS) hN hi2 hx hf hsw hs
end
section
variable {prog:Program}{w:World}{A:Around}{R:Result->Shared->Prop}{s:Shared}
theorem O6(elt tg iter tg2 iter2:Expr)(ifs ifs2:List Expr)(scope:Scope)(pos:Pos)(it acc:Value)(env:Env) :
  compTurn (.ListComp elt [⟨tg,iter,ifs,0⟩,⟨tg2,iter2,ifs2,0⟩] scope pos) 0 it acc env=(do
   standAt iter.pos
   match <- pyNext it with
   | none=>pure (.done .next)
   | some v =>
    letOwnedTupleGo tg it v
    assign tg env v
    let mut ok:=true
    for c in ifs do
     if ok then ok <- isTrue c env (eval c env)
    if ok then
     let x <- eval iter2 env
     standAt iter2.pos
     let x <- foldedSetIterable iter2 env x
     let _ <- runOwn (.compStart (.ListComp elt [⟨tg,iter,ifs,0⟩,⟨tg2,iter2,ifs2,0⟩] scope pos) 1 (<- holding [x] (pyIter x)) acc env) env
    again (.compLoop (.ListComp elt [⟨tg,iter,ifs,0⟩,⟨tg2,iter2,ifs2,0⟩] scope pos) 0 it acc env)):=by rfl
theorem BW(elt tg iter tg2 iter2:Expr)(ifs ifs2:List Expr)(scope:Scope)(pos:Pos)(it acc:Value)(env:Env) :
  compTurn (.ListComp elt [⟨tg,iter,ifs,0⟩,⟨tg2,iter2,ifs2,0⟩] scope pos) 1 it acc env=(do
   standAt iter2.pos
   match <- pyNext it with
   | none=>pure (.done .next)
   | some v =>
    letOwnedTupleGo tg2 it v
    assign tg2 env v
    let mut ok:=true
    for c in ifs2 do
     if ok then ok <- isTrue c env (eval c env)
    if ok then
     (do let _ <- call (.builtin "list.append") [acc,<- eval elt env])
    again (.compLoop (.ListComp elt [⟨tg,iter,ifs,0⟩,⟨tg2,iter2,ifs2,0⟩] scope pos) 1 it acc env)):=by rfl
theorem Ws{elt tg iter tg2 iter2:Expr}{ifs ifs2:List Expr}{scope:Scope}{pos:Pos}{it acc:Value}{env:Env}
  (h0:codeAny (model prog w) A (.compLoop (.ListComp elt [⟨tg,iter,ifs,0⟩,⟨tg2,iter2,ifs2,0⟩] scope pos) 1 it acc env) R s)
  (h:wpAny (model prog w) A (pyIter it) (fun it' s'=>codeAny (model prog w) A (.compLoop (.ListComp elt [⟨tg,iter,ifs,0⟩,⟨tg2,iter2,ifs2,0⟩] scope pos) 1 it' acc env) R s')
   (notedBy (model prog w) A env fun x s'=>R (.error x) s') s) :
  codeAny (model prog w) A (.compStart (.ListComp elt [⟨tg,iter,ifs,0⟩,⟨tg2,iter2,ifs2,0⟩] scope pos) 1 it acc env) R s:=by
 refine codeAny_of_tree ?_;show wpAny _ _ ((compStart (.ListComp elt [⟨tg,iter,ifs,0⟩,⟨tg2,iter2,ifs2,0⟩] scope pos) 1 it acc env).onRaise (fun x=>do noteFrame x env;standAt theWindowsPlace)) _ _ s
 refine wpAny_notedAt ?_;unfold compStart;show wpAny _ _ (ask>>=_) _ _ s
 refine ae (wpAny_askSetting (wpAny_ite ?_))
 split
 ·first
   | exact ae (af (af (And.intro rfl h0)))
   | exact af (And.intro rfl h0)
 ·first
   | exact ae (wpAny_rule (ae (wpAny_standAt (ae (wpAny_mono h (fun it' s' h'=>af (And.intro rfl h')) fun _ _ x=>x)))))
   | (refine ae (wpAny_rule ?_);show wpAny _ _ (standAt iter2.pos>>=_) _ _ s;exact ae (wpAny_standAt (ae (wpAny_mono h (fun it' s' h'=>af (And.intro rfl h')) fun _ _ x=>x))))
theorem CG{elt tg iter tg2 iter2:Expr}{ifs ifs2:List Expr}{scope:Scope}{pos:Pos}{it acc:Value}{env:Env}(I:Nat->Shared->Prop)(hs:∀ x,foldedSetIterable iter2 env x=pure x)
  (turn:∀ n s,I n s->wpAny (model prog w) A (pyNext it) (fun r s₁=>match r with
   | none=>R (.ok .next) s₁
   | some v=>wpAny (model prog w) A (letOwnedTupleGo tg it v) (fun _ s₀=>wpAny (model prog w) A (assign tg env v) (fun _ s₂ =>
     wpAny (model prog w) A (forIn ifs true fun c r=>if r=true then do let ok <- isTrue c env (eval c env);pure (ForInStep.yield ok) else pure (ForInStep.yield r)) (fun ok s₃ =>
      if ok=true then wpAny (model prog w) A (eval iter2 env) (fun x s₄ =>
       wpAny (model prog w) A (pyIter x) (fun it2 s₅=>codeAny (model prog w) A (.compStart (.ListComp elt [⟨tg,iter,ifs,0⟩,⟨tg2,iter2,ifs2,0⟩] scope pos) 1 it2 acc env) (fun r s₆=>r=.ok .next/\∃ m,m<n/\I m s₆) s₅) (fun _ _=>False) s₄) (fun _ _=>False) s₃
      else ∃ m,m<n/\I m s₃) (fun _ _=>False) s₂) (fun _ _=>False) s₀) (fun _ _=>False) s₁) (fun _ _=>False) s)
  (n:Nat) (h:I n s) :
  codeAny (model prog w) A (.compLoop (.ListComp elt [⟨tg,iter,ifs,0⟩,⟨tg2,iter2,ifs2,0⟩] scope pos) 0 it acc env) R s:=by
 have ff:∀ {E:Value->Shared->Prop} (x:Value) (s:Shared),False->E x s:=fun _ _ z=>z.elim
 refine codeAny_loop rfl I (fun n s hI=>?_) n h;show wpAny _ A ((compTurn (.ListComp elt [⟨tg,iter,ifs,0⟩,⟨tg2,iter2,ifs2,0⟩] scope pos) 0 it acc env).onRaise (fun x=>do noteFrame x env;theTreesLotGoes x)) _ _ s
 refine wpAny_noted ?_;rw[O6];refine ae (wpAny_standAt (ae (wpAny_mono (turn n s hI) (fun r s₁ h₁=>?_) ff)))
 cases r with
 | none=>exact af h₁
 | some v =>
  refine ae (wpAny_mono h₁ (fun _ s₀ h₀=>?_) ff);refine ae (wpAny_mono h₀ (fun _ s₂ h₂=>ae (wpAny_mono h₂ (fun ok s₃ h₃=>?_) ff)) ff)
  cases ok with
  | true =>
   simp only[if_true]at h₃ ⊢;refine ae (wpAny_mono h₃ (fun x s₄ h₄=>?_) ff);refine ae (wpAny_standAt (ae (wpAny_of_eq (hs x) ?_)));refine ae (wpAny_holding (wpAny_mono h₄ (fun it2 s₅ h₅=>?_) ff));refine ae (wpAny_runOwn (codeAny_mono h₅ fun r s₆ ⟨hr,h₆⟩=>?_));subst hr;exact af ⟨rfl,h₆⟩
  | false =>
   simp only[Bool.false_eq_true,if_false]at h₃ ⊢;exact af ⟨rfl,h₃⟩
theorem j9{elt tg iter tg2 iter2:Expr}{ifs ifs2:List Expr}{scope:Scope}{pos:Pos}{it acc:Value}{env:Env}{E:Value->Shared->Prop}(hE:∀ x s,E x s->False)(I:Nat->Shared->Prop)
  (turn:∀ n s,I n s->wpAny (model prog w) A (pyNext it) (fun r s₁=>match r with
   | none=>R (.ok .next) s₁
   | some v=>wpAny (model prog w) A (letOwnedTupleGo tg2 it v) (fun _ s₀=>wpAny (model prog w) A (assign tg2 env v) (fun _ s₂ =>
     wpAny (model prog w) A (forIn ifs2 true fun c r=>if r=true then do let ok <- isTrue c env (eval c env);pure (ForInStep.yield ok) else pure (ForInStep.yield r)) (fun ok s₃ =>
      if ok=true then wpAny (model prog w) A (eval elt env) (fun x s₄ =>
       wpAny (model prog w) A (call (.builtin "list.append") [acc,x]) (fun _ s₅=>∃ m,m<n/\I m s₅) E s₄) E s₃
      else ∃ m,m<n/\I m s₃) E s₂) E s₀) E s₁) E s)
  (n:Nat) (h:I n s) :
  codeAny (model prog w) A (.compLoop (.ListComp elt [⟨tg,iter,ifs,0⟩,⟨tg2,iter2,ifs2,0⟩] scope pos) 1 it acc env) R s:=by
 have ff:∀ {E':Value->Shared->Prop} (x:Value) (s:Shared),E x s->E' x s:=fun x s z=>(hE x s z).elim
 refine codeAny_loop rfl I (fun n s hI=>?_) n h;show wpAny _ A ((compTurn (.ListComp elt [⟨tg,iter,ifs,0⟩,⟨tg2,iter2,ifs2,0⟩] scope pos) 1 it acc env).onRaise (fun x=>do noteFrame x env;theTreesLotGoes x)) _ _ s
 refine wpAny_noted ?_;rw[BW];refine ae (wpAny_standAt (ae (wpAny_mono (turn n s hI) (fun r s₁ h₁=>?_) ff)))
 cases r with
 | none=>exact af h₁
 | some v =>
  refine ae (wpAny_mono h₁ (fun _ s₀ h₀=>?_) ff);refine ae (wpAny_mono h₀ (fun _ s₂ h₂=>ae (wpAny_mono h₂ (fun ok s₃ h₃=>?_) ff)) ff)
  cases ok with
  | true =>
   simp only[if_true]at h₃ ⊢;refine ae (ae (wpAny_mono h₃ (fun x s₄ h₄=>ae (wpAny_mono h₄ (fun _ s₅ h₅=>af (af ⟨rfl,h₅⟩)) ff)) ff))
  | false =>
   simp only[Bool.false_eq_true,if_false]at h₃ ⊢;exact af ⟨rfl,h₃⟩
end
abbrev qV:=D->List PyData->bI->Mu->(List PyData->bI->Mu->Prop)->Prop
def cH(st:qV):List D->List PyData->bI->Mu->(List PyData->bI->Mu->Prop)->Prop
 | [],acc,d,m,Q=>Q acc d m
 | x::xs,acc,d,m,Q=>st x acc d m fun acc' d' m'=>cH st xs acc' d' m' Q
def stepI(g:DG)(t:DT)(f:DE):qV:=fun x acc d m Q=>g x d m fun d1 m1=>t d1 m1 fun b m2=>if b=true then f d1 m2 fun y m3=>∃ p,y=.dat p/\acc.length<sizeLine/\Q (acc++[p]) d1 m3 else Q acc d1 m2
def fY(g:DG)(t:DT)(fi2:DI)(st:qV):qV:=fun x acc d m Q=>g x d m fun d1 m1=>t d1 m1 fun b m2=>if b=true then fi2 d1 m2 fun ys m3=>cH st ys acc d1 m3 Q else Q acc d1 m2
@[simp] def rE(src:List (Option Nat))(fi:DI)(g:DG)(t:DT)(fi2:DI)(g2:DG)(t2:DT)(f:DE):DE:=fun d m Q=>fi d m fun xs m1=>cH (fY g t fi2 (stepI g2 t2 f)) xs [] (bP src d) m1 fun ps _ m2=>Q (.dat (.list ps)) m2
structure ExtW (K:ad) (Z:Addr->Prop) (D:Addr) (m:Mu) (H:Hp) (m':Mu) (H':Hp):Prop where
 t:∀ a vs,SqT K H a vs->SqT K H' a vs
 l:∀ a vs,(m a=none/\¬ aO Z D a)->SqL K H a vs->m' a=none/\SqL K H' a vs
 z:∀ a,Z a->H' a=H a
 c:∀ a,(m a).isSome=true->(m' a).isSome=true
 fz:∀ a o u,H a=some (.frz o u)->H' a=some (.frz o u)
 fm:∀ a,mV (m a)=true->m' a=m a
section
variable {K:ad}{Z:Addr->Prop}{m m1 m' m2:Mu}{H H1 H' H2:Hp}{D:Addr}{ys zs:List V}
theorem ExtW.refl:ExtW K Z D m H m H:=⟨fun _ _ h=>h,fun _ _ h1 h2=>⟨h1.1,h2⟩,fun _ _=>rfl,fun _ h=>h,fun _ _ _ h=>h,fun _ _=>rfl⟩
theorem ExtW.y(e:ExtW K Z D m H m' H'):ExtY K (aO Z D) m H m' H':=⟨e.t,e.l,e.fz⟩
theorem ExtW.trans(a:ExtW K Z D m H m' H')(b:ExtW K Z D m' H' m2 H2):ExtW K Z D m H m2 H2 :=
 ⟨fun x vs h=>b.t x vs (a.t x vs h),fun x vs h1 h2=>let ⟨q1,q2⟩:=a.l x vs h1 h2;b.l x vs ⟨q1,h1.2⟩ q2,fun x h=>(b.z x h).trans (a.z x h),fun x h=>b.c x (a.c x h),fun x o u h=>b.fz x o u (a.fz x o u h),fun x h=>by
  have q:=a.fm x h
  rw[b.fm x (by rw[q];exact h),q]⟩
theorem Ext.w(e:Ext K (aO Z D) m H m' H'):ExtW K Z D m H m' H':=⟨e.t,e.l,fun a h=>e.z a (.inl h),e.c,e.fz,e.fm⟩
theorem ExtW.put(hz:¬ Z D)(hD:H D=some (.lst ys)):ExtW K Z D m H m (upd H D (.lst zs)) :=
 ⟨mK hD,fun a vs h1 h2=>⟨h1.1,xX (fun e=>h1.2 (.inr e)) h2⟩,fun a h=>by
  have ne:a≠D:=by rintro rfl;exact hz h
  rw[bF ne],fun _ h=>h,fun a o u h=>by
  rw[bF (by rintro rfl;rw[hD]at h;cases h)]
  exact h,fun _ _=>rfl⟩
theorem ExtW.rd{x:DL.D}{v:V}(e:ExtW K Z D m H m' H')(h:RD K (aO Z D) m H x v):RD K (aO Z D) m' H' x v:=by
 cases x with
 | dat p=>exact RP.tr e.t (fun a vs h1 h2=>let ⟨q1,q2⟩:=e.l a vs h1 h2;⟨⟨q1,h1.2⟩,q2⟩) p v h e.fz
 | cel a=>exact⟨h.1,e.c a h.2⟩
theorem t8(e:Ext K Z m1 H1 m H)(hD:H1 D=none)(hk:K.lookup D=none)(e2:ExtW K Z D m H m' H'):Ext K Z m1 H1 m' H' :=
 ⟨fun a vs h=>e2.t a vs (e.t a vs h),fun a vs h1 h2=>let ⟨q1,q2⟩:=e.l a vs h1 h2;e2.l a vs ⟨q1,fun z=>z.elim h1.2 (SqL.ne hD hk h2)⟩ q2,fun a h=>(e2.z a h).trans (e.z a h),fun a h=>e2.c a (e.c a h),fun a o u h=>e2.fz a o u (e.fz a o u h),fun a h=>by
  have q:=e.fm a h
  rw[e2.fm a (by rw[q];exact h),q]⟩
end
section
variable {Y:Cx}{tg iter tg2 iter2 elt:Expr}{ifs ifs2:List Expr}{scope:Scope}{fi2:DI}{g2:DG}{t2:DT}{f:DE}{pos:Pos}
theorem Z5(hc:Y.calm=true)(hx:∀ x s,Y.xe x s->False)(hi:PI Y tg2 iter2 (LI Y.K fi2))(hg:PG Y tg2 (LG Y.K g2))(ht:PF Y ifs2 (LT Y.K t2))(he:PE Y elt (LE Y.K f))
  {pins:List (Addr×Obj)} {s:Shared} {σ:L2.St} {H:Hp} {Z:Addr->Prop} {D:Addr} {acc:List PyData} {ys:List V} {d:bI} {m:Mu} {Q:List PyData->bI->Mu->Prop}
  (I:Inv Y pins σ H s) (hz:¬ Z D) (hD:H D=some (.lst ys)) (racc:RPs Y.K (aO Z D) m H acc ys) (ok:Ok Y.K (aO Z D) m H) (rs:RS Y.K (aO Z D) m H d σ) (h:fi2 d m fun xs m1=>cH (stepI g2 t2 f) xs acc d m1 Q) :
  wpAny (model Y.prog Y.w) Y.A (eval iter2 Y.env) (fun x s4=>wpAny (model Y.prog Y.w) Y.A (pyIter x) (fun it2 s5=>codeAny (model Y.prog Y.w) Y.A (.compStart (.ListComp elt [⟨tg,iter,ifs,0⟩,⟨tg2,iter2,ifs2,0⟩] scope pos) 1 it2 (.ref D) Y.env)
   (fun r s6=>r=.ok .next/\∃ σ' H' ys' acc' d' m',Inv Y pins σ' H' s6/\H' D=some (.lst ys')/\RPs Y.K (aO Z D) m' H' acc' ys'/\ExtW Y.K Z D m H m' H'/\Ok Y.K (aO Z D) m' H'/\RS Y.K (aO Z D) m' H' d' σ'/\Q acc' d' m') s5) Y.xe s4) Y.xe s:=by
 refine aS (hi pins s σ H (fun J H1=>∃ xs m1,Ext Y.K (aO Z D) m H m1 H1/\Ok Y.K (aO Z D) m1 H1/\kQ Y.K (aO Z D) m1 H1 xs J/\cH (stepI g2 t2 f) xs acc d m1 Q) I
  ⟨aO Z D,d,m,_,ok,rs,h,fun xs m1 H1 J q e1 ok1 y1=>⟨xs,m1,e1,ok1,y1,q⟩⟩) fun xv s₁ h₁=>aS h₁ fun itv s₂ h₂=>?_
 obtain⟨it,fp,tn,J,H2,eit,I2,T,st2,f2,xs,m1,e1,ok1,yl,lp⟩:=h₂;subst eit;have hD2:H2 D=some (.lst ys):=(e1.z _ (.inr rfl)).trans hD
 have stat:∀ {H':Hp},(∀ b∈fp,H' b=none)->∀ b∈fp,cK Y pins H' b:=fun hn b hb=>⟨hn b hb,(f2 b hb).2⟩
 have loop:codeAny (model Y.prog Y.w) Y.A (.compLoop (.ListComp elt [⟨tg,iter,ifs,0⟩,⟨tg2,iter2,ifs2,0⟩] scope pos) 1 (.ref it) (.ref D) Y.env)
   (fun r s6=>r=.ok .next/\∃ σ' H' ys' acc' d' m',Inv Y pins σ' H' s6/\H' D=some (.lst ys')/\RPs Y.K (aO Z D) m' H' acc' ys'/\ExtW Y.K Z D m H m' H'/\Ok Y.K (aO Z D) m' H'/\RS Y.K (aO Z D) m' H' d' σ'/\Q acc' d' m') s₂:=by
  refine j9 hx (fun n s'=>∃ (i:Nat) (ys:List V) (acc:List PyData) (d':bI) (m':Mu) (σ':L2.St) (H':Hp),n=xs.length-i/\i<=xs.length/\Inv Y pins σ' H' s'/\tn i s'.heap/\(∀ b∈fp,H' b=none) /\
   H' D=some (.lst ys)/\RPs Y.K (aO Z D) m' H' acc ys/\ExtW Y.K Z D m1 H2 m' H'/\Ok Y.K (aO Z D) m' H'/\RS Y.K (aO Z D) m' H' d' σ' /\
   cH (stepI g2 t2 f) (xs.drop i) acc d' m' Q) ?_ xs.length ⟨0,ys,acc,d,m1,σ,H2,by simp,Nat.zero_le _,I2,st2,fun b hb=>(f2 b hb).1,hD2,RPs.ext e1 _ _ racc,ExtW.refl,ok1,rs.ext e1,by simpa using lp⟩
  rintro n s4 ⟨i,ys,acc,d',m',σ',H',rfl,hi',I5,st5,fr5,hDy,racc,eX,ok5,rs5,lp5⟩;obtain⟨y1,y2⟩:=yl m' H' eX.y
  by_cases hlt:i<xs.length
  ·rw[List.drop_eq_getElem_cons hlt]at lp5;obtain⟨go,yd⟩:=y1 i xs[i] (List.getElem?_eq_getElem hlt);refine aS (T.item Y rfl rfl rfl hc i pins s4 σ' H' Y.xe I5 (stat fr5) st5 go) fun r s5 hq0=>?_;obtain⟨u,hr,h5⟩:=hq0;subst hr;refine aS h5 fun _ s6 hq0=>?_;obtain⟨x,H6,I6,r6,yy,st6,fr6⟩:=hq0;have yy':=yd x H6 yy
   have e56:Ext Y.K (aO Z D) m' H' m' H6:=ok5.ext yy'.same
   have rv:=yy'.rd (fun d v h=>eX.rd h) ok5
   have hDy:=yy'.same _ _ hDy
   have racc:=RPs.ext e56 _ _ racc
   have eX:=eX.trans e56.w
   have rs5:=rs5.ext e56
   have ok5:=ok5.grow yy'.same
   have I6':=I6.pinned (stat fr6) (T.obj _ _ st6)
   have over:∀ {s7:Shared} {σ7:L2.St} {H7:Hp} {ys7:List V} {acc7:List PyData} {d7:bI} {m7:Mu},Inv Y (pins++kA fp s6.heap) σ7 H7 s7->H7 D=some (.lst ys7)->RPs Y.K (aO Z D) m7 H7 acc7 ys7 ->
     ExtW Y.K Z D m1 H2 m7 H7->Ok Y.K (aO Z D) m7 H7->RS Y.K (aO Z D) m7 H7 d7 σ7->(cH (stepI g2 t2 f) (xs.drop (i+1)) acc7 d7 m7 Q) ->
     ∃ n,n<xs.length-i/\∃ (i:Nat) (ys:List V) (acc:List PyData) (d':bI) (m':Mu) (σ':L2.St) (H':Hp),n=xs.length-i/\i<=xs.length/\Inv Y pins σ' H' s7/\tn i s7.heap/\(∀ b∈fp,H' b=none) /\
      H' D=some (.lst ys)/\RPs Y.K (aO Z D) m' H' acc ys/\ExtW Y.K Z D m1 H2 m' H'/\Ok Y.K (aO Z D) m' H'/\RS Y.K (aO Z D) m' H' d' σ' /\
      cH (stepI g2 t2 f) (xs.drop i) acc d' m' Q:=by
    intro s7 σ7 H7 ys7 acc7 d7 m7 I7 a1 a2 a3 a4 a5 a6;refine⟨xs.length-(i+1),by omega,i+1,ys7,acc7,d7,m7,σ7,H7,rfl,hlt,I7.unpinned,T.keep _ _ _ st6 fun b hb o e=>(I7.pin (b,o) (List.mem_append_right _ (List.mem_append_right _ (iP hb e)))).1,fun b hb=>?_,a1,a2,a3,a4,a5,a6⟩
    obtain⟨o,e,dd⟩:=T.obj _ _ st6 b hb;exact(I7.pin (b,o) (List.mem_append_right _ (List.mem_append_right _ (iP hb e)))).2.1
   refine aS (hg _ s6 σ' _ x u (fun σ7 H7=>∃ d7 m7,Ext Y.K (aO Z D) m' H6 m7 H7/\Ok Y.K (aO Z D) m7 H7/\RS Y.K (aO Z D) m7 H7 d7 σ7 /\
    t2 d7 m7 fun b m2=>if b=true then f d7 m2 fun y m3=>∃ p,y=.dat p/\acc.length<sizeLine/\cH (stepI g2 t2 f) (xs.drop (i+1)) (acc++[p]) d7 m3 Q else cH (stepI g2 t2 f) (xs.drop (i+1)) acc d7 m2 Q) I6' r6
    ⟨_,xs[i],d',m',_,ok5,rs5,rv,lp5,fun d7 m7 σ7 H7 q7 e7 ok7 rs7=>⟨d7,m7,e7,ok7,rs7,q7⟩⟩) fun _ s7 hq0=>?_
   obtain⟨σ7,H7,I7,d7,m7,e7,ok7,rs7,q7⟩:=hq0;refine aS (ht _ s7 σ7 H7 (fun b H8=>∃ m8,Ext Y.K (aO Z D) m7 H7 m8 H8/\Ok Y.K (aO Z D) m8 H8 /\
    if b=true then f d7 m8 fun y m3=>∃ p,y=.dat p/\acc.length<sizeLine/\cH (stepI g2 t2 f) (xs.drop (i+1)) (acc++[p]) d7 m3 Q else cH (stepI g2 t2 f) (xs.drop (i+1)) acc d7 m8 Q) I7
    ⟨_,d7,m7,_,ok7,rs7,q7,fun b m8 H8 q8 e8 ok8=>⟨m8,e8,ok8,q8⟩⟩) fun b s8 hq0=>?_
   obtain⟨H8,I8,m8,e8,ok8,q8⟩:=hq0;have e68:=e7.trans e8
   have hD8:H8 D=some (.lst ys):=(e68.z _ (.inr rfl)).trans hDy
   cases b with
   | false =>
    rw[if_neg am]at q8;exact over I8 hD8 (RPs.ext e68 _ _ racc) (eX.trans e68.w) ok8 (rs7.ext e8) q8
   | true =>
    rw[if_pos rfl]at q8;refine aS (he _ s8 σ7 H8 (fun v H9=>∃ p m9,RP Y.K (aO Z D) m9 H9 p v/\Ext Y.K (aO Z D) m8 H8 m9 H9/\Ok Y.K (aO Z D) m9 H9/\acc.length<sizeLine/\cH (stepI g2 t2 f) (xs.drop (i+1)) (acc++[p]) d7 m9 Q) I8
     ⟨_,d7,m8,_,ok8,rs7.ext e8,q8,fun y m9 v H9 hq1 e9 ok9 r9=>by
      obtain⟨p,ey,hz,q9⟩:=hq1;subst ey;exact⟨p,m9,r9,e9,ok9,hz,q9⟩⟩) fun yv s9 hq0=>?_
    obtain⟨y,H9,I9,ry,p,m9,rp9,e9,ok9,hz9,q9⟩:=hq0;have e69:=e68.trans e9
    have hD9:H9 D=some (.lst ys):=(e69.z _ (.inr rfl)).trans hDy
    have racc9:=RPs.ext e69 _ _ racc
    have rs9:=(rs7.ext e8).ext e9
    refine aS (xI _ s9 σ7 H9 (.ref D) [y] (.ref D) [yv] (fun v H10=>H10=upd H9 D (.lst (ys++[y]))) I9 rfl (.cons ry .nil) ⟨_,ys,y,rfl,rfl,hD9,by rw[racc9.length];exact hz9,rfl⟩) fun rv s10 hq0=>?_
    obtain⟨v10,H10,I10,_,e10⟩:=hq0;subst e10;refine over I10 cA ?_ ((eX.trans e69.w).trans (ExtW.put hz hD9)) (Dq ok9 hD9) ⟨rs9.1,fun j z hj=>?_⟩ q9
    ·exact RPs.tr (mK hD9) qR _ _ (racc9.append (by simp only[RPs];exact⟨y,[],rfl,rp9,rfl⟩))
    ·obtain⟨v,a1,a2⟩:=rs9.2 j z hj;exact⟨v,a1,Rr hD9 a2⟩
  ·have e:i=xs.length:=by omega
   subst e;rw[List.drop_length]at lp5;refine aS (T.done Y rfl rfl rfl hc _ pins s4 σ' H' Y.xe I5 (stat fr5) st5 y2) fun r s5 hq0=>?_;obtain⟨hr,I6⟩:=hq0;subst hr;exact⟨rfl,σ',H',ys,acc,d',m',I6,hDy,racc,(e1.w).trans eX,ok5,rs5,lp5⟩
 exact Ws loop (T.self _ 0 _ _ _ st2 loop)
end
section
variable {X:Cx}{tg iter tg2 iter2 elt:Expr}{ifs ifs2:List Expr}{scope:Scope}{NC:List Str}{fi fi2:DI}{g g2:DG}{t t2:DT}{f:DE}{pos:Pos}
theorem D3(src:List (Option Nat))(hc:X.calm=true)(hi:PI X tg iter (LI X.K fi))
  (hg:∀ cl C s2 H2 pins fp,PG (aX X scope cl C NC s2 H2 pins fp) tg (LG X.K g)) (ht:∀ cl C s2 H2 pins fp,PF (aX X scope cl C NC s2 H2 pins fp) ifs (LT X.K t)) (hi2:∀ cl C s2 H2 pins fp,PI (aX X scope cl C NC s2 H2 pins fp) tg2 iter2 (LI X.K fi2)) (hg2:∀ cl C s2 H2 pins fp,PG (aX X scope cl C NC s2 H2 pins fp) tg2 (LG X.K g2)) (ht2:∀ cl C s2 H2 pins fp,PF (aX X scope cl C NC s2 H2 pins fp) ifs2 (LT X.K t2))
  (he:∀ cl C s2 H2 pins fp,PE (aX X scope cl C NC s2 H2 pins fp) elt (LE X.K f)) (hs2:∀ cl C x,foldedSetIterable iter2 (compEnvC scope cl C X.env) x=pure x)
  (hkind:scope.kind=.function) (hcell:∀ y∈scope.names,y.2≠.cell) (hnames:∀ y∈scope.names,y.2=.local->scope.names.lookup y.1=some .local)
  (hfree:∀ x,(x,NameKind.free)∈scope.names->X.env.kindOf x=some .cell\/X.env.kindOf x=some .free) (hsrc:jN X scope NC src)
  (hs:∀ x,foldedSetIterable iter X.env x=pure x) {use:Option (Value->Sem Unit)} {QQ:Value->Shared->Prop} {pos':Pos} {pins:List (Addr×Obj)} {s:Shared} {σ:L2.St} {H:Hp} {Z:Addr->Prop} {d:bI} {m:Mu} {RL:List PyData->Mu->Prop}
  (I:Inv X pins σ H s) (ok:Ok X.K Z m H) (rs:RS X.K Z m H d σ) (h:fi d m fun xs m1=>cH (fY g t fi2 (stepI g2 t2 f)) xs [] (bP src d) m1 (fun ps _ m2=>RL ps m2))
  (fin:∀ (s5:Shared) (C D:Addr) (H':Hp) (m':Mu) (ps:List PyData),RL ps m'->Ext X.K Z m H m' H'->Ok X.K Z m' H'->RD X.K Z m' H' (.dat (.list ps)) (.ref D)->(∃ mm,s5.heap.Ns C mm)->Inv X pins σ H' s5->Off X pins H' C ->
   compPost (model X.prog X.w) X.A X.xe use QQ (.ref D) C (.ok .next) s5) :
  wpAny (model X.prog X.w) X.A (comprehension (.ListComp elt [⟨tg,iter,ifs,0⟩,⟨tg2,iter2,ifs2,0⟩] scope pos) scope X.env pos' (newList []) false (eval iter X.env) use) QQ X.xe s:=by
 obtain⟨cl,hclos,hcl1,hcl2⟩:=wH (scope:=scope) (env:=X.env) fun x hx=>I.ok.has x (hfree x hx);refine wpAny_comprehension_free (use:=use) rfl hs hclos hkind hnames ?_;refine aS (hi pins s σ H (fun J H1=>∃ xs m1,Ext X.K Z m H m1 H1/\Ok X.K Z m1 H1/\kQ X.K Z m1 H1 xs J/\cH (fY g t fi2 (stepI g2 t2 f)) xs [] (bP src d) m1 (fun ps _ m2=>RL ps m2)) I
  ⟨Z,d,m,_,ok,rs,h,fun xs m1 H1 J q e1 ok1 y1=>⟨xs,m1,e1,ok1,y1,q⟩⟩) fun xv s₁ h₁=>aS h₁ fun itv s₂ h₂=>?_
 obtain⟨it,fp,tn,J,H2,eit,I2,T,st2,f2,xs,m1,e1,ok1,yl,lp⟩:=h₂;subst eit;refine wpAny_newObj_type (wpAny_newFunctionEnv hcell (by intro y hy;simp at hy) (fun h₁ hns₁ hsb₁=>?_) hkind)
 dsimp only at hns₁ hsb₁ ⊢
 generalize hH2:s₂.heap.push {cls:=.type "list",dict:=none,data:=.seq ([]:List Value).toArray}=HP at hns₁ hsb₁ ⊢
 have hC:HP.objs.size=s₂.heap.objs.size+1:=by rw[<- hH2,Heap.size_push]
 have leC:s₂.heap.objs.size<=HP.objs.size:=by rw[hC];exact Nat.le_succ _
 have old:∀ b o,s₂.heap.get? b=some o->h₁.get? b=some o:=fun b o e=>hsb₁.extBut b o (ao (aj (ag e) leC)) (ah _ (hH2▸ah _ e))
 have hacc:h₁.get? s₂.heap.objs.size=some {cls:=.type "list",data:=.seq ([]:List Value).toArray}:=hsb₁.extBut _ _ (by rw[hC];exact ao (Nat.lt_succ_self _)) (ah _ (hH2▸ai _ rfl))
 have hD:H2 s₂.heap.objs.size=none:=I2.hok.fresh (ak _)
 have hkD:X.K.lookup s₂.heap.objs.size=none:=by
  cases e:X.K.lookup s₂.heap.objs.size with
  | none=>rfl
  | some o=>exact absurd (ag (I2.kIn _ o e)) (Nat.lt_irrefl _)
 have obf:∀ b∈fp,∃ o,s₂.heap.get? b=some o/\∀ v,o.data≠.cell v:=T.obj 0 _ st2
 have hσ:∀ (i:Nat) (x:Str) (v:V),NC[i]?=some x->(bP src σ)[i]?=some (some v)->gX (relabel scope X.env) x->((relabel scope X.env).names.lookup x=some .cell\/(relabel scope X.env).names.lookup x=some .free)/\(X.env.kindOf x=some .cell\/X.env.kindOf x=some .free)/\∃ j:Nat,X.N[j]?=some x/\σ[j]?=some (some v):=fun i x v h1 h2 _=>by
  obtain⟨j,q1,q2⟩:=yG h2;obtain⟨a1,a2,a3⟩:=hsrc.2 i x j h1 q1;exact⟨a3,hfree x a2,j,a1,q2⟩
 have I4:=fun tk=>He (cl:=cl) (NC:=NC) (σ':=bP src σ) (tk:=tk) I2 f2 obf hkind hcell hcl1 hcl2 (by unfold bP;rw[av];exact hsrc.1.symm) hσ hC hns₁ old hacc
 have st4:tn 0 h₁:=T.keep 0 _ _ st2 fun b _ o e=>old b o e
 -- the loop
 have loop:∀ s₃:Shared,s₃={s₂ with heap:=h₁,toks:=s₂.toks+([]:List (Str×Value)).length} ->
   codeAny (model X.prog X.w) X.A (.compLoop (.ListComp elt [⟨tg,iter,ifs,0⟩,⟨tg2,iter2,ifs2,0⟩] scope pos) 0 (.ref it) (.ref s₂.heap.objs.size) (compEnvC scope cl HP.objs.size X.env))
    (compPost (model X.prog X.w) X.A X.xe use QQ (.ref s₂.heap.objs.size) HP.objs.size) s₃:=by
  rintro s₃ rfl;refine CG (hs:=fun x=>hs2 _ _ x) (fun n s'=>∃ (i:Nat) (ys:List V) (acc:List PyData) (d':bI) (m':Mu) (σ':L2.St) (H':Hp),n=xs.length-i/\i<=xs.length/\Inv (aX X scope cl HP.objs.size NC s₂ H2 pins fp) [] σ' H' s'/\tn i s'.heap/\(∀ b∈fp,H' b=none) /\
   H' s₂.heap.objs.size=some (.lst ys)/\RPs X.K (aO Z s₂.heap.objs.size) m' H' acc ys/\Ext X.K Z m1 H2 m' H'/\Ok X.K (aO Z s₂.heap.objs.size) m' H'/\RS X.K (aO Z s₂.heap.objs.size) m' H' d' σ' /\
   cH (fY g t fi2 (stepI g2 t2 f)) (xs.drop i) acc d' m' (fun ps _ m2=>RL ps m2)) ?_ xs.length ?_
  rotate_left
  ·have rs1:RS X.K Z m1 H2 (bP src d) (bP src σ):=wN src (rs.ext e1)
   refine⟨0,[],[],bP src d,m1,bP src σ,_,by simp,Nat.zero_le _,I4 _,st4,fun b hb=>?_,cA,by simp[RPs],ok1.ext (cC hD),Gc ok1 hD hkD,⟨rs1.1,fun i x hx=>?_⟩,by simpa using lp⟩
   ·obtain⟨o,ho,_⟩:=obf b hb;rw[bF (ao (ag ho))];exact(f2 b hb).1
   ·obtain⟨v,q1,q2⟩:=rs1.2 i x hx;exact⟨v,q1,My hD hkD q2⟩
  rintro n s4 ⟨i,ys,acc,d',m',σ',H',rfl,hi',I5,st5,fr5,hDy,racc,eX,ok5,rs5,lp5⟩;have stat:∀ b∈fp,cK (aX X scope cl HP.objs.size NC s₂ H2 pins fp) [] H' b:=fun b hb=>by
   obtain⟨g0,g1,g2,g3,g4,g5⟩:=f2 b hb;obtain⟨o,ho,_⟩:=obf b hb;refine⟨fr5 b hb,ao (aj (ag ho) leC),fun z=>?_,.inl hb,fun x c e=>g4 x c (hcl1 (x,c) (nL e)),fun p hp=>?_⟩
   ·rcases List.mem_cons.mp (I2.stkSub b z) with q | q
    ·exact g1 q
    ·exact g2 q
   ·rcases List.mem_append.mp hp with q | q
    ·exact g5 p q
    ·cases q
  obtain⟨y1,y2⟩:=yl m' H' eX.y
  by_cases hlt:i<xs.length
  ·rw[List.drop_eq_getElem_cons hlt]at lp5;obtain⟨go,yd⟩:=y1 i xs[i] (List.getElem?_eq_getElem hlt);refine aS (T.item (aX X scope cl HP.objs.size NC s₂ H2 pins fp) rfl rfl rfl hc i [] s4 σ' H' (fun _ _=>False) I5 stat st5 go) fun r s5 hq0=>?_;obtain⟨u,hr,h5⟩:=hq0;subst hr;refine aS h5 fun _ s6 hq0=>?_;obtain⟨x,H6,I6,r6,yy,st6,fr6⟩:=hq0;have yy':=yd x H6 yy
   have e56:Ext X.K (aO Z s₂.heap.objs.size) m' H' m' H6:=ok5.ext yy'.same
   have rv:=yy'.rd (fun d v h=>uG hD hkD eX h) ok5
   have hDy:=yy'.same _ _ hDy
   have racc:=RPs.ext e56 _ _ racc
   have eX:=jK eX hD hkD e56
   have rs5:=rs5.ext e56
   have ok5:=ok5.grow yy'.same
   have stat:∀ b∈fp,cK (aX X scope cl HP.objs.size NC s₂ H2 pins fp) [] H6 b:=fun b hb=>⟨fr6 b hb,(stat b hb).2⟩
   have I6':=I6.pinned stat (T.obj _ _ st6)
   -- what stands when a turn is over
   have over:∀ {s7:Shared} {σ7:L2.St} {H7:Hp} {ys7:List V} {acc7:List PyData} {d7:bI} {m7:Mu},Inv (aX X scope cl HP.objs.size NC s₂ H2 pins fp) ([]++kA fp s6.heap) σ7 H7 s7->H7 s₂.heap.objs.size=some (.lst ys7)->RPs X.K (aO Z s₂.heap.objs.size) m7 H7 acc7 ys7 ->
     Ext X.K Z m1 H2 m7 H7->Ok X.K (aO Z s₂.heap.objs.size) m7 H7->RS X.K (aO Z s₂.heap.objs.size) m7 H7 d7 σ7->(cH (fY g t fi2 (stepI g2 t2 f)) (xs.drop (i+1)) acc7 d7 m7 (fun ps _ m2=>RL ps m2)) ->
     ∃ n,n<xs.length-i/\∃ (i:Nat) (ys:List V) (acc:List PyData) (d':bI) (m':Mu) (σ':L2.St) (H':Hp),n=xs.length-i/\i<=xs.length/\Inv (aX X scope cl HP.objs.size NC s₂ H2 pins fp) [] σ' H' s7/\tn i s7.heap/\(∀ b∈fp,H' b=none) /\
      H' s₂.heap.objs.size=some (.lst ys)/\RPs X.K (aO Z s₂.heap.objs.size) m' H' acc ys/\Ext X.K Z m1 H2 m' H'/\Ok X.K (aO Z s₂.heap.objs.size) m' H'/\RS X.K (aO Z s₂.heap.objs.size) m' H' d' σ' /\
      cH (fY g t fi2 (stepI g2 t2 f)) (xs.drop i) acc d' m' (fun ps _ m2=>RL ps m2):=by
    intro s7 σ7 H7 ys7 acc7 d7 m7 I7 a1 a2 a3 a4 a5 a6;refine⟨xs.length-(i+1),by omega,i+1,ys7,acc7,d7,m7,σ7,H7,rfl,hlt,I7.unpinned,T.keep _ _ _ st6 fun b hb o e=>(I7.pin (b,o) (List.mem_append_right _ (List.mem_append_right _ (iP hb e)))).1,fun b hb=>?_,a1,a2,a3,a4,a5,a6⟩
    obtain⟨o,e,dd⟩:=T.obj _ _ st6 b hb;exact(I7.pin (b,o) (List.mem_append_right _ (List.mem_append_right _ (iP hb e)))).2.1
   refine aS (hg cl _ s₂ H2 pins fp _ s6 σ' _ x u (fun σ7 H7=>∃ d7 m7,Ext X.K (aO Z s₂.heap.objs.size) m' H6 m7 H7/\Ok X.K (aO Z s₂.heap.objs.size) m7 H7/\RS X.K (aO Z s₂.heap.objs.size) m7 H7 d7 σ7 /\
    t d7 m7 fun b m2=>if b=true then fi2 d7 m2 fun zs m3=>cH (stepI g2 t2 f) zs acc d7 m3 (fun acc' d' m'=>cH (fY g t fi2 (stepI g2 t2 f)) (xs.drop (i+1)) acc' d' m' (fun ps _ m2=>RL ps m2)) else cH (fY g t fi2 (stepI g2 t2 f)) (xs.drop (i+1)) acc d7 m2 (fun ps _ m2=>RL ps m2)) I6' r6
    ⟨_,xs[i],d',m',_,ok5,rs5,rv,lp5,fun d7 m7 σ7 H7 q7 e7 ok7 rs7=>⟨d7,m7,e7,ok7,rs7,q7⟩⟩) fun _ s7 hq0=>?_
   obtain⟨σ7,H7,I7,d7,m7,e7,ok7,rs7,q7⟩:=hq0;refine aS (ht cl _ s₂ H2 pins fp _ s7 σ7 H7 (fun b H8=>∃ m8,Ext X.K (aO Z s₂.heap.objs.size) m7 H7 m8 H8/\Ok X.K (aO Z s₂.heap.objs.size) m8 H8 /\
    if b=true then fi2 d7 m8 fun zs m3=>cH (stepI g2 t2 f) zs acc d7 m3 (fun acc' d' m'=>cH (fY g t fi2 (stepI g2 t2 f)) (xs.drop (i+1)) acc' d' m' (fun ps _ m2=>RL ps m2)) else cH (fY g t fi2 (stepI g2 t2 f)) (xs.drop (i+1)) acc d7 m8 (fun ps _ m2=>RL ps m2)) I7
    ⟨_,d7,m7,_,ok7,rs7,q7,fun b m8 H8 q8 e8 ok8=>⟨m8,e8,ok8,q8⟩⟩) fun b s8 hq0=>?_
   obtain⟨H8,I8,m8,e8,ok8,q8⟩:=hq0;have e68:=e7.trans e8
   have hD8:H8 s₂.heap.objs.size=some (.lst ys):=(e68.z _ (.inr rfl)).trans hDy
   cases b with
   | false =>
    rw[if_neg am]at q8;exact over I8 hD8 (RPs.ext e68 _ _ racc) (jK eX hD hkD e68) ok8 (rs7.ext e8) q8
   | true =>
    rw[if_pos rfl]at q8;rw[if_pos rfl];have nz:¬ Z s₂.heap.objs.size:=fun z=>(ok1.z _ z).2 hD
    have ic:=Z5 (Y:=aX X scope cl HP.objs.size NC s₂ H2 pins fp) (tg:=tg) (iter:=iter) (ifs:=ifs) (scope:=scope) (pos:=pos) hc (fun _ _ z=>z) (hi2 cl _ s₂ H2 pins fp) (hg2 cl _ s₂ H2 pins fp) (ht2 cl _ s₂ H2 pins fp) (he cl _ s₂ H2 pins fp) I8 nz hD8 (RPs.ext e68 _ _ racc) ok8 (rs7.ext e8) q8
    refine aS ic fun xv9 s9 h9=>aS h9 fun it9 s10 h10=>codeAny_mono h10 ?_;rintro r s11 ⟨hr,σ',H',ys',acc',d',m',I11,hD11,racc11,e11,ok11,rs11,q11⟩;exact⟨hr,over I11 hD11 racc11 (t8 (jK eX hD hkD e68) hD hkD e11) ok11 rs11 q11⟩
  ·have e:i=xs.length:=by omega
   subst e;rw[List.drop_length]at lp5;refine aS (T.done (aX X scope cl HP.objs.size NC s₂ H2 pins fp) rfl rfl rfl hc _ [] s4 σ' H' (fun _ _=>False) I5 stat st5 y2) fun r s5 hq0=>?_;obtain⟨hr,I6⟩:=hq0;subst hr;have IX:=sW I2 f2 I6 leC (Heap.SameBut.refl _ _)
   have nz:¬ Z s₂.heap.objs.size:=fun z=>(ok1.z _ z).2 hD
   refine fin s5 HP.objs.size s₂.heap.objs.size H' m' acc lp5 (e1.trans eX) (yD ok5) ?_ ⟨_,I6.loc.choose_spec.1⟩ IX ⟨I6.free,Nat.ne_of_gt (aj I2.lt leC),Nat.le_trans I2.sz leC,fun x c e=>?_,fun p hp=>?_⟩
   ·simp only[RD,RP];exact⟨_,ys,rfl,⟨(ok5.z _ (.inr rfl)).1,nz⟩,.inl (.inl hDy),RPs.tr (fun _ _ q=>q) (fun a vs q1 q2=>⟨⟨q1.1,fun z=>q1.2 (.inl z)⟩,q2⟩) _ _ racc⟩
   ·obtain⟨v,q⟩:=I2.cell x c e;exact ao (aj q.lt leC)
   ·exact ao (aj (ag (I2.pin p hp).1) leC)
 exact codeAny_compStart_list (loop _ rfl) (T.self _ 0 _ _ _ st4 (loop _ rfl))
theorem A4(src:List (Option Nat))(hc:X.calm=true)(hi:PI X tg iter (LI X.K fi))
  (hg:∀ cl C s2 H2 pins fp,PG (aX X scope cl C NC s2 H2 pins fp) tg (LG X.K g)) (ht:∀ cl C s2 H2 pins fp,PF (aX X scope cl C NC s2 H2 pins fp) ifs (LT X.K t)) (hi2:∀ cl C s2 H2 pins fp,PI (aX X scope cl C NC s2 H2 pins fp) tg2 iter2 (LI X.K fi2)) (hg2:∀ cl C s2 H2 pins fp,PG (aX X scope cl C NC s2 H2 pins fp) tg2 (LG X.K g2)) (ht2:∀ cl C s2 H2 pins fp,PF (aX X scope cl C NC s2 H2 pins fp) ifs2 (LT X.K t2))
  (he:∀ cl C s2 H2 pins fp,PE (aX X scope cl C NC s2 H2 pins fp) elt (LE X.K f)) (hs2:∀ cl C x,foldedSetIterable iter2 (compEnvC scope cl C X.env) x=pure x)
  (hkind:scope.kind=.function) (hcell:∀ y∈scope.names,y.2≠.cell) (hnames:∀ y∈scope.names,y.2=.local->scope.names.lookup y.1=some .local)
  (hfree:∀ x,(x,NameKind.free)∈scope.names->X.env.kindOf x=some .cell\/X.env.kindOf x=some .free) (hsrc:jN X scope NC src)
  (hs:∀ x,foldedSetIterable iter X.env x=pure x:=by intro _;rfl) :
  PE X (.ListComp elt [⟨tg,iter,ifs,0⟩,⟨tg2,iter2,ifs2,0⟩] scope pos) (LE X.K (rE src fi g t fi2 g2 t2 f)):=by
 intro pins s σ H Q I h;obtain⟨Z,d,m,R,ok,rs,h,k⟩:=h;rw[eval_ListComp];refine D3 src hc hi hg ht hi2 hg2 ht2 he hs2 hkind hcell hnames hfree hsrc hs (use:=none) (QQ:=EP X pins σ Q) (RL:=fun ps m2=>R (.dat (.list ps)) m2) I ok rs h ?_;intro s5 C D H' m' ps q e ok' rd ⟨mm,hns⟩ I5 off;exact⟨mm,hns,fun h' hs'=>⟨.ref D,H',off.inv I5 hs',rfl,k _ m' _ H' q e ok' rd⟩⟩
theorem Zl{k n:Nat}{fa:Addr}{fd:FuncData}{ps:List Str}{sp:DC}{x:Str}{p:Pos}(F:FnOk X.prog X.w X.K X.mg X.base eD k fa fd ps (LSp X.K n sp))(hr:Room k X.A)(hm:X.mg x=some (.ref fa))(hk:PySem.W.keepIn X.K (.ref fa)=true)
  (hb:Binds X.K fd ps []) (hx:X.xe=fun _ _=>False) (hg:Gl X x:=by rfl) (hdb:(x==("__debug__" : Str))=false:=by decide):PE X (.Call (.Name x p) [] [] pos) (LE X.K (aT n sp aG)) :=
 PE.imp (D0 F hr hg hm hk hb .nil (Fs (X:=X)) hdb) fun s H Q h=>by
  obtain⟨Z,d,m,R,ok,rs,⟨hl,q⟩,k⟩:=h;exact⟨Z,[],m,R,ok,by simp[RDs],hl,q,fun d' m' v' H' h1 h2 h3 h4=>k d' m' v' H' h1 h2 h3 h4⟩
theorem Vs(NC:List Str)(src:List (Option Nat))(hc:X.calm=true)(hi:PI X tg iter (LI X.K fi))
  (hg:∀ cl C s2 H2 pins fp,PG (aX X scope cl C NC s2 H2 pins fp) tg (LG X.K g)) (ht:∀ cl C s2 H2 pins fp,PF (aX X scope cl C NC s2 H2 pins fp) ifs (LT X.K t))
  (hi2:∀ cl C s2 H2 pins fp,PI (aX X scope cl C NC s2 H2 pins fp) tg2 iter2 (LI X.K fi2)) (hg2:∀ cl C s2 H2 pins fp,PG (aX X scope cl C NC s2 H2 pins fp) tg2 (LG X.K g2)) (ht2:∀ cl C s2 H2 pins fp,PF (aX X scope cl C NC s2 H2 pins fp) ifs2 (LT X.K t2))
  (he:∀ cl C s2 H2 pins fp,PE (aX X scope cl C NC s2 H2 pins fp) elt (LE X.K f))
  (hkind:scope.kind=.function:=by rfl) (hB:chkB scope X.env=true:=by rfl) (hS:chkS X.N scope X.env NC src=true:=by rfl)
  (hs2:∀ cl C x,foldedSetIterable iter2 (compEnvC scope cl C X.env) x=pure x:=by intro _ _ _;rfl)
  (hs:∀ x,foldedSetIterable iter X.env x=pure x:=by intro _;rfl):PE X (.ListComp elt [⟨tg,iter,ifs,0⟩,⟨tg2,iter2,ifs2,0⟩] scope pos) (LE X.K (rE src fi g t fi2 g2 t2 f)) :=
 A4 (NC:=NC) src hc hi hg ht hi2 hg2 ht2 he hs2 hkind (chkB.ok hB).1 (chkB.ok hB).2.1 (chkB.ok hB).2.2 (chkS.ok hS) hs
end
section
variable {prog:Program}{w:World}{A:Around}{E:Value->Shared->Prop}{s:Shared}
theorem tO{it tq:Addr}{i:Nat}{its:Array Value}{x:Value}{Q:Value->Shared->Prop}(hit:s.heap.IsTupleIter it tq i)(ht:s.heap.IsTuple tq its)(hx:its[i]?=some x)
  (hQ:∀ h',h'.IsTupleIter it tq (i+1)->Heap.SameBut it s.heap h'->Q x {s with heap:=h'}):wpAny (model prog w) A (Builtin.SmallTypes.nextOf (.ref it)) Q E s:=by
 obtain⟨o,ho,hc,hd⟩:=id hit;obtain⟨ol,hol,_,nl,hdl⟩:=ht;unfold Builtin.SmallTypes.nextOf;refine ae (wpAny_callSpecial?_slot (name:=Str.ofString "__next__") hit.typeIs F.slot_tuple_iterator_next (wpAny_call_entry F.slot_tuple_iterator_next hit.typeIs F.entry_tuple_iterator_next ?_ (F.args_tuple_iterator_next_1 _)));show wpAny _ _ (field (.ref it) 0>>=_) _ _ _;refine ae (wpAny_field ho hd (x:=.ref tq) rfl ?_)
 show wpAny _ _ (if (Value.ref tq==Value.none)=true then _ else _) _ _ s
 rw[if_neg (show ¬ ((Value.ref tq==Value.none)=true) from am)]
 show wpAny _ _ (field (.ref it) 1>>=_) _ _ _;refine ae (wpAny_field ho hd (x:=.int i 0) rfl ?_)
 show wpAny _ _ (seqItems? (.ref tq)>>=_) _ _ s
 refine ae (wpAny_seqItems hol hdl ?_);simp only[Int.toNat_natCast,hx];refine ae (wpAny_setField ho hd #[2] (af ⟨_,rfl,af (hQ _ ?_ (Heap.SameBut.update ..))⟩))
 refine⟨_,Heap.get?_update_self _ ho (Obj.isFreed_of_fields (Obj.data_mapFields hd _)),(Obj.cls_mapFields ..).trans hc,?_⟩;rw[Obj.data_mapFields hd]<;>simp[rawInt]
theorem Fa{it tq:Addr}{i:Nat}{its:Array Value}{Q:Value->Shared->Prop}(hh:A.handled=none)(hit:s.heap.IsTupleIter it tq i)(ht:s.heap.IsTuple tq its)(hx:its[i]?=none)
  (hE:∀ h' e,Heap.ExtBut it s.heap h'->(∃ o,h'.get? e=some o/\o.cls=.type "StopIteration")->E (.ref e) {s with heap:=h'}):wpAny (model prog w) A (Builtin.SmallTypes.nextOf (.ref it)) Q E s:=by
 obtain⟨o,ho,hc,hd⟩:=id hit;obtain⟨ol,hol,_,nl,hdl⟩:=ht;unfold Builtin.SmallTypes.nextOf;refine ae (wpAny_callSpecial?_slot (name:=Str.ofString "__next__") hit.typeIs F.slot_tuple_iterator_next (wpAny_call_entry F.slot_tuple_iterator_next hit.typeIs F.entry_tuple_iterator_next ?_ (F.args_tuple_iterator_next_1 _)));show wpAny _ _ (field (.ref it) 0>>=_) _ _ _;refine ae (wpAny_field ho hd (x:=.ref tq) rfl ?_)
 show wpAny _ _ (if (Value.ref tq==Value.none)=true then _ else _) _ _ s
 rw[if_neg (show ¬ ((Value.ref tq==Value.none)=true) from am)]
 show wpAny _ _ (field (.ref it) 1>>=_) _ _ _;refine ae (wpAny_field ho hd (x:=.int i 0) rfl ?_)
 show wpAny _ _ (seqItems? (.ref tq)>>=_) _ _ s
 refine ae (wpAny_seqItems hol hdl ?_);simp only[Int.toNat_natCast,hx];refine ae (wpAny_rule (ae (wpAny_setField ho hd #[2] ?_)));show wpAny _ _ (newExc (.type "StopIteration") []>>=_) _ _ _
 refine ae ?_;simp only[newExc,newTuple];refine ae (wpAny_newObj_type ?_ (by size_fits))
 refine ae (m:=firstArgMember _ _) (wpAny_of_eq (a:=Value.none) (by first | rfl | (simp only[firstArgMember];rfl)) ?_);refine wpAny_newObj_type ?_ (by size_fits)
 simp only[raiseNew];refine ae (wpAny_handled ?_)
 (first | rw[show A.in1.handled=none from hh] | rw[hh]);refine ae (af (wpAny_throw ?_))
 exact hE _ _ (((Heap.SameBut.update ..).extBut.push _).push _) ⟨_,ai _ rfl,rfl⟩
structure Zst (h:Heap) (z TI TO i1 i2 t1 t2:Addr) (f0:Value) (k:Nat):Prop where
 z:IsZip h z TI TO f0
 ti:IsPair h TI (.ref i1) (.ref i2)
 to:∃ a b,IsPair h TO a b
 a:h.IsTupleIter i1 t1 k
 b:h.IsTupleIter i2 t2 k
theorem A7{z TI TO i1 i2 t1 t2:Addr}{k:Nat}{xs ys:Array Value}{x y:Value}{Q:Value->Shared->Prop}(D:ZipApart z TI TO i1 i2 t1 t2)(S:Zst s.heap z TI TO i1 i2 t1 t2 .none k)
  (g1:s.heap.IsTuple t1 xs) (g2:s.heap.IsTuple t2 ys) (hx:xs[k]?=some x) (hy:ys[k]?=some y)
  (hQ:∀ h',Zst h' z TI TO i1 i2 t1 t2 (rawInt s.heap.objs.size) (k+1)->IsPair h' s.heap.objs.size x y ->
   (∀ c o,c≠z->c≠TO->c≠i1->c≠i2->s.heap.get? c=some o->h'.get? c=some o)->Q (.ref s.heap.objs.size) {s with heap:=h'}) :
  wpAny (model prog w) A (Builtin.«zip.__next__» ⟨[.ref z],[]⟩) (fun fin s'=>∃ v,fin=.done (.ret v)/\Q v s') E s:=by
 obtain⟨hz,hTI,⟨a,b,hTO⟩,h1,h2⟩:=S;show wpAny _ _ (field (.ref z) 2>>=_) _ _ _;refine ae (wpAny_field hz rfl (x:=.bool false) rfl ?_)
 show wpAny _ _ (field (.ref z) 3>>=_) _ _ _;refine ae (wpAny_field hz rfl (x:=.ref TI) rfl (ae (wpAny_seqItems hTI rfl ?_)))
 show wpAny _ _ (Builtin.SmallTypes.ownedTupleIsFree (.ref z)>>=_) _ _ _;refine ae ?_
 unfold Builtin.SmallTypes.ownedTupleIsFree;refine ae (wpAny_field hz rfl (x:=.none) rfl (af ?_));simp only[if_true];refine ae (wpAny_rule (ae (wpAny_field hz rfl (x:=.ref TO) rfl ?_)));refine ae (wpAny_setField_rec hz #[2] fun n1 z1 c1=>?_);replace z1:IsZip n1 z TI TO .ellipsis:=z1
 refine ae ?_;simp only[List.zipIdx_cons,List.zipIdx_nil,List.forIn_cons,List.forIn_nil];refine ae (ae (wpAny_onRaise ?_));show wpAny _ _ (Builtin.SmallTypes.nextOf (.ref i1)>>=_) _ _ _
 refine ae (tO (h1.at fun o e=>c1.extBut _ o D.i1z e) (g1.extBut c1.extBut D.l1z) hx fun n2 b2 c2=>af ?_);have p2:IsPair n2 TO a b:=c2.extBut _ _ D.TOi1 (c1.extBut _ _ D.TOz hTO)
 refine ae (wpAny_seqItems p2 rfl (ae (wpAny_updateSeq_pair p2 fun n3 p3 c3=>?_)));replace p3:IsPair n3 TO x b:=p3;refine ae (wpAny_letGo (af (ae (ae (wpAny_onRaise ?_)))));show wpAny _ _ (Builtin.SmallTypes.nextOf (.ref i2)>>=_) _ _ _
 have up3:∀ c o,c≠z->c≠TO->c≠i1->s.heap.get? c=some o->n3.get? c=some o:=fun c o q1 q2 q3 e=>c3.extBut _ _ q2 (c2.extBut _ _ q3 (c1.extBut _ _ q1 e))
 have g23:n3.IsTuple t2 ys:=by
  obtain⟨o,ho,r⟩:=g2;exact⟨o,up3 _ _ D.l2z D.l2TO D.l2i1 ho,r⟩
 refine ae (tO (h2.at fun o e=>up3 _ o D.i2z D.TOi2.symm D.i12.symm e) g23 hy fun n4 b4 c4=>af ?_);have p4:IsPair n4 TO x b:=c4.extBut _ _ D.TOi2 p3
 refine ae (wpAny_seqItems p4 rfl (ae (wpAny_updateSeq_pair p4 fun n5 p5 c5=>?_)));replace p5:IsPair n5 TO x y:=p5;refine ae (wpAny_letGo (af (af (ae (wpAny_seqItems p5 rfl (ae (wpAny_newTuple ?_)))))));have size5:n5.objs.size=s.heap.objs.size:=by rw[c5.1,c4.1,c3.1,c2.1,c1.1]
 have z5:IsZip n5 z TI TO .ellipsis:=c5.extBut _ _ D.TOz.symm (c4.extBut _ _ D.i2z.symm (c3.extBut _ _ D.TOz.symm (c2.extBut _ _ D.i1z.symm z1)))
 have up5:∀ c o,c≠z->c≠TO->c≠i1->c≠i2->s.heap.get? c=some o->n5.get? c=some o:=fun c o q1 q2 q3 q4 e=>c5.extBut _ _ q2 (c4.extBut _ _ q4 (up3 c o q1 q2 q3 e))
 have a5:n5.IsTupleIter i1 t1 (k+1):=b2.at fun o e=>c5.extBut _ _ D.TOi1.symm (c4.extBut _ _ D.i12 (c3.extBut _ _ D.TOi1.symm e))
 have b5:n5.IsTupleIter i2 t2 (k+1):=b4.at fun o e=>c5.extBut _ _ D.TOi2.symm e
 have zlt:z<n5.objs.size:=ag z5
 show wpAny _ _ (Builtin.SmallTypes.ownedTupleHandOut (.ref z) (.ref n5.objs.size)>>=_) _ _ _;refine ae ?_
 unfold Builtin.SmallTypes.ownedTupleHandOut;have z6:IsZip (n5.push {cls:=.type "tuple",data:=.seq #[x,y]}) z TI TO .ellipsis:=ah _ z5
 refine ae (wpAny_setField_rec z6 #[2] fun n7 z7 c7=>?_);replace z7:IsZip n7 z TI TO (rawInt n5.objs.size):=z7
 refine wpAny_setField_rec z7 #[2] fun n8 z8 c8=>?_;replace z8:IsZip n8 z TI TO (rawInt n5.objs.size):=z8
 have up8:∀ c o,c≠z->n5.get? c=some o->n8.get? c=some o:=fun c o q e=>c8.extBut _ _ q (c7.extBut _ _ q (ah _ e))
 have new8:IsPair n8 n5.objs.size x y:=c8.extBut _ _ (Nat.ne_of_gt zlt) (c7.extBut _ _ (Nat.ne_of_gt zlt) (ai _ rfl))
 rw[size5]at z8 new8;refine af ⟨_,rfl,?_⟩;show Q (.ref n5.objs.size) _
 rw[size5];exact hQ n8 ⟨z8,up8 _ _ D.TIz (up5 _ _ D.TIz D.TITO D.TIi1 D.TIi2 hTI),⟨x,y,up8 _ _ D.TOz p5⟩,a5.at fun o e=>up8 _ o D.i1z e,b5.at fun o e=>up8 _ o D.i2z e⟩ new8 fun c o q1 q2 q3 q4 e=>up8 c o q1 (up5 c o q1 q2 q3 q4 e)
theorem M1{z TI TO i1 i2 t1 t2:Addr}{k:Nat}{xs ys:Array Value}{Q:Fin->Shared->Prop}(hh:A.handled=none)(D:ZipApart z TI TO i1 i2 t1 t2)(S:Zst s.heap z TI TO i1 i2 t1 t2 .none k)
  (g1:s.heap.IsTuple t1 xs) (g2:s.heap.IsTuple t2 ys) (hend:xs[k]?=none\/ys[k]?=none)
  (hE:∀ h' e,(∀ c o,c≠z->c≠TO->c≠i1->c≠i2->s.heap.get? c=some o->h'.get? c=some o)->(∃ o,h'.get? e=some o/\o.cls=.type "StopIteration")->E (.ref e) {s with heap:=h'}) :
  wpAny (model prog w) A (Builtin.«zip.__next__» ⟨[.ref z],[]⟩) Q E s:=by
 obtain⟨hz,hTI,⟨a,b,hTO⟩,h1,h2⟩:=S;show wpAny _ _ (field (.ref z) 2>>=_) _ _ _;refine ae (wpAny_field hz rfl (x:=.bool false) rfl ?_)
 show wpAny _ _ (field (.ref z) 3>>=_) _ _ _;refine ae (wpAny_field hz rfl (x:=.ref TI) rfl (ae (wpAny_seqItems hTI rfl ?_)))
 show wpAny _ _ (Builtin.SmallTypes.ownedTupleIsFree (.ref z)>>=_) _ _ _;refine ae ?_
 unfold Builtin.SmallTypes.ownedTupleIsFree;refine ae (wpAny_field hz rfl (x:=.none) rfl (af ?_));simp only[if_true];refine ae (wpAny_rule (ae (wpAny_field hz rfl (x:=.ref TO) rfl ?_)));refine ae (wpAny_setField_rec hz #[2] fun n1 z1 c1=>?_);replace z1:IsZip n1 z TI TO .ellipsis:=z1
 refine ae ?_;simp only[List.zipIdx_cons,List.zipIdx_nil,List.forIn_cons,List.forIn_nil];refine ae (ae (wpAny_onRaise ?_));show wpAny _ _ (Builtin.SmallTypes.nextOf (.ref i1)>>=_) _ _ _
 have apart:∀ (n:Heap) (e:Addr) (oe:Obj),IsZip n z TI TO .ellipsis->n.get? e=some oe->oe.cls=.type "StopIteration"->e≠z:=fun n e oe q q1 q2 q3=>by
  subst q3;rw[q]at q1
  cases q1
  simp at q2
 cases hx:xs[k]? with
 | none =>
  refine ae (Fa hh (h1.at fun o e=>c1.extBut _ o D.i1z e) (g1.extBut c1.extBut D.l1z) hx fun n2 e c2 he=>?_);obtain⟨oe,q1,q2⟩:=he;have z2:IsZip n2 z TI TO .ellipsis:=c2 _ _ D.i1z.symm z1
  exact wpAny_setField_rec z2 #[2] fun n3 _ c3=>hE n3 e (fun c o r1 _ r3 _ q=>c3.extBut _ _ r1 (c2 _ _ r3 (c1.extBut _ _ r1 q))) ⟨oe,c3.extBut _ _ (apart _ _ _ z2 q1 q2) q1,q2⟩
 | some x =>
  have hy:ys[k]?=none:=by
   rcases hend with h | h
   ·rw[hx]at h;cases h
   ·exact h
  refine ae (tO (h1.at fun o e=>c1.extBut _ o D.i1z e) (g1.extBut c1.extBut D.l1z) hx fun n2 b2 c2=>af ?_);have p2:IsPair n2 TO a b:=c2.extBut _ _ D.TOi1 (c1.extBut _ _ D.TOz hTO)
  refine ae (wpAny_seqItems p2 rfl (ae (wpAny_updateSeq_pair p2 fun n3 p3 c3=>?_)));refine ae (wpAny_letGo (af (ae (ae (wpAny_onRaise ?_)))));show wpAny _ _ (Builtin.SmallTypes.nextOf (.ref i2)>>=_) _ _ _
  have up3:∀ c o,c≠z->c≠TO->c≠i1->s.heap.get? c=some o->n3.get? c=some o:=fun c o q1 q2 q3 e=>c3.extBut _ _ q2 (c2.extBut _ _ q3 (c1.extBut _ _ q1 e))
  have g23:n3.IsTuple t2 ys:=by
   obtain⟨o,ho,r⟩:=g2;exact⟨o,up3 _ _ D.l2z D.l2TO D.l2i1 ho,r⟩
  refine ae (Fa hh (h2.at fun o e=>up3 _ o D.i2z D.TOi2.symm D.i12.symm e) g23 hy fun n4 e c4 he=>?_);obtain⟨oe,q1,q2⟩:=he;have z4:IsZip n4 z TI TO .ellipsis:=c4 _ _ D.i2z.symm (c3.extBut _ _ D.TOz.symm (c2.extBut _ _ D.i1z.symm z1))
  exact wpAny_setField_rec z4 #[2] fun n5 _ c5=>hE n5 e (fun c o r1 r2 r3 r4 q=>c5.extBut _ _ r1 (c4 _ _ r4 (up3 c o r1 r2 r3 q))) ⟨oe,c5.extBut _ _ (apart _ _ _ z4 q1 q2) q1,q2⟩
end
section
variable {X:Cx}{pins:List (Addr×Obj)}{σ:L2.St}{H:Hp}{s:Shared}{h':Heap}
theorem jX{t':Nat}{ch:List Addr}(I:Inv X pins σ H s)(k:∀ b o,b∉ch->s.heap.get? b=some o->h'.get? b=some o)(hf:∀ b∈ch,cK X pins H b):Inv X pins σ H {s with heap:=h',toks:=t'}:=by
 have nit:∀ b u,H b=some u->b∉ch:=fun b u e z=>by rw[(hf b z).1]at e;cases e
 refine I.step (g':=s.gens) (d':=s.drawn) (ch:=ch) (fun b hb=>?_) (fun b o _ _ hc e _=>k b o hc e) (fun b o _ _ hc e _=>⟨o.slots,k b o hc e⟩) (fun _ _ _ _ n=>n) (fun b o hc e=>⟨o,k b o hc e⟩) (fun _ _ e=>e) (fun _ _ _ e=>e) (fun b ps e=>⟨#[],by rw[e];simp⟩) (fun m hm=>?_) (fun b u e=>?_) I.bare
 ·obtain⟨_,f1,_,f3,f4,f5⟩:=hf b hb;exact⟨f3,f1,f4,f5⟩
 ·obtain⟨o,es,ep,ho,r⟩:=hm;exact⟨o,es,ep,k _ o (fun z=>(hf _ z).2.1 rfl) ho,r⟩
 ·refine(I.hok b u e).stay (fun c v hc q=>k c v ?_ q) (fun _ q=>q) (fun _ _ q=>q) fun _ _ _ q=>q;rcases hc with z | z
  ·rw[z];exact nit b u e
  ·exact nit c _ z
end
section
variable {prog:Program}{w:World}{A:Around}{E:Value->Shared->Prop}{s:Shared}
abbrev qA(h:Heap)(t1:Addr):Heap:=h.push {cls:=.type "tuple_iterator",data:=.fields #[.ref t1,.int 0 0]}
abbrev qJ(h:Heap)(t1 t2:Addr):Heap:=(qA h t1).push {cls:=.type "tuple_iterator",data:=.fields #[.ref t2,.int 0 0]}
abbrev rF(h:Heap)(t1 t2:Addr):Heap:=(qJ h t1 t2).push {cls:=.type "tuple",data:=.seq #[.ref h.objs.size,.ref (qA h t1).objs.size]}
abbrev qO(h:Heap)(t1 t2:Addr):Heap:=(rF h t1 t2).push {cls:=.type "tuple",data:=.seq #[.none,.none]}
abbrev lP(h:Heap)(t1 t2:Addr):Heap:=(qO h t1 t2).push {cls:=.type "zip",data:=.fields #[.none,.bool false,.bool false,.ref (qJ h t1 t2).objs.size,.ref (rF h t1 t2).objs.size]}
theorem BL{h:Heap}{t:Addr}{xs:Array Value}(g:h.IsTuple t xs)(o:Obj):(h.push o).IsTuple t xs:=by
 obtain⟨u,hu,r⟩:=g;exact⟨u,ah _ hu,r⟩
theorem Yn(t1 t2:Addr)(xs ys:Array Value):Meets (Builtin.«zip.__new__» ⟨[.type "zip",.ref t1,.ref t2],[]⟩) (fun _ R s=>s.heap.IsTuple t1 xs/\s.heap.IsTuple t2 ys /\
  R (.ok (.ret (.ref (qO s.heap t1 t2).objs.size))) {s with heap:=lP s.heap t1 t2}):=.of_wp fun prog w A R s hs=>by
 obtain⟨hp,g,d,tk,os⟩:=s;obtain⟨hl1,hl2,h⟩:=hs;have hsub:=sub_zip
 have u1:Heap.IsTuple (Shared.heap ⟨hp,g,d,tk,os⟩) t1 xs:=hl1
 have u2:Heap.IsTuple (Shared.heap ⟨hp.push {cls:=.type "tuple_iterator",data:=.fields #[.ref t1,.int 0 0]},g,d,tk,os⟩) t2 ys:=BL hl2 _
 wp_walk using wpAny_pyIter_tuple u1,wpAny_pyIter_tuple u2
 exact⟨_,rfl,h⟩
theorem Wc{t1 t2:Addr}{xs ys:Array Value}{Q:Value->Shared->Prop}(g1:s.heap.IsTuple t1 xs)(g2:s.heap.IsTuple t2 ys)
  (h:∀ h' n,n=s.heap.objs.size->Zst h' (n+4) (n+2) (n+3) n (n+1) t1 t2 .none 0->(∀ c o,s.heap.get? c=some o->h'.get? c=some o)->Q (.ref (n+4)) {s with heap:=h'}):wpAny (model prog w) A (call (.type "zip") [.ref t1,.ref t2]) Q E s:=by
 refine callType_new F.called_zip #[1] (F.typeCall_zip_2 _ _) (F.newCall_zip_2 _ _) (fun obj=>F.args_object_init_3 obj _ _) F.entry_zip_new (Yn t1 t2 xs ys) ⟨g1,g2,?_⟩
 have z1:(qA s.heap t1).objs.size=s.heap.objs.size+1:=Heap.size_push ..
 have z2:(qJ s.heap t1 t2).objs.size=s.heap.objs.size+2:=by rw[Heap.size_push,z1]
 have z3:(rF s.heap t1 t2).objs.size=s.heap.objs.size+3:=by rw[Heap.size_push,z2]
 have z4:(qO s.heap t1 t2).objs.size=s.heap.objs.size+4:=by rw[Heap.size_push,z3]
 have a5:(lP s.heap t1 t2).get? (qO s.heap t1 t2).objs.size=some _:=ai _ rfl
 have a4:(lP s.heap t1 t2).get? (rF s.heap t1 t2).objs.size=some _:=ah _ (ai _ rfl)
 have a3:(lP s.heap t1 t2).get? (qJ s.heap t1 t2).objs.size=some _:=ah _ (ah _ (ai _ rfl))
 have a2:(lP s.heap t1 t2).get? (qA s.heap t1).objs.size=some _:=ah _ (ah _ (ah _ (ai _ rfl)))
 have a1:(lP s.heap t1 t2).get? s.heap.objs.size=some _:=ah _ (ah _ (ah _ (ah _ (ai _ rfl))))
 show _/\_
 rw[z2,z3,z4]at a5;rw[z1,z2]at a3;rw[z3]at a4;rw[z1]at a2;rw[z4];exact⟨⟨_,a5,rfl⟩,h _ _ rfl ⟨a5,a3,⟨_,_,a4⟩,⟨_,a1,rfl,rfl⟩,⟨_,a2,rfl,rfl⟩⟩ fun c o x=>ah _ (ah _ (ah _ (ah _ (ah _ x))))⟩
end
def Sy(K:ad)(t1 t2:Addr)(n:Nat):It :=
 ⟨fun i H=>i<n/\∃ xs ys,SqT K H t1 xs/\SqT K H t2 ys/\n=min xs.length ys.length,fun i H v H'=>∃ p x y,v=.ref p/\H p=none/\H'=upd H p (.tup [x,y])/\∀ xs ys,SqT K H t1 xs->SqT K H t2 ys->xs[i]?=some x/\ys[i]?=some y,
  fun i H=>i=n/\∃ xs ys,SqT K H t1 xs/\SqT K H t2 ys/\n=min xs.length ys.length⟩
theorem U2{P:Program}{w:World}{K:ad}{elts:List Expr}{j:Nat}{pos:Pos}{z TI TO i1 i2 t1 t2:Addr}{n:Nat}(D:ZipApart z TI TO i1 i2 t1 t2) :
  Turn P w K (.Tuple elts j pos) (Sy K t1 t2 n) [z,TI,TO,i1,i2] z (fun i h=>Zst h z TI TO i1 i2 t1 t2 .none i) where
 mem:=by simp
 obj:=fun i h st b hb=>by
  obtain⟨h1,h2,⟨a,c,h3⟩,⟨o4,e4,_,d4⟩,⟨o5,e5,_,d5⟩⟩:=st;simp only[List.mem_cons,List.not_mem_nil,or_false]at hb;rcases hb with rfl | rfl | rfl | rfl | rfl
  ·exact⟨_,h1,fun v q=>nomatch q⟩
  ·exact⟨_,h2,fun v q=>nomatch q⟩
  ·exact⟨_,h3,fun v q=>nomatch q⟩
  ·exact⟨_,e4,fun v q=>by rw[d4]at q;cases q⟩
  ·exact⟨_,e5,fun v q=>by rw[d5]at q;cases q⟩
 keep:=fun i h h' st k=>by
  obtain⟨h1,h2,⟨a,c,h3⟩,h4,h5⟩:=st;exact⟨k z #[2] _ h1,k TI #[2] _ h2,⟨a,c,k TO #[2] _ h3⟩,h4.at fun o e=>k i1 #[2] o e,h5.at fun o e=>k i2 #[2] o e⟩
 item:=by
  intro X hP hw hK hc i pins s σ H E I hf st hg;subst hP hw hK;obtain⟨hi,xs,ys,q1,q2,hn⟩:=hg;obtain⟨its1,r1,p1,l1⟩:=I.tuple q1;obtain⟨its2,r2,p2,l2⟩:=I.tuple q2;have e1:xs[i]?=some (xs[i]'#[0]):=List.getElem?_eq_getElem #[0]
  have e2:ys[i]?=some (ys[i]'#[0]):=List.getElem?_eq_getElem #[0]
  obtain⟨u1,hu1,ru1⟩:=r1.get e1;obtain⟨u2,hu2,ru2⟩:=r2.get e2;have hT:s.TypeIs (.ref z) "zip":=⟨_,st.z,rfl⟩
  have hp:H s.heap.objs.size=none:=I.hok.fresh (ak _)
  unfold pyNext;refine ae (wpAny_attempt (wpAny_callSpecial?_slot (name:=Str.ofString "__next__") hT F.slot_zip_next (wpAny_call_entry F.slot_zip_next hT F.entry_zip_next (A7 D st (show s.heap.IsTuple t1 its1.toArray from p1) (show s.heap.IsTuple t2 its2.toArray from p2) #[4,hu1] #[4,hu2] fun h' st' np k=>af ?_) (F.args_zip_next_1 _))))
  refine⟨_,rfl,?_⟩;refine wpAny_letOwnedTupleGo_zip (s:={s with heap:=h'}) st'.z fun h2 z2 c2=>?_;have I1:Inv X pins σ (upd H s.heap.objs.size (.tup [_,_])) {s with heap:=s.heap.push {cls:=.type "tuple",data:=.seq #[u1,u2]}} :=
   I.laid (t':=s.toks) (fun b o e=>ah _ e) (ak _) (show ObjOk X.prog X.w _ _ _ (.tup [_,_]) from⟨⟨by show 2<=sizeLine;rw[sizeLine_eq];decide,NoD.new _ _ _⟩,[u1,u2],.cons ru1 (.cons ru2 .nil),IsTup.new _ _⟩)
  have lt:∀ {c o},s.heap.get? c=some o->c≠s.heap.objs.size:=fun e=>ao (ag e)
  have zne:s.heap.objs.size≠z:=fun e=>lt st.z e.symm
  have hf':∀ b∈[z,TI,TO,i1,i2],cK X pins (upd H s.heap.objs.size (.tup [xs[i]'#[0],ys[i]'#[0]])) b:=fun b hb=>by
   obtain⟨f0,f1,f2,f3,f4,f5⟩:=hf b hb;refine⟨?_,f1,f2,f3,f4,f5⟩;rw[bF]
   ·exact f0
   ·obtain⟨h1,h2,⟨a,c,h3⟩,⟨o4,e4,_⟩,⟨o5,e5,_⟩⟩:=st;simp only[List.mem_cons,List.not_mem_nil,or_false]at hb;rcases hb with rfl | rfl | rfl | rfl | rfl
    ·exact lt h1
    ·exact lt h2
    ·exact lt h3
    ·exact lt e4
    ·exact lt e5
  have kk:∀ b o,b∉[z,TI,TO,i1,i2]->(s.heap.push {cls:=.type "tuple",data:=.seq #[u1,u2]}).get? b=some o->h2.get? b=some o:=fun b o hb e=>by
   simp only[List.mem_cons,List.not_mem_nil,or_false,not_or]at hb;obtain⟨n1,n2,n3,n4,n5⟩:=hb;refine c2.extBut _ _ n1 ?_;rcases Heap.get?_push_cases e with⟨rfl,rfl⟩ | e
   ·exact np
   ·exact k b o n1 n3 n4 n5 e
  have I2:=jX (s:={s with heap:=s.heap.push {cls:=.type "tuple",data:=.seq #[u1,u2]}}) (h':=h2) (t':=s.toks) (ch:=[z,TI,TO,i1,i2]) I1 kk hf'
  refine⟨.ref s.heap.objs.size,upd H s.heap.objs.size (.tup [xs[i]'#[0],ys[i]'#[0]]),I2,rfl,⟨_,_,_,rfl,hp,rfl,fun xs' ys' g1 g2=>?_⟩,?_,fun b hb=>(hf' b hb).1⟩
  ·rw[I.tuple_inj g1 q1,I.tuple_inj g2 q2];exact⟨e1,e2⟩
  ·obtain⟨h1,h2',⟨a,c,h3⟩,h4,h5⟩:=st';exact⟨z2,c2.extBut _ _ D.TIz h2',⟨a,c,c2.extBut _ _ D.TOz h3⟩,h4.at fun o e=>c2.extBut _ _ D.i1z e,h5.at fun o e=>c2.extBut _ _ D.i2z e⟩
 done:=by
  intro X hP hw hK hc i pins s σ H E I hf st hg;subst hP hw hK;obtain⟨hi,xs,ys,q1,q2,hn⟩:=hg;obtain⟨its1,r1,p1,l1⟩:=I.tuple q1;obtain⟨its2,r2,p2,l2⟩:=I.tuple q2;have m1:=r1.length
  have m2:=r2.length
  have hT:s.TypeIs (.ref z) "zip":=⟨_,st.z,rfl⟩
  unfold pyNext;refine ae (wpAny_attempt (wpAny_callSpecial?_slot (name:=Str.ofString "__next__") hT F.slot_zip_next (wpAny_call_entry F.slot_zip_next hT F.entry_zip_next (M1 (I.ok.hd hc) D st (show s.heap.IsTuple t1 its1.toArray from p1) (show s.heap.IsTuple t2 its2.toArray from p2) ?_ fun h' e k he=>?_) (F.args_zip_next_1 _))))
  ·by_cases c:xs.length<=ys.length
   ·left
    simp;omega
   ·right
    simp;omega
  ·obtain⟨o,ho,hce⟩:=he;refine ae (wpAny_isInstance (T:="StopIteration") (b:=true) ⟨o,ho,hce⟩ isSubtype_stop ?_);refine af ⟨rfl,jX (t':=s.toks) (ch:=[z,TI,TO,i1,i2]) I (fun b o hb e=>?_) hf⟩;simp only[List.mem_cons,List.not_mem_nil,or_false,not_or]at hb;exact k b o hb.1 hb.2.2.1 hb.2.2.2.1 hb.2.2.2.2 e
 self:=fun _ _ _ _ _ st h=>wpAny_pyIter_zip st.z h
theorem zF(n a1 a2:Nat)(h1:a1<n)(h2:a2<n):ZipApart (n+4) (n+2) (n+3) n (n+1) a1 a2:=by
 constructor<;>exact fun e=>absurd (show(_:Nat)=_ from e) #[0]
theorem zH:bootBuiltins "zip"=some (.type "zip"):=by decide +kernel
@[simp] def uA(f g:DE):DI:=fun d m Q=>f d m fun x m1=>g d m1 fun y m2=>∃ ps qs,x=.dat (.tuple ps)/\y=.dat (.tuple qs)/\Q ((ps.zip qs).map fun z=>.dat (.tuple [z.1,z.2])) m2
section
variable {X:Cx}{a b:Expr}{elts:List Expr}{j:Nat}{f g:DE}{pos p p2:Pos}
theorem So(hg:Gl X "zip")(hm:X.mg "zip"=none)(ha:PE X a (LE X.K f))(hb:PE X b (LE X.K g))(hs:starEach [a,b] X.env=[(false,eval a X.env),(false,eval b X.env)]:=by rfl)(hs2:starEach [b] X.env=[(false,eval b X.env)]:=by rfl) :
  PI X (.Tuple elts j p2) (.Call (.Name "zip" p) [a,b] [] pos) (LI X.K (uA f g)):=by
 intro pins s σ H R I h;obtain⟨Z,d,m,ZZ,ok,rs,h,k⟩:=h;have hA:=mM (X:=X) ha (mM hb pP (by rw[hs2];rfl)) (by rw[hs,hs2]) pos pins s σ H (fun vs H1=>∃ a1 a2 xs ys ps qs m1,vs=[.ref a1,.ref a2]/\SqT X.K H1 a1 xs/\SqT X.K H1 a2 ys/\RPs X.K Z m1 H1 ps xs/\RPs X.K Z m1 H1 qs ys /\
   ZZ ((ps.zip qs).map fun z=>.dat (.tuple [z.1,z.2])) m1/\Ext X.K Z m H m1 H1/\Ok X.K Z m1 H1) I ⟨Z,d,m,fun ds m1=>match ds with | [x,y]=>∃ ps qs,x=.dat (.tuple ps)/\y=.dat (.tuple qs)/\ZZ ((ps.zip qs).map fun z=>.dat (.tuple [z.1,z.2])) m1 | _=>False,ok,rs,h,fun xs m1 vs H1 q e1 ok1 rd=>?_⟩
 ·refine Call_ (gU I hg hm zH (PyProof.Rows.callWith_type1 (aS hA fun us s1 ⟨vs,H1,I1,r1,q1⟩=>?_) (by rw[hs,hs2]) (by rw[hs2];rfl)))
  obtain⟨a1,a2,xs,ys,ps,qs,m1,e,h1,h2,rp,rq,q,e1,ok1⟩:=q1;subst e;obtain⟨u1,u2,rfl,ru1,ru2⟩:=Py r1
  cases ru1
  cases ru2
  obtain⟨its1,rv1,pt1,l1⟩:=I1.tuple h1;obtain⟨its2,rv2,pt2,l2⟩:=I1.tuple h2;refine Wc (show s1.heap.IsTuple a1 its1.toArray from pt1) (show s1.heap.IsTuple a2 its2.toArray from pt2) fun h' n hn st kp=>?_
  have D:ZipApart (n+4) (n+2) (n+3) n (n+1) a1 a2:=zF n a1 a2 (by obtain⟨o,ho,_⟩:=pt1;rw[hn];exact ag ho) (by obtain⟨o,ho,_⟩:=pt2;rw[hn];exact ag ho)
  refine wpAny_pyIter_zip (s:={s1 with heap:=h'}) st.z ?_;refine⟨n+4,[n+4,n+2,n+3,n,n+1],_,_,H1,rfl,I1.kept (t':=s1.toks) kp,U2 (n:=min xs.length ys.length) D,st,fun c hc=>?_,k _ m1 H1 _ q e1 ok1 ?_⟩
  ·have hle:s1.heap.objs.size<=c:=by
    simp only[List.mem_cons,List.not_mem_nil,or_false]at hc;subst hn;rcases hc with rfl | rfl | rfl | rfl | rfl
    ·exact Nat.le_add_right _ 4
    ·exact Nat.le_add_right _ 2
    ·exact Nat.le_add_right _ 3
    ·exact ak _
    ·exact Nat.le_add_right _ 1
   exact I1.fpOk hle (I1.hok.fresh hle)
  ·intro m2 H2 e2;have q1:=e2.t a1 xs h1
   have q2:=e2.t a2 ys h2
   have lp:=rp.length
   have lq:=rq.length
   refine⟨fun i x hx=>?_,?_,xs,ys,q1,q2,rfl⟩
   ·rw[List.getElem?_map]at hx
    cases ez:(ps.zip qs)[i]? with
    | none=>rw[ez]at hx;cases hx
    | some z =>
     rw[ez]at hx
     cases hx
     obtain⟨z1,z2⟩:=z;obtain⟨ea,eb⟩:=List.getElem?_zip_eq_some.mp ez;obtain⟨v1,hv1,rv1'⟩:=rp.get ea;obtain⟨v2,hv2,rv2'⟩:=rq.get eb;have b1:=(List.getElem?_eq_some_iff.mp hv1).1
     have b2:=(List.getElem?_eq_some_iff.mp hv2).1
     refine⟨⟨by omega,xs,ys,q1,q2,rfl⟩,fun v H3 ⟨pp,x',y',ev,hp,eH,al⟩=>?_⟩
     obtain⟨w1,w2⟩:=al xs ys q1 q2;rw[hv1]at w1;rw[hv2]at w2
     cases w1
     cases w2
     refine .inr ⟨pp,[z1,z2],[_,_],rfl,ev,hp,eH,?_⟩;simp only[RPs];exact⟨_,_,rfl,rv1',_,_,rfl,rv2',rfl⟩
   ·show((ps.zip qs).map _).length=min xs.length ys.length
    rw[av,List.length_zip,lp,lq]
 ·match xs,q,rd with
  | [],q,_=>exact q.elim
  | [_],q,_=>exact q.elim
  | _::_::_::_,q,_=>exact q.elim
  | [x,y],q,rd =>
  obtain⟨ps,qs,rfl,rfl,q⟩:=q;obtain⟨v,w,rfl,g1,g2⟩:=rd.two;simp only[RD,RP]at g1 g2;obtain⟨a1,xs,rfl,h1,h2⟩:=g1;obtain⟨a2,ys,rfl,h3,h4⟩:=g2;exact⟨a1,a2,xs,ys,ps,qs,m1,rfl,h1,h3,h2,h4,q,e1,ok1⟩
end
section
variable {X:Cx}{a e o:Expr}{es:List Expr}{f g:DE}{ga:DA}{pos p p1 p2:Pos}
theorem Bo:∀ {zs:List Str} {us:List Value},StrsAre us zs->Vals (zs.map V.str) us
 | _,_,.nil=>.nil
 | _,_,.cons z t r=>.cons ⟨t,rfl⟩ (Bo r)
theorem oY:bootBuiltins "sorted"=some (.builtin "sorted"):=by decide +kernel
theorem EQ:bootBuiltins "all"=some (.builtin "all"):=by decide +kernel
@[simp] def wP:DC
 | [.dat (.list ps)],m,Q=>∃ bs:List Bool,ps=bs.map .bool/\Q (.dat (.bool (bs.all id))) m
 | _,_,_=>False
theorem Fw{K:ad}{Z:Addr->Prop}{m:Mu}{H:Hp}:∀ {bs:List Bool} {vs:List V},RPs K Z m H (bs.map PyData.bool) vs->vs=bs.map V.bl
 | [],vs,h=>by simpa[RPs] using h
 | z::zs,vs,h=>by
  simp only[au,RPs]at h;obtain⟨v,r,rfl,h1,h2⟩:=h;simp only[RP]at h1;subst h1;rw[Fw h2];rfl
theorem Lh:∀ {bs:List Bool} {us:List Value},Vals (bs.map V.bl) us->us=bs.map Value.bool
 | [],_,.nil=>rfl
 | b::bs,_,.cons r t=>by
  cases r
  rw[Lh t];rfl
theorem P3(bs:List Bool):(List.range bs.length).all (fun i=>(bs[i]?).getD true)=bs.all id:=by
 rw[Bool.eq_iff_iff,List.all_eq_true,List.all_eq_true]
 constructor
 ·intro h b hb;obtain⟨i,hi,rfl⟩:=List.mem_iff_getElem.mp hb;have:=h i (List.mem_range.mpr hi)
  simpa[List.getElem?_eq_getElem hi] using this
 ·intro h i hi;have hi':=List.mem_range.mp hi
  rw[List.getElem?_eq_getElem hi'];exact h _ (List.getElem_mem hi')
theorem i3(hc:X.calm=true):CallD X (.builtin "all") wP:=by
 intro pins s σ H Z m xs ds us R Q I ok rv rd h k;unfold wP at h
 split at h
 ·obtain⟨v,rfl,r1⟩:=rd.one;obtain⟨bs,rfl,hh⟩:=h;simp only[RD,RP]at r1;obtain⟨a,vs,rfl,_,h1,h2⟩:=r1
  cases Fw h2
  obtain⟨u,rfl,ru⟩:=eR rv
  cases ru
  obtain⟨its,r',pl,hz⟩:=I.list h1
  cases Lh r'
  have ne:a≠s.heap.objs.size:=by
   obtain⟨o,ho,_⟩:=pl.isList;exact ao (ag ho)
  refine call_all_walk (wpAny_pyIter_list pl.isList ?_);refine⟨s.heap.objs.size,_,_,_,_,_,fun i=>(bs[i]?).getD true,rfl,Walks.list (A:=X.A.in1) (show X.A.in1.handled=none from I.ok.hd hc) s.heap.objs.size a ne (bs.map Value.bool).toArray,⟨⟨_,ai _ rfl,rfl,rfl⟩,pl.isList.at fun o e=>ah _ e⟩,?_,?_⟩
  ·intro i v s' Q' E' hv hQ;have hv':(bs.map Value.bool)[i]?=some v:=by simpa using hv
   rw[List.getElem?_map]at hv'
   cases eb:bs[i]? with
   | none=>rw[eb]at hv';cases hv'
   | some b =>
    have hQ':Q' ((bs[i]?).getD true) s':=hQ
    rw[eb]at hv' hQ'
    cases hv'
    exact wpAny_truthy_bool hQ'
  ·intro h' tk kp;have e:((bs.map Value.bool).toArray.size)=bs.length:=by simp
   rw[e,P3];refine⟨.bl _,H,I.kept fun b o q=>kp b o ?_ (ah _ q),rfl,k _ m _ H hh Ext.refl ok .ofBl⟩;intro hb;have:b=s.heap.objs.size:=by simpa using hb
   exact absurd (ag q) (by rw[this];exact Nat.lt_irrefl _)
 ·exact h.elim
theorem Wk(x:Str)(l u:Option (Int×Tok)):(slicePicked x l u none).length<=x.length:=by
 unfold slicePicked Builtin.Str.strSliceIndices sliceRange;simp only[av,List.length_range,Option.map_none,Option.getD_none];have h1:(1:Int) > 0:=by decide
 simp only[h1,if_true]
 cases l<;>cases u<;>simp only[Option.map_none,Option.map_some]<;>repeat' split<;>omega
theorem Eh{α β:Type}(f:α->Option β):∀ xs:List α,(xs.filterMap f).length<=xs.length
 | []=>ak _
 | x::xs=>by
  rw[List.filterMap_cons];have:=Eh f xs
  cases f x with
  | none=>exact Nat.le_succ_of_le this
  | some y=>exact Nat.succ_le_succ this
def GE:V->Option Int->Option Int->Hp->VK->Prop:=fun x lo hi H Q=>∃ z:Str,x=.str z/\z.length<=sizeLine/\∀ y:Str,y.length<=z.length->Q (.str y) H
theorem Fk{v:Value}{lo:Option Int}(h:IsPart v lo):∃ l,v=partValue l:=by
 cases h with
 | none=>exact⟨none,rfl⟩
 | int i t=>exact⟨some (i,t),rfl⟩
theorem K7:SlR X GE:=by
 intro pins s σ H x v vl vu lo hi sl Q I rx hs pl pu h;obtain⟨z,rfl,hz,q⟩:=h;obtain⟨t,rfl⟩:=rx;obtain⟨l,rfl⟩:=Fk pl;obtain⟨u,rfl⟩:=Fk pu;refine⟨"str",_,PySem.F.slot_str_getitem.lookup,typeIs_str s z t,?_⟩;refine wpAny_getItem_str_slice (l:=l) (u:=u) (st:=none) hs rfl ?_;unfold sliceMade
 split
 ·exact⟨.str z,H,I,⟨_,rfl⟩,q z (ak _)⟩
 ·have hl:(⟨((slicePicked z l u none).filterMap (z.cps[·]?)).toArray⟩:Str).length<=z.length:=by
   show((slicePicked z l u none).filterMap (z.cps[·]?)).toArray.size<=z.length
   rw[ay];exact Nat.le_trans (Eh _ _) (Wk z l u)
  exact⟨Nat.le_trans hl hz,.str _,H,I.tok _,⟨_,rfl⟩,q _ hl⟩
@[simp] def fF(fo g:DE):DE:=fun d m Q=>fo d m fun o m1=>∃ c,o=.cel c/\(∃ ys,m1 c=some (.l ys))/\g d m1 fun x m2=>∃ xs p,x=.dat p/\m2 c=some (.l xs)/\xs.length<sizeLine/\Q (.dat .none) (aW m2 c (.l (xs++[p])))
theorem H0{apos cpos:Pos}(ho:PE X o (LE X.K f))(he:PE X e (LE X.K g))(hbase:attributeBase o "append" X.env (eval o X.env)=eval o X.env:=by rfl)
  (hfew:((backTo cpos (starEach [e] X.env)).all (fun x=>!x.1)&&(backToKw cpos (keywordEach [] X.env)).all (fun x=>x.1.isSome)&&decide ([e].length+([]:List Keyword).length+(if ([]:List Keyword).isEmpty then 0 else 1)<30))=true:=by rfl)
  (hline:(apos.endLine==cpos.line)=true:=by rfl) (hs:starEach [e] X.env=(false,eval e X.env)::starEach [] X.env:=by rfl):PE X (.Call (.Attribute o "append" apos) [e] [] cpos) (LE X.K (fF f g)) :=
 PE.imp (Lz (T:="list") (id:="list.append") (name:="append") PySem.F.plainAttrs_list PySem.F.slot_list_append PySem.F.type_list_append xI ho (jY he kX hs) hbase hfew hline hs rfl) fun s H Q h=>by
  obtain⟨Z,d,m,R,ok,rs,h,k⟩:=h;refine⟨Z,d,m,_,ok,rs,h,fun x m1 v H1 ⟨c,ex,⟨xs0,hx0⟩,q⟩ e1 ok1 rd=>?_⟩;subst ex;obtain⟨rfl,hc⟩:=rd;obtain⟨vs0,g0,_⟩:=ok1.l hx0;refine⟨.inl ⟨rfl,vs0,.inl (.inl g0)⟩,Z,d,m1,_,ok1,rs.ext e1,q,fun y m2 w H2 ⟨xs,pp,ey,hm,hz,q2⟩ e2 ok2 rd2=>?_⟩;subst ey;obtain⟨vs,g1,g2⟩:=ok2.l hm;refine⟨c,vs,w,rfl,rfl,g1,by rw[g2.length];exact hz,?_⟩
  refine k _ _ _ _ q2 (e1.trans (e2.trans (Ext.put ok2 hm g1))) (ok2.put hm g1 (show RPs _ _ _ _ _ _ from g2.append ?_)) (by simp only[RD,RP])
  simp only[RPs];exact⟨w,[],rfl,rd2,rfl⟩
@[simp] def dG(f:DE)(lo hi:DO):DE:=fun d m Q=>f d m fun x m1=>lo d m1 fun l m2=>hi d m2 fun u m3 =>
 (∃ xs,x=.dat (.tuple xs)/\Q (.dat (.tuple (cP xs l u))) m3)\/(∃ xs,x=.dat (.list xs)/\Q (.dat (.list (cP xs l u))) m3)\/(∃ z:Str,x=.dat (.str z)/\z.length<=sizeLine/\∀ y:Str,y.length<=z.length->Q (.dat (.str y)) m3)
theorem a8{lo hi:Option Expr}{tl th:DO}(ha:PE X a (LE X.K f))(hl:PO X lo (LO X.K tl))(hu:PO X hi (LO X.K th)):PE X (.Subscript a (.Slice lo hi none p2) pos) (LE X.K (dG f tl th)) :=
 PE.imp (Sk (Sc.or (EO.or (AM.or K7))) ha hl hu) fun s H Q h=>by
  obtain⟨Z,d,m,R,ok,rs,h,k⟩:=h;refine⟨Z,d,m,_,ok,rs,h,fun x m1 v H1 q e1 ok1 rx=>⟨Z,d,m1,_,ok1,rs.ext e1,q,fun l m2 H2 q2 e2 ok2=>⟨Z,d,m2,_,ok2,(rs.ext e1).ext e2,q2,fun u m3 H3 q3 e3 ok3=>?_⟩⟩⟩;have e13:=e1.trans (e2.trans e3)
  have rx3:=rx.ext (e2.trans e3)
  rcases q3 with⟨xs,rfl,q4⟩ | ⟨xs,rfl,q4⟩ | ⟨z,rfl,hz,q4⟩
  ·simp only[RD,RP]at rx3;obtain⟨a,vs,rfl,h1,h2⟩:=rx3
   by_cases hw:HT.sIx vs.length 0 l=0/\HT.sIx vs.length vs.length u=vs.length
   ·refine .inr (.inl ⟨a,vs,rfl,h1,hw,k _ m3 _ H3 q4 e13 ok3 ?_⟩);rw[h2.length]at hw;rw[Pr xs hw];simp only[RD,RP];exact⟨a,vs,rfl,h1,h2⟩
   ·refine .inl ⟨a,vs,rfl,h1,hw,fun p hp=>?_⟩;have sm:Same H3 (upd H3 p (.tup (iN vs l u))):=cC hp
    refine k _ m3 _ _ q4 (e13.trans (ok3.ext sm)) (ok3.grow sm) ?_;simp only[RD,RP];exact⟨p,_,rfl,.inl (.inl cA),RPs.ext (ok3.ext sm) _ _ h2.cut⟩
  ·simp only[RD,RP]at rx3;obtain⟨a,vs,rfl,h0,h1,h2⟩:=rx3;refine .inr (.inr (.inl ⟨a,vs,rfl,h1,fun p hp=>?_⟩));have sm:Same H3 (upd H3 p (.lst (iN vs l u))):=cC hp
   refine k _ m3 _ _ q4 (e13.trans (ok3.ext sm)) (ok3.grow sm) ?_;simp only[RD,RP];exact⟨p,_,rfl,eY ok3 hp,.inl (.inl cA),RPs.ext (ok3.ext sm) _ _ h2.cut⟩
  ·cases rx3.str
   exact .inr (.inr (.inr ⟨z,rfl,hz,fun y hy=>k _ m3 _ H3 (q4 y hy) e13 ok3 .ofStr⟩))
end
def cM{κ:Type}[DecidableEq κ](kvs:List (κ×PyData))(k:κ):Option PyData:=(kvs.find? fun kv=>decide (kv.1=k)).map (·.2)
def cD{κ:Type}[DecidableEq κ](kvs:List (κ×PyData))(k:κ)(p:PyData):List (κ×PyData) :=
 if (kvs.any fun kv=>decide (kv.1=k))=true then kvs.map (fun kv=>if kv.1=k then (kv.1,p) else kv) else kvs++[(k,p)]
section
variable {κ:Type}[DecidableEq κ]{K:ad}{Z:Addr->Prop}{m:Mu}{H:Hp}
theorem RKV.length:∀ {kvs:List (κ×PyData)} {vs:List (κ×V)},RKV K Z m H kvs vs->vs.length=kvs.length
 | [],_,h=>by cases (show _=[] from h);rfl
 | _::_,_,⟨v,r,h1,_,h3⟩=>by subst h1;rw[List.length_cons,List.length_cons,RKV.length h3]
theorem RKV.val{k:κ}{p:PyData}:∀ {kvs:List (κ×PyData)} {vs:List (κ×V)},RKV K Z m H kvs vs->cM kvs k=some p->∃ v,dA vs k=some v/\RP K Z m H p v
 | [],_,_,e=>by simp[cM]at e
 | (j,q)::xs,_,⟨v,r,h1,h2,h3⟩,e=>by
  subst h1;unfold cM at e;unfold dA
  by_cases c:j=k
  ·simp[List.find?_cons,c]at e ⊢;exact e▸h2
  ·simp[List.find?_cons,c]at e ⊢;have:=RKV.val (k:=k) (p:=p) h3 (by unfold cM;simpa using e)
   unfold dA at this;simpa using this
theorem RKV.any{k:κ}:∀ {kvs:List (κ×PyData)} {vs:List (κ×V)},RKV K Z m H kvs vs->(vs.any fun kv=>decide (kv.1=k))=(kvs.any fun kv=>decide (kv.1=k))
 | [],_,h=>by cases (show _=[] from h);rfl
 | _::_,_,⟨v,r,h1,_,h3⟩=>by subst h1;rw[List.any_cons,List.any_cons,RKV.any h3]
theorem RKV.repl{k:κ}{p:PyData}{v:V}(hp:RP K Z m H p v):∀ {kvs:List (κ×PyData)} {vs:List (κ×V)},RKV K Z m H kvs vs->RKV K Z m H (kvs.map fun kv=>if kv.1=k then (kv.1,p) else kv) (vs.map fun kv=>if kv.1=k then (kv.1,v) else kv)
 | [],_,h=>by cases (show _=[] from h);exact(rfl:([]:List (κ×V))=[])
 | (j,q)::xs,_,⟨w,r,h1,h2,h3⟩=>by
  subst h1;rw[au,au]
  by_cases c:j=k
  ·rw[if_pos c,if_pos c];exact⟨v,_,rfl,hp,RKV.repl hp h3⟩
  ·rw[if_neg c,if_neg c];exact⟨w,_,rfl,h2,RKV.repl hp h3⟩
theorem RKV.snoc{k:κ}{p:PyData}{v:V}(hp:RP K Z m H p v):∀ {kvs:List (κ×PyData)} {vs:List (κ×V)},RKV K Z m H kvs vs->RKV K Z m H (kvs++[(k,p)]) (vs++[(k,v)])
 | [],_,h=>by cases (show _=[] from h);exact⟨v,[],rfl,hp,rfl⟩
 | _::_,_,⟨w,r,h1,h2,h3⟩=>by subst h1;exact⟨w,_,rfl,h2,RKV.snoc hp h3⟩
theorem RKV.put{k:κ}{p:PyData}{v:V}{kvs:List (κ×PyData)}{vs:List (κ×V)}(h:RKV K Z m H kvs vs)(hp:RP K Z m H p v):RKV K Z m H (cD kvs k p) (cV vs k v):=by
 unfold cD cV;rw[h.any]
 split
 ·exact h.repl hp
 ·exact h.snoc hp
end
@[simp] def iE:D->Option aL
 | .dat (.str z)=>some (.inr z)
 | .dat (.int i)=>some (.inl i)
 | _=>none
theorem RD.key{K:ad}{Z:Addr->Prop}{m:Mu}{H:Hp}{x:D}{v:V}{k:aL}(h:RD K Z m H x v)(e:iE x=some k):v=kV k:=by
 unfold iE at e
 split at e
 ·cases e;cases h.str;rfl
 ·cases e;cases h.int;rfl
 ·cases e
section
variable {X:Cx}{o i e:Expr}{fo fi f:DE}{pos tpos:Pos}
@[simp] def mI:DE:=fun _ m Q=>∀ a,m a=none->Q (.cel a) (aW m a (.d []))
theorem S5:PE X (.Dict [] [] pos) (LE X.K mI):=by
 intro pins s σ H Q I h;obtain⟨Z,d,m,R,ok,rs,h,k⟩:=h;have hp:H s.heap.objs.size=none:=I.hok.fresh (ak _)
 have hk:X.K.lookup s.heap.objs.size=none:=by
  cases e:X.K.lookup s.heap.objs.size with
  | none=>rfl
  | some o=>exact absurd (ag (I.kIn _ o e)) (Nat.lt_irrefl _)
 refine wpAny_Dict_empty ⟨.ref s.heap.objs.size,_,I.laid (a:=s.heap.objs.size) (o:=.dK []) (t':=s.toks) (fun _ _ q=>ah _ q) (ak _) (b8 s.heap I.big),rfl,?_⟩;exact k _ _ _ _ (h _ (eY ok hp).1) (Ext.cell ok hp hk) (ok.cell hp hk (show RKV _ _ _ _ _ _ from rfl)) ⟨rfl,by rw[bM];rfl⟩
@[simp] def kI(fo fi f:DE):DS:=fun E d m=>f d m fun x m1=>fo d m1 fun o m2=>fi d m2 fun y m3=>∃ c k kvs p,o=.cel c/\iE y=some k/\x=.dat p/\m3 c=some (.d kvs)/\kvs.length<sizeLine/\E.nx d (aW m3 c (.d (cD kvs k p)))
theorem Tj(hu:X.A.units+100<cLine)(he:PE X e (LE X.K f))(ho:PE X o (LE X.K fo))(hi:PE X i (LE X.K fi))(hs:swapsWith e (some (.Subscript o i tpos)) pos.line X.env=pure false:=by rfl) :
  PS X (.Assign [.Subscript o i tpos] e pos) (LS X.K (kI fo fi f)):=PS.imp (Ho #[0] ho hi he hs) fun E s H h=>by
 obtain⟨Z,d,m,R,ok,rs,h,k,_⟩:=h;refine⟨Z,d,m,_,ok,rs,h,fun x m1 v H1 q e1 ok1 r1=>⟨Z,d,m1,_,ok1,rs.ext e1,q,fun o m2 w H2 q2 e2 ok2 r2=>⟨Z,d,m2,_,ok2,(rs.ext e1).ext e2,q2,fun y m3 z H3 q3 e3 ok3 r3=>?_⟩⟩⟩;obtain⟨c,ky,kvs,p,rfl,hk,rfl,hm,hl,q⟩:=q3
 cases r3.key hk
 obtain⟨rfl,_⟩:=r2.ext e3;obtain⟨vs,g1,g2⟩:=ok3.d hm;have r1':=r1.ext (e2.trans e3)
 refine⟨c,_,rfl,.inl ⟨vs,ky,g1,rfl,by rw[g2.length];exact hl,rfl⟩,?_⟩
 have e4:Ext X.K Z m3 H3 (aW m3 c (.d (cD kvs ky p))) (upd H3 c (.dK (cV vs ky v))):=Ext.put ok3 hm g1
 exact k d _ s _ q (e1.trans (e2.trans (e3.trans e4))) (ok3.put hm g1 (show RKV _ _ _ _ _ _ from g2.put r1')) ((rs.ext e1).ext (e2.trans (e3.trans e4)))
@[simp] def iX(fo fi:DE):DE:=fun d m Q=>fo d m fun o m1=>fi d m1 fun y m2=>∃ c k kvs p,o=.cel c/\iE y=some k/\m2 c=some (.d kvs)/\cM kvs k=some p/\Q (.dat p) m2
theorem BP(hu:X.A.units+100<cLine)(ho:PE X o (LE X.K fo))(hi:PE X i (LE X.K fi))(hs:jU i:=by exact fun _ _=>rfl):PE X (.Subscript o i pos) (LE X.K (iX fo fi)) :=
 PE.imp (Az #[0] ho hi hs) fun s H Q h=>by
  obtain⟨Z,d,m,R,ok,rs,h,k⟩:=h;refine⟨Z,d,m,_,ok,rs,h,fun o m1 v H1 q e1 ok1 r1=>⟨Z,d,m1,_,ok1,rs.ext e1,q,fun y m2 w H2 q2 e2 ok2 r2=>?_⟩⟩;obtain⟨c,ky,kvs,p,rfl,hk,hm,hv,q⟩:=q2
  cases r2.key hk
  obtain⟨rfl,_⟩:=r1.ext e2;obtain⟨vs,g1,g2⟩:=ok2.d hm;obtain⟨v,hv',rv⟩:=g2.val hv;exact⟨c,v,rfl,.inl ⟨vs,ky,.inl g1,rfl,hv'.symm⟩,k _ m2 _ H2 q (e1.trans e2) ok2 rv⟩
end
def KEnt(w:World):List DictEntry->List (Str×V)->Prop
 | [],[]=>True
 | e::es,(z,v)::kvs=>e.hash=PyData.keyHash w.params z/\(∃ t,e.key=.str z t)/\RelV v e.val/\KEnt w es kvs
 | _,_=>False
def tY{α:Type}(kvs:List (Str×α)):List (aL×α):=kvs.map fun kv=>(.inr kv.1,kv.2)
theorem KEnt.out{P:Program}{w:World}:∀ {es:List DictEntry} {kvs:List (Str×V)},KEnt w es kvs->∃ vs:List (Str×Value),KV (tY kvs) (tY vs)/\Pairs (bX P w) es (tY vs)/\(∀ e∈es,∃ k,(bX P w).is k e.key=true/\e.hash=(bX P w).hash k)/\vs.map (·.1)=kvs.map (·.1)
 | [],[],_=>⟨[],.nil,.nil,by simp,rfl⟩
 | e::es,(z,v)::kvs,⟨h1,⟨t,h2⟩,h3,h4⟩=>by
  obtain⟨vs,q1,q2,q3,q4⟩:=KEnt.out (P:=P) h4;have hk:(bX P w).is (.inr z) e.key=true:=by
   rw[h2];exact decide_eq_true (rfl:z=z)
  refine⟨(z,e.val)::vs,.cons ⟨rfl,h3⟩ q1,.cons hk rfl q2,fun x hx=>?_,by simp[q4]⟩
  rcases List.mem_cons.mp hx with rfl | hx
  ·exact⟨_,hk,h1⟩
  ·exact q3 x hx
 | [],_::_,h=>h.elim
 | _::_,[],h=>h.elim
section
variable {X:Cx}{e g:Expr}{f fg:DE}{tg:Expr}{pos:Pos}
@[simp] def rG(f fg:DE):DI:=fun d m Q=>f d m fun x m1=>fg d m1 fun y m2=>∃ i j:Int,x=.dat (.int i)/\y=.dat (.int j)/\(-(2^62)<=i/\i<2^62/\-(2^62)<=j/\j<2^62)/\Q (dD i (j-i).toNat) m2
theorem U7{p:Pos}(hg:Gl X "range")(hm:X.mg "range"=none)(ha:PE X e (LE X.K f))(hb:PE X g (LE X.K fg))(hs:starEach [e,g] X.env=[(false,eval e X.env),(false,eval g X.env)]:=by rfl)(hs2:starEach [g] X.env=[(false,eval g X.env)]:=by rfl) :
  PI X tg (.Call (.Name "range" p) [e,g] [] pos) (LI X.K (rG f fg)) :=
 PI.imp (Ze hg hm (jY ha (jY hb kX (by rw[hs2];rfl)) (by rw[hs,hs2])) hs hs2) fun s H R h=>by
  obtain⟨Z,d,m,ZZ,ok,rs,h,k⟩:=h;refine⟨Z,d,m,_,ok,rs,h,fun x m1 v H1 q e1 ok1 rd=>⟨Z,d,m1,_,ok1,rs.ext e1,q,fun y m2 v2 H2 ⟨i0,j,ex,ey,hb,q2⟩ e2 ok2 rd2=>?_⟩⟩;subst ex;subst ey
  cases rd.int
  cases rd2.int
  show ∃ i' j':Int,[V.int i0,V.int j]=[V.int i',V.int j']/\_
  refine⟨i0,j,rfl,hb,k _ m2 H2 _ q2 (e1.trans e2) ok2 fun m3 H3 e3=>⟨fun i x hx=>?_,?_⟩⟩
  ·unfold dD at hx;rw[List.getElem?_map]at hx
   cases ei:(List.range (j-i0).toNat)[i]? with
   | none=>rw[ei]at hx;cases hx
   | some i' =>
    rw[ei]at hx
    cases hx
    have hl:=(List.getElem?_eq_some_iff.mp ei).1
    have hi:i'=i:=by
     obtain⟨_,z⟩:=List.getElem?_eq_some_iff.mp ei;rw[List.getElem_range]at z;exact z.symm
    subst hi;rw[List.length_range]at hl;refine⟨hl,fun v' H3 y=>.inl ⟨y.1,?_⟩⟩;rw[y.2];exact .ofInt
  ·show(j-i0).toNat<=(dD i0 (j-i0).toNat).length
   unfold dD;rw[av,List.length_range];exact ak _
end
theorem pS:plainId "dict.update.loop"=true:=by decide +kernel
theorem Ez:entryFor table "dict.update.loop"=some Builtin.«dict.update.loop»:=entryFor_of_fast (by kernel_rfl)
section
variable {prog:Program}{w:World}{κ:Type}[DecidableEq κ]{knd:KeyKind prog w κ}{A:Around}{E:Value->Shared->Prop}{s:Shared}
def oU(knd:KeyKind prog w κ)(h:Heap):List Value->List (κ×Value)->Prop
 | [],[]=>True
 | x::xs,(k,v)::r=>(∃ b key,x=.ref b/\h.IsTuple b #[key,v]/\knd.is k key=true)/\oU knd h xs r
 | _,_=>False
def rB(acc:List (κ×Value))(r:List (κ×Value)):List (κ×Value):=r.foldl (fun acc kv=>stored acc kv.1 kv.2) acc
theorem Ta(acc:List (κ×Value))(k:κ)(v:Value):(stored acc k v).length<=acc.length+1:=by
 unfold stored
 split
 ·simp
 ·simp
end
@[simp] def lQ:List D->Option (List aL)
 | []=>some []
 | x::xs=>match iE x,lQ xs with
  | some k,some ks=>some (k::ks)
  | _,_=>none
theorem RDs.keys{K:ad}{Z:Addr->Prop}{m:Mu}{H:Hp}:∀ {xs:List D} {vs:List V} {ks:List aL},RDs K Z m H xs vs->lQ xs=some ks->vs=ks.map kV
 | [],vs,ks,h,e=>by
  cases e
  exact h
 | x::xs,vs,ks,h,e=>by
  obtain⟨v,r,rfl,h1,h2⟩:=h;unfold lQ at e
  cases e1:iE x with
  | none=>rw[e1]at e;cases e
  | some k =>
   cases e2:lQ xs with
   | none=>rw[e1,e2]at e;cases e
   | some ks' =>
    rw[e1,e2]at e
    cases e
    rw[h1.key e1,RDs.keys h2 e2];rfl
section
variable {X:Cx}{o i e:Expr}{es:List Expr}{fo f:DE}{fa:DA}{pos tpos ipos:Pos}{j:Nat}
@[simp] def rY:DE:=fun _ m Q=>∀ a,m a=none->Q (.cel a) (aW m a (.t []))
theorem Up:PE X (.Dict [] [] pos) (LE X.K rY):=by
 intro pins s σ H Q I h;obtain⟨Z,d,m,R,ok,rs,h,k⟩:=h;have hp:H s.heap.objs.size=none:=I.hok.fresh (ak _)
 have hk:X.K.lookup s.heap.objs.size=none:=by
  cases e:X.K.lookup s.heap.objs.size with
  | none=>rfl
  | some o=>exact absurd (ag (I.kIn _ o e)) (Nat.lt_irrefl _)
 refine wpAny_Dict_empty ⟨.ref s.heap.objs.size,_,I.laid (a:=s.heap.objs.size) (o:=.dT []) (t':=s.toks) (fun _ _ q=>ah _ q) (ak _) (Zd s.heap I.big),rfl,?_⟩;exact k _ _ _ _ (h _ (eY ok hp).1) (Ext.cell ok hp hk) (ok.cell hp hk (show RKV _ _ _ _ _ _ from rfl)) ⟨rfl,by rw[bM];rfl⟩
@[simp] def mU(fo:DE)(fa:DA)(f:DE):DS:=fun E d m=>f d m fun x m1=>fo d m1 fun o m2=>fa d m2 fun ys m3=>∃ c ks kvs p,o=.cel c/\lQ ys=some ks/\x=.dat p/\m3 c=some (.t kvs)/\kvs.length<sizeLine/\ks.length<=sizeLine/\E.nx d (aW m3 c (.t (cD kvs ks p)))
theorem FY(hu:X.A.units+100<cLine)(he:PE X e (LE X.K f))(ho:PE X o (LE X.K fo))(ha:PA X es (LA X.K fa))(hs:swapsWith e (some (.Subscript o (.Tuple es j ipos) tpos)) pos.line X.env=pure false:=by rfl) :
  PS X (.Assign [.Subscript o (.Tuple es j ipos) tpos] e pos) (LS X.K (mU fo fa f)):=PS.imp (Ho #[0] ho (uW ha) he hs) fun E s H h=>by
 obtain⟨Z,d,m,R,ok,rs,h,k,_⟩:=h;refine⟨Z,d,m,_,ok,rs,h,fun x m1 v H1 q e1 ok1 r1=>⟨Z,d,m1,_,ok1,rs.ext e1,q,fun o m2 w H2 q2 e2 ok2 r2=>⟨Z,d,m2,_,ok2,(rs.ext e1).ext e2,q2,fun ys m3 zs H3 q3 e3 ok3 r3=>?_⟩⟩⟩;obtain⟨c,ks,kvs,p,rfl,hk,rfl,hm,hl,hz,q⟩:=q3
 cases r3.keys hk
 refine⟨by simpa using hz,fun b hb=>?_⟩
 have sm:Same H3 (upd H3 b (.tup (ks.map kV))):=cC hb
 have e4:=ok3.ext sm
 have ok4:=ok3.grow sm
 obtain⟨rfl,_⟩:=r2.ext e3;obtain⟨vs,g1,g2⟩:=ok4.t hm;have r1':=r1.ext (e2.trans (e3.trans e4))
 refine⟨c,_,rfl,.inr ⟨vs,ks,b,g1,rfl,cA,by rw[g2.length];exact hl,rfl⟩,?_⟩
 have e5:Ext X.K Z m3 (upd H3 b (.tup (ks.map kV))) (aW m3 c (.t (cD kvs ks p))) (upd (upd H3 b (.tup (ks.map kV))) c (.dT (cV vs ks v))):=Ext.put ok4 hm g1
 exact k d _ s _ q (e1.trans (e2.trans (e3.trans (e4.trans e5)))) (ok4.put hm g1 (show RKV _ _ _ _ _ _ from g2.put r1')) ((rs.ext e1).ext (e2.trans (e3.trans (e4.trans e5))))
@[simp] def pA(fo:DE)(fa:DA):DE:=fun d m Q=>fo d m fun o m1=>fa d m1 fun ys m2=>∃ c ks kvs p,o=.cel c/\lQ ys=some ks/\m2 c=some (.t kvs)/\ks.length<=sizeLine/\cM kvs ks=some p/\Q (.dat p) m2
theorem A6(hu:X.A.units+100<cLine)(ho:PE X o (LE X.K fo))(ha:PA X es (LA X.K fa))(hs:jU (.Tuple es j ipos):=by exact fun _ _=>rfl):PE X (.Subscript o (.Tuple es j ipos) pos) (LE X.K (pA fo fa)) :=
 PE.imp (Az #[0] ho (uW ha) hs) fun s H Q h=>by
  obtain⟨Z,d,m,R,ok,rs,h,k⟩:=h;refine⟨Z,d,m,_,ok,rs,h,fun o m1 v H1 q e1 ok1 r1=>⟨Z,d,m1,_,ok1,rs.ext e1,q,fun ys m2 zs H2 q2 e2 ok2 r2=>?_⟩⟩;obtain⟨c,ks,kvs,p,rfl,hk,hm,hz,hv,q⟩:=q2
  cases r2.keys hk
  refine⟨by simpa using hz,fun b hb=>?_⟩
  have sm:Same H2 (upd H2 b (.tup (ks.map kV))):=cC hb
  have e4:=ok2.ext sm
  have ok4:=ok2.grow sm
  obtain⟨rfl,_⟩:=r1.ext e2;obtain⟨vs,g1,g2⟩:=ok4.t hm;obtain⟨v,hv',rv⟩:=g2.val hv;exact⟨c,v,rfl,.inr ⟨vs,ks,b,.inl g1,rfl,cA,hv'.symm⟩,k _ m2 _ _ q (e1.trans (e2.trans e4)) ok4 rv⟩
end
def mP:aL->PyData
 | .inl i=>.int i
 | .inr z=>.str z
theorem Inv.noD{X:Cx}{pins:List (Addr×Obj)}{σ:L2.St}{H:Hp}{s:Shared}{a:Addr}{xs:List V}(I:Inv X pins σ H s)(h:SqT X.K H a xs):NoD s.heap a:=by
 rcases h with h | ⟨o,its,n,hk,hc,hs,hz,r⟩
 ·obtain⟨z,its,r,p⟩:=h.ok I.hok;exact z.2
 ·exact⟨o,I.kIn a o hk,hc.2⟩
theorem Bz{X:Cx}{pins:List (Addr×Obj)}{σ:L2.St}{H:Hp}{s:Shared}{Z:Addr->Prop}{m:Mu}(I:Inv X pins σ H s):∀ {kvs:List (aL×PyData)} {vs:List V} {us:List Value},RPs X.K Z m H (kvs.map fun kv=>PyData.tuple [mP kv.1,kv.2]) vs->Vals vs us ->
  ∃ ws:List (aL×V),∃ xs:List (aL×Value),RKV X.K Z m H kvs ws/\KV ws xs/\oU (bX X.prog X.w) s.heap us xs/\xs.length=kvs.length
 | [],vs,us,h,r=>by
  simp only[List.map_nil,RPs]at h;subst h
  cases r
  exact⟨[],[],rfl,.nil,trivial,rfl⟩
 | (k,p)::kvs,vs,us,h,r=>by
  simp only[au,RPs]at h;obtain⟨v,vs',rfl,h1,h2⟩:=h
  cases r with
  | cons r1 r2 =>
   obtain⟨ws,xs,q1,q2,q3,q4⟩:=Bz I h2 r2;simp only[RP]at h1;obtain⟨a,ps,rfl,hs,hp⟩:=h1;obtain⟨its,rv,it,_⟩:=I.tuple hs;simp only[RPs]at hp;obtain⟨v1,r',rfl,g1,v2,r'',rfl,g2,rfl⟩:=hp
   cases rv with
   | cons w1 rv =>
    cases rv with
    | cons w2 rv =>
     cases rv
     have ev:v1=kV k:=by
      cases k with
      | inl i =>
       simp only[mP,RP]at g1;exact g1
      | inr z =>
       simp only[mP,RP]at g1;exact g1
     subst ev;refine⟨(k,v2)::ws,(k,_)::xs,⟨_,_,rfl,g2,q1⟩,.cons ⟨rfl,w2⟩ q2,⟨⟨a,_,r1,it,nU w1⟩,q3⟩,by simp[q4]⟩
def iA(acc:List (aL×PyData))(r:List (aL×PyData)):List (aL×PyData):=r.foldl (fun acc kv=>cD acc kv.1 kv.2) acc
def mB(acc:List (aL×V))(r:List (aL×V)):List (aL×V):=r.foldl (fun acc kv=>cV acc kv.1 kv.2) acc
theorem RKV.puts{K:ad}{Z:Addr->Prop}{m:Mu}{H:Hp}:∀ {r:List (aL×PyData)} {ws:List (aL×V)} {acc:List (aL×PyData)} {aw:List (aL×V)},RKV K Z m H acc aw->RKV K Z m H r ws->RKV K Z m H (iA acc r) (mB aw ws)
 | [],ws,acc,aw,ha,hr=>by
  cases (show ws=[] from hr)
  exact ha
 | (k,p)::r,vs,acc,aw,ha,h=>by
  obtain⟨v,ws,rfl,h1,h2⟩:=h;exact RKV.puts (r:=r) (ws:=ws) (acc:=cD acc k p) (aw:=cV aw k v) (ha.put h1) h2
theorem KV.puts{ws:List (aL×V)}{xs:List (aL×Value)}(t:KV ws xs):∀ {aw:List (aL×V)} {ax:List (aL×Value)},KV aw ax->KV (mB aw ws) (rB ax xs):=by
 unfold KV at t
 induction t with
 | nil=>exact fun ha=>ha
 | @cons p q ps qs h t ih =>
  intro aw ax ha;obtain⟨e,h⟩:=h;have:=ih (KV.put ha p.1 h)
  show KV (mB (cV aw p.1 p.2) ps) (rB (stored ax q.1 q.2) qs)
  rw[<- e];exact this
theorem Gd:∀ (r acc:List (aL×PyData)),(iA acc r).length<=acc.length+r.length
 | [],acc=>by simp[iA]
 | kv::r,acc=>by
  have:=Gd r (cD acc kv.1 kv.2)
  have h2:(cD acc kv.1 kv.2).length<=acc.length+1:=by
   unfold cD
   split
   ·rw[av];omega
   ·simp
  unfold iA at *;simp only[List.foldl_cons,List.length_cons];omega
def KTEnt(K:ad)(w:World):List DictEntry->List (List Str×Addr×V)->Prop
 | [],[]=>True
 | e::es,(zs,a,v)::xs=>e.hash=reduceHash (Builtin.Tuple.tupleHashOf (zs.map (PyData.keyHash w.params)))/\e.key=.ref a/\RelV v e.val/\KT K a zs/\KTEnt K w es xs
 | _,_=>False
def KTDt(K:ad)(w:World)(c:Addr)(xs:List (List Str×Addr×V)):Prop :=
 ∃ (o:Obj) (es:Array DictEntry) (ep:Nat),K.lookup c=some o/\o.cls=.type "dict"/\o.dict=none/\o.slots=#[]/\o.data=.dict es ep/\KTEnt K w es.toList xs/\(xs.map (·.1)).Nodup/\(c==sysModules)=false
theorem V8(zs:List Str):(zs.map (Sum.inr:Str->aL)).map kV=zs.map V.str:=by
 rw[List.map_map];rfl
section
variable {X:Cx}{pins:List (Addr×Obj)}{σ:L2.St}{H:Hp}{s:Shared}
theorem Z2{a:Addr}{zs:List Str}(I:Inv X pins σ H s)(h:SqT X.K H a (zs.map V.str)):(tupleKind (bX X.prog X.w)).is s.heap (zs.map Sum.inr) a:=by
 obtain⟨its,r,⟨o,h1,h2,n,h3⟩,_⟩:=I.tuple h;rw[<- V8]at r;exact⟨o,its.toArray,n,h1,h2,h3,by simpa using pE r⟩
theorem KTEnt.out(I:Inv X pins σ H s):∀ {es:List DictEntry} {xs:List (List Str×Addr×V)},KTEnt X.K X.w es xs->∃ ys:List (List aL×Addr×Value),es=ys.map (entryOfKey (tupleKind (bX X.prog X.w)))/\(∀ y∈ys,(tupleKind (bX X.prog X.w)).is s.heap y.1 y.2.1)/\ys.map (·.1)=xs.map (fun x=>x.1.map Sum.inr) /\
  ∀ zs:List Str,RelO (dA (xs.map fun x=>(x.1,x.2.2)) zs) ((atKey ys (zs.map Sum.inr)).map (·.2))
 | [],[],_=>⟨[],rfl,by simp,rfl,fun _=>True.intro⟩
 | e::es,(zs,a,v)::xs,⟨h1,h2,h3,h4,h5⟩=>by
  obtain⟨ys,q1,q2,q3,q4⟩:=KTEnt.out I h5;refine⟨(zs.map Sum.inr,a,e.val)::ys,?_,fun y hy=>?_,by simp[q3],fun z=>?_⟩
  ·rw[au,<- q1]
   congr 1
   obtain⟨eh,ek,ev⟩:=e;simp only at h1 h2;subst h1 h2;unfold entryOfKey
   congr 1
   show _=reduceHash (Builtin.Tuple.tupleHashOf ((zs.map Sum.inr).map (bX X.prog X.w).hash))
   rw[List.map_map];rfl
  ·rcases List.mem_cons.mp hy with rfl | hy
   ·exact Z2 I h4.sq
   ·exact q2 y hy
  ·by_cases c:zs=z
   ·subst c;unfold dA atKey;simp only[au,List.find?_cons,decide_true,Option.map_some];exact h3
   ·have c':¬ zs.map (Sum.inr:Str->aL)=z.map Sum.inr:=fun h=>c ((List.map_inj_right (fun _ _ q=>Sum.inr.inj q)).mp h)
    have:=q4 z
    unfold dA atKey at this ⊢;simp only[au,List.find?_cons,decide_eq_false c,decide_eq_false c'];exact this
 | [],_::_,h=>h.elim
 | _::_,[],h=>h.elim
theorem KTDt.out{c:Addr}{xs:List (List Str×Addr×V)}(I:Inv X pins σ H s)(q:KTDt X.K X.w c xs):(c==sysModules)=false/\∃ ys:List (List aL×Addr×Value),s.heap.DictOfH (tupleKind (bX X.prog X.w)) c ys /\
  ∀ zs:List Str,RelO (dA (xs.map fun x=>(x.1,x.2.2)) zs) ((atKey ys (zs.map Sum.inr)).map (·.2)):=by
 obtain⟨o,es,ep,h1,h2,h3,h4,h5,h6,h7,h8⟩:=q;obtain⟨ys,q1,q2,q3,q4⟩:=KTEnt.out I h6;refine⟨h8,ys,⟨o,es,ep,I.kIn _ _ h1,⟨h2,h3,h4⟩,h5,q1,q2,?_⟩,q4⟩;rw[q3];have e:xs.map (fun x=>x.1.map (Sum.inr:Str->aL))=(xs.map (·.1)).map (fun z=>z.map Sum.inr):=by simp
 rw[e];exact List.Pairwise.map _ (fun a b hab h=>hab ((List.map_inj_right (fun _ _ q=>Sum.inr.inj q)).mp h)) h7
end
theorem KT.rp{K:ad}{a:Addr}{zs:List Str}{Z:Addr->Prop}{m:Mu}{H:Hp}(h:KT K a zs):RP K Z m H (.tuple (zs.map PyData.str)) (.ref a):=by
 simp only[RP];exact⟨a,_,rfl,h.sq,pF zs⟩
section
variable {X:Cx}{o e:Expr}{f g:DE}{apos cpos:Pos}
def Wh(K:ad):V->List V->Hp->VK->Prop:=fun x xs H Q=>∃ (a:Addr) (y:Str) (zs:List Str),x=.ref a/\xs=[.str y]/\SqL K H a (zs.map V.str)/\y∈zs/\Q (.int (zs.idxOf y:Nat)) H
theorem CL:MtR X "list.index" (Wh X.K):=by
 intro pins s σ H x xs v us Q I rx rs ⟨a,y,zs,e1,e2,hq,hk,q⟩;subst e1 e2
 cases rx
 obtain⟨u,rfl,ru⟩:=eR rs;obtain⟨tk,rfl⟩:=id ru;obtain⟨its,rv,p,hz⟩:=I.list hq;have hl:=rv.length
 rw[av]at hl hz;have hj:zs.idxOf y<zs.length:=List.idxOf_lt_length_iff.mpr hk
 have hsz:(zs.length:Int)<=1000000000:=by
  rw[sizeLine_eq]at hz;omega
 have hit:∀ m (hm:m<its.toArray.size) (hm2:m<zs.length),gE (.str y) its.toArray[m]=(zs[m]==y):=fun m hm hm2=>by
  obtain⟨t,e⟩:=uR rv m #[4,hm] hm2
  have e':its.toArray[m]=.str zs[m] t:=by simpa using e
  rw[e'];rfl
 have hfl:(zs.map V.str).all gC=true:=by
  rw[List.all_eq_true];intro v hv;obtain⟨z,_,rfl⟩:=List.mem_map.mp hv;rfl
 obtain⟨⟨cl,dd,dt,sl⟩,n,p1,p2,p3,p4⟩:=id p;simp only at p2 p4;subst p2 p4;refine call_meets PySem.F.slot_list_index p.isList.typeIs PySem.F.entry_list_index (PySem.F.args_list_index_2 _ _) (SeqAt.list_indexAt a its.toArray n dd sl (.str y tk) (gE (.str y)) (zs.idxOf y) (by rw[ay];omega) #[0] ?_ ?_) ⟨p1,?_,?_⟩
 ·rw[hit _ _ hj,List.getElem_idxOf hj];simp
 ·intro m hm hlt;have hm2:m<zs.length:=by omega
  rw[hit m hm hm2];simp only[beq_eq_false_iff_ne];exact vN _ _ hm2 hlt
 ·exact fun w hw=>mR (x:=.str y) ⟨tk,rfl⟩ rfl rv hfl w #[4,hw]
 ·exact⟨.int _,H,I.tok _,⟨_,rfl⟩,q⟩
def Qs(t:Bool)(K:ad)(H:Hp)(a:Addr)(zs:List Str):Prop:=if t then SqT K H a (zs.map V.str) else SqL K H a (zs.map V.str)
@[simp] def pH(f g:DE):DE:=fun d m Q=>f d m fun x m1=>∃ zs:List Str,(x=.dat (.tuple (zs.map .str))\/x=.dat (.list (zs.map .str)))/\g d m1 fun y m2=>∃ z:Str,y=.dat (.str z)/\z∈zs/\Q (.dat (.int (zs.idxOf z:Nat))) m2
theorem G7(ho:PE X o (LE X.K f))(he:PE X e (LE X.K g))(hbase:attributeBase o "index" X.env (eval o X.env)=eval o X.env:=by rfl)
  (hfew:((backTo cpos (starEach [e] X.env)).all (fun x=>!x.1)&&(backToKw cpos (keywordEach [] X.env)).all (fun x=>x.1.isSome)&&decide ([e].length+([]:List Keyword).length+(if ([]:List Keyword).isEmpty then 0 else 1)<30))=true:=by rfl)
  (hline:(apos.endLine==cpos.line)=true:=by rfl) (hs:backTo cpos (starEach [e] X.env)=[(false,eval e X.env)]:=by rfl):PE X (.Call (.Attribute o "index" apos) [e] [] cpos) (LE X.K (pH f g)):=by
 intro pins s σ H Q I h;obtain⟨Z,d,m,R,ok,rs,h,k⟩:=h;refine wpAny_Call_method_late hbase hfew hline rfl (aS (ho pins s σ H (fun v H1=>∃ (t:Bool) (a:Addr) (zs:List Str),v=.ref a/\Qs t X.K H1 a zs/\LE X.K g σ H1 fun v2 H2=>∃ z:Str,v2=.str z/\z∈zs/\Qs t X.K H2 a zs/\Q (.int (zs.idxOf z:Nat)) H2) I ⟨Z,d,m,_,ok,rs,h,fun x m1 v H1 ⟨zs,ex,hq⟩ e1 ok1 r1=>?_⟩) fun v s1 ⟨x,H1,I1,rx,t,a,zs,ex,sq,q1⟩=>?_)
 ·rcases ex with rfl | rfl
  ·have r1':=r1
   simp only[RD,RP]at r1';obtain⟨a,vs,rfl,h1,h2⟩:=r1'
   cases kW h2
   refine⟨true,a,zs,rfl,h1,Z,d,m1,_,ok1,rs.ext e1,hq,fun y m2 v2 H2 ⟨z,ey,hz,q⟩ e2 ok2 r2=>?_⟩;subst ey
   cases r2.str
   have r3:=r1.ext e2
   simp only[RD,RP]at r3;obtain⟨a',vs',e',h1',h2'⟩:=r3
   cases e'
   cases kW h2'
   exact⟨z,rfl,hz,h1',k _ m2 _ H2 q (e1.trans e2) ok2 .ofInt⟩
  ·have r1':=r1
   simp only[RD,RP]at r1';obtain⟨a,vs,rfl,_,h1,h2⟩:=r1'
   cases kW h2
   refine⟨false,a,zs,rfl,h1,Z,d,m1,_,ok1,rs.ext e1,hq,fun y m2 v2 H2 ⟨z,ey,hz,q⟩ e2 ok2 r2=>?_⟩;subst ey
   cases r2.str
   have r3:=r1.ext e2
   simp only[RD,RP]at r3;obtain⟨a',vs',e',_,h1',h2'⟩:=r3
   cases e'
   cases kW h2'
   exact⟨z,rfl,hz,h1',k _ m2 _ H2 q (e1.trans e2) ok2 .ofInt⟩
 ·subst ex;obtain rfl:v=Value.ref a:=rx
  cases t with
  | true =>
   obtain⟨its,_,p,_⟩:=I1.tuple (show SqT _ _ _ _ from sq)
   refine⟨"tuple","tuple.index",PySem.F.plainAttrs_tuple,PySem.F.slot_tuple_index,PySem.F.type_tuple_index,p.typeIs,fun b e=>by cases e;exact Inv.noD I1 (show SqT _ _ _ _ from sq),?_⟩
   rw[hs];refine Calls.callWith_builtin rfl (Calls.evalArgs_plain (Calls.spliced_cons (aS (he pins s1 σ H1 _ I1 q1) fun iv s2 ⟨v2,H2,I2,ry,z,ez,hz,sq2,q2⟩=>Calls.spliced_nil ?_)));subst ez;exact Ig pins s2 σ H2 (.ref a) [.str z] _ [iv] Q I2 rfl (.cons ry .nil) ⟨a,z,zs,rfl,rfl,sq2,hz,q2⟩
  | false =>
   obtain⟨its,_,p,_⟩:=I1.list (show SqL _ _ _ _ from sq)
   refine⟨"list","list.index",PySem.F.plainAttrs_list,PySem.F.slot_list_index,PySem.F.type_list_index,p.isList.typeIs,fun b e=>by cases e;obtain⟨ob,n,e,c,hd,_⟩:=p;exact⟨ob,e,hd⟩,?_⟩
   rw[hs];refine Calls.callWith_builtin rfl (Calls.evalArgs_plain (Calls.spliced_cons (aS (he pins s1 σ H1 _ I1 q1) fun iv s2 ⟨v2,H2,I2,ry,z,ez,hz,sq2,q2⟩=>Calls.spliced_nil ?_)));subst ez;exact CL pins s2 σ H2 (.ref a) [.str z] _ [iv] Q I2 rfl (.cons ry .nil) ⟨a,z,zs,rfl,rfl,sq2,hz,q2⟩
end
def BY(K:ad)(l:Addr)(n:Nat):It :=
 ⟨fun i H=>i<n/\∃ xs,SqL K H l xs/\n=xs.length,fun i H v H'=>∃ p x,v=.ref p/\H p=none/\H'=upd H p (.tup [.int i,x])/\∀ xs,SqL K H l xs->xs[i]?=some x,
  fun i H=>i=n/\∃ xs,SqL K H l xs/\n=xs.length⟩
abbrev w8(h:Heap)(e it l:Addr)(i:Nat):Prop:=(∃ old,IsEnum h e it i old)/\h.IsListIter it l i
theorem Vu{P:Program}{w:World}{K:ad}{elts:List Expr}{j:Nat}{pos:Pos}{e it l:Addr}{n:Nat}(hei:e≠it) :
  Turn P w K (.Tuple elts j pos) (BY K l n) [e,it] e (fun i h=>w8 h e it l i) where
 mem:=by simp
 obj:=fun i h st b hb=>by
  obtain⟨⟨old,h1⟩,⟨o2,e2,_,d2⟩⟩:=st;simp only[List.mem_cons,List.not_mem_nil,or_false]at hb;rcases hb with rfl | rfl
  ·exact⟨_,h1,fun v q=>nomatch q⟩
  ·exact⟨_,e2,fun v q=>by rw[d2]at q;cases q⟩
 keep:=fun i h h' st k=>by
  obtain⟨⟨old,h1⟩,h2⟩:=st;exact⟨⟨old,k e #[2] _ h1⟩,h2.at fun o q=>k it #[2] o q⟩
 item:=by
  intro X hP hw hK hc i pins s σ H E I hf st hg;subst hP hw hK;obtain⟨hi,xs,q1,hn⟩:=hg;obtain⟨its,r1,p1,l1⟩:=I.list q1;obtain⟨⟨old,he⟩,hit⟩:=st;have e1:xs[i]?=some (xs[i]'#[0]):=List.getElem?_eq_getElem #[0]
  obtain⟨u1,hu1,ru1⟩:=r1.get e1;have hp:H s.heap.objs.size=none:=I.hok.fresh (ak _)
  refine wpAny_pyNext_enum_item he hit p1.isList #[4,hu1] hei fun h' ho hit' hT hsz k=>?_
  refine⟨_,rfl,?_⟩;refine wpAny_letOwnedTupleGo_enum (s:={s with heap:=h',toks:=s.toks+1}) ho fun h2 z2 c2=>?_;have I1:Inv X pins σ (upd H s.heap.objs.size (.tup [_,_])) {s with heap:=s.heap.push {cls:=.type "tuple",data:=.seq #[.int i s.toks,u1]}} :=
   I.laid (t':=s.toks) (fun b o e=>ah _ e) (ak _) (show ObjOk X.prog X.w _ _ _ (.tup [.int i,xs[i]'#[0]]) from⟨⟨by show 2<=sizeLine;rw[sizeLine_eq];decide,NoD.new _ _ _⟩,[.int i s.toks,u1],.cons ⟨_,rfl⟩ (.cons ru1 .nil),IsTup.new _ _⟩)
  have lt:∀ {c o},s.heap.get? c=some o->c≠s.heap.objs.size:=fun e=>ao (ag e)
  have hf':∀ b∈[e,it],cK X pins (upd H s.heap.objs.size (.tup [.int i,xs[i]'#[0]])) b:=fun b hb=>by
   obtain⟨f0,f1,f2,f3,f4,f5⟩:=hf b hb;refine⟨?_,f1,f2,f3,f4,f5⟩;rw[bF]
   ·exact f0
   ·obtain⟨o4,e4,_⟩:=hit;simp only[List.mem_cons,List.not_mem_nil,or_false]at hb;rcases hb with rfl | rfl
    ·exact lt he
    ·exact lt e4
  have kk:∀ b o,b∉[e,it]->(s.heap.push {cls:=.type "tuple",data:=.seq #[.int i s.toks,u1]}).get? b=some o->h2.get? b=some o:=fun b o hb q=>by
   simp only[List.mem_cons,List.not_mem_nil,or_false,not_or]at hb;refine c2.extBut _ _ hb.1 ?_;rcases Heap.get?_push_cases q with⟨rfl,rfl⟩ | q
   ·exact hT
   ·exact k b o hb.1 hb.2 q
  have I2:=jX (s:={s with heap:=s.heap.push {cls:=.type "tuple",data:=.seq #[.int i s.toks,u1]}}) (h':=h2) (t':=s.toks+1) (ch:=[e,it]) I1 kk hf'
  refine⟨.ref s.heap.objs.size,upd H s.heap.objs.size (.tup [.int i,xs[i]'#[0]]),I2,rfl,⟨_,_,rfl,hp,rfl,fun xs' g1=>?_⟩,?_,fun b hb=>(hf' b hb).1⟩
  ·rw[I.list_inj g1 q1];exact e1
  ·exact⟨⟨_,z2⟩,hit'.at fun o q=>c2.extBut _ _ (Ne.symm hei) q⟩
 done:=by
  intro X hP hw hK hc i pins s σ H E I hf st hg;subst hP hw hK;obtain⟨hi,xs,q1,hn⟩:=hg;obtain⟨its,r1,p1,l1⟩:=I.list q1;obtain⟨⟨old,he⟩,hit⟩:=st;have m1:=r1.length
  refine wpAny_pyNext_enum_end (I.ok.hd hc) he hit p1.isList (by simp;omega) fun h' k=>?_
  refine⟨rfl,jX (t':=s.toks) (ch:=[e,it]) I (fun b o hb q=>?_) hf⟩;simp only[List.mem_cons,List.not_mem_nil,or_false,not_or]at hb;exact k b o hb.2 q
 self:=fun _ _ _ _ _ st h=>by
  obtain⟨⟨old,he⟩,_⟩:=st;exact wpAny_pyIter_enum he h
theorem M5:bootBuiltins "enumerate"=some (.type "enumerate"):=by decide +kernel
def kZ(ps:List PyData):List D:=ps.zipIdx.map fun z=>.dat (.tuple [.int z.2,z.1])
@[simp] def wZ(f:DE):DI:=fun d m Q=>f d m fun x m1=>∃ ps,x=.dat (.list ps)/\Q (kZ ps) m1
section
variable {X:Cx}{a:Expr}{elts:List Expr}{j:Nat}{f:DE}{pos p p2:Pos}
theorem AJ(hg:Gl X "enumerate")(hm:X.mg "enumerate"=none)(ha:PE X a (LE X.K f))(hs:starEach [a] X.env=[(false,eval a X.env)]:=by rfl) :
  PI X (.Tuple elts j p2) (.Call (.Name "enumerate" p) [a] [] pos) (LI X.K (wZ f)):=by
 intro pins s σ H R I h;obtain⟨Z,d,m,ZZ,ok,rs,h,k⟩:=h;have hA:=mM (X:=X) ha pP (by rw[hs];rfl) pos pins s σ H (fun vs H1=>∃ a1 xs ps m1,vs=[.ref a1]/\(m1 a1=none/\¬ Z a1)/\SqL X.K H1 a1 xs/\RPs X.K Z m1 H1 ps xs /\
   ZZ (kZ ps) m1/\Ext X.K Z m H m1 H1/\Ok X.K Z m1 H1) I ⟨Z,d,m,fun ds m1=>match ds with | [x]=>∃ ps,x=.dat (.list ps)/\ZZ (kZ ps) m1 | _=>False,ok,rs,h,fun xs m1 vs H1 q e1 ok1 rd=>?_⟩
 ·refine Call_ (gU I hg hm M5 (PyProof.Rows.callWith_type1 (aS hA fun us s1 ⟨vs,H1,I1,r1,q1⟩=>?_) (by rw[hs];rfl) (by rfl)))
  obtain⟨a1,xs,ps,m1,e,h0,h1,rp,q,e1,ok1⟩:=q1;subst e;obtain⟨u1,rfl,ru1⟩:=eR r1
  cases ru1
  obtain⟨its1,rv1,pt1,l1⟩:=I1.list h1;refine call_enumerate_list pt1.isList fun h' he hit hsz kp=>?_;refine wpAny_pyIter_enum (s:={s1 with heap:=h'}) he ?_;refine⟨s1.heap.objs.size+1,[s1.heap.objs.size+1,s1.heap.objs.size],_,_,H1,rfl,I1.kept (t':=s1.toks) kp,Vu (l:=a1) (n:=xs.length) (Nat.succ_ne_self _),⟨⟨_,he⟩,hit⟩,fun c hc=>?_,k _ m1 H1 _ q e1 ok1 ?_⟩
  ·have hle:s1.heap.objs.size<=c:=by
    simp only[List.mem_cons,List.not_mem_nil,or_false]at hc;rcases hc with rfl | rfl
    ·exact Nat.le_add_right _ 1
    ·exact ak _
   exact I1.fpOk hle (I1.hok.fresh hle)
  ·intro m2 H2 e2;obtain⟨_,q1⟩:=e2.l a1 xs h0 h1;have lp:=rp.length
   refine⟨fun i x hx=>?_,?_,xs,q1,rfl⟩
   ·unfold kZ at hx;rw[List.getElem?_map,List.getElem?_zipIdx]at hx
    cases ez:ps[i]? with
    | none=>rw[ez]at hx;cases hx
    | some z =>
     rw[ez]at hx;simp at hx;subst hx;obtain⟨v1,hv1,rv1'⟩:=rp.get ez;have b1:=(List.getElem?_eq_some_iff.mp hv1).1
     refine⟨⟨by omega,xs,q1,rfl⟩,fun v H3 ⟨pp,x',ev,hp,eH,al⟩=>?_⟩
     have w1:=al xs q1
     rw[hv1]at w1
     cases w1
     refine .inr ⟨pp,[.int i,z],[_,_],rfl,ev,hp,eH,?_⟩;simp only[RPs];exact⟨_,_,rfl,by simp only[RP],_,_,rfl,rv1',rfl⟩
   ·show(kZ ps).length=xs.length
    unfold kZ;rw[av,List.length_zipIdx,lp]
 ·match xs,q,rd with
  | [],q,_=>exact q.elim
  | _::_::_,q,_=>exact q.elim
  | [x],q,rd =>
  obtain⟨ps,rfl,q⟩:=q;obtain⟨v,rfl,g1⟩:=rd.one;simp only[RD,RP]at g1;obtain⟨a1,xs,rfl,h0,h1,h2⟩:=g1;exact⟨a1,xs,ps,m1,rfl,h0,h1,h2,q,e1,ok1⟩
end
def oC(K:ad)(t1 t2:Addr)(n:Nat):It :=
 ⟨fun i H=>i<n/\∃ xs ys,SqL K H t1 xs/\SqT K H t2 ys/\n=min xs.length ys.length,fun i H v H'=>∃ p x y,v=.ref p/\H p=none/\H'=upd H p (.tup [x,y])/\∀ xs ys,SqL K H t1 xs->SqT K H t2 ys->xs[i]?=some x/\ys[i]?=some y,
  fun i H=>i=n/\∃ xs ys,SqL K H t1 xs/\SqT K H t2 ys/\n=min xs.length ys.length⟩
section
variable {K:ad}{Z:Addr->Prop}{m m':Mu}{H:Hp}
def eL(m:Mu)(a:Addr):Mu:=fun b=>if b=a then none else m b
theorem qK{a b:Addr}(h:m b=none):eL m a b=none:=by unfold eL;split<;>first | rfl | exact h
end
theorem FK:typeLookup (.type "list") "keys"=pure none:=by rw[typeLookup_type,builtinLookup_eq_fast];kernel_rfl
section
variable {prog:Program}{w:World}{A:Around}{E:Value->Shared->Prop}{s:Shared}
theorem AK{a:Addr}{o:Obj}{xs:Array Value}{k:Nat}{Q:Option Value->Shared->Prop}
  (hx:s.heap.get? a=some o) (hc:o.cls=.type "list") (hdat:o.data=.seq xs k) (hd:o.dict=none) (hA:A.handled=none)
  (h:∀ h' tk,(∀ b ob,s.heap.get? b=some ob->h'.get? b=some ob)->Q none {s with heap:=h',toks:=tk}) :
  wpAny (model prog w) A (getAttr? (.ref a) "keys") Q E s:=by
 obtain⟨c,dct,dat,sl⟩:=o;simp only at hc hdat hd;subst hc hdat hd;obtain⟨hp,g,d,tk,os⟩:=s;have hT:∀ tk',(⟨hp,g,d,tk',os⟩:Shared).TypeIs (.ref a) "list":=fun _=>⟨_,hx,rfl⟩
 have f1:=sub_AttributeError
 have f3:=F.slot_list_getattribute.lookup
 have f4:=F.slot_list_getattribute.bind (.ref a)
 have f5:=am_list_getattr_none
 have hsz:(Str.ofString "keys").length+100<=sizeLine:=by rw[sizeLine_eq];decide
 have hname:(["__module__","__name__","__qualname__","__doc__","__annotations__"]:List Str).contains (Str.ofString "keys")=false:=by decide
 unfold getAttr? getAttrBy? getAttrBy
 repeat (any_goals (first | assumption | exact hT _ | ((with_reducible show wpAny _ _ (call (Value.builtin "list.__getattribute__") _ _) _ _ _);refine call_meets F.slot_list_getattribute (hT _) am_entry_list_getattribute (F.args_list_getattribute_2 _ _) (meets_getattribute_miss_list a xs k sl (Str.ofString "keys") _ FK hname hsz) ⟨hx,hA,fun h' tk' e hx'=>?_⟩) | wp_step))
 obtain⟨t',u',he⟩:=hx'.there;show wpAny _ _ (getattributeRaised _ _ _ _ _ _ _) _ _ _
 unfold getattributeRaised
 repeat (any_goals (first | assumption | wp_step))
 exact h h' tk' hx'.keeps
end
section
variable {prog:Program}{w:World}{κ:Type}[DecidableEq κ]{knd:KeyKind prog w κ}{A:Around}{E:Value->Shared->Prop}{s:Shared}
theorem Ci{R:Result->Shared->Prop}{hb:Heap}{d it tq:Addr}{items:Array Value}(hh:A.handled=none)(hd:hb.get? d=none)(hi:hb.get? it=none)(hne:d≠it)(ht:hb.IsList tq items) :
  ∀ (rest:List (κ×Value)) (i:Nat) (s:Shared) (acc:List (κ×Value)) (tk0:Tok),(∀ b o,hb.get? b=some o->s.heap.get? b=some o)->s.heap.IsListIter it tq i->s.heap.DictOf knd d acc->oU knd hb (items.toList.drop i) rest->acc.length+rest.length<=sizeLine ->
  (∀ h' tk,(∀ b o,hb.get? b=some o->h'.get? b=some o)->h'.DictOf knd d (rB acc rest)->R (.ok (.ret .none)) {s with heap:=h',toks:=tk}) ->
  codeAny (model prog w) A (.builtin "dict.update.loop" ⟨[.ref d,.ref it,.int i tk0,.none],[]⟩) R s
 | [],i,s,acc,tk0,keeps,hit,hdo,hp,hsz,hR=>by
  have hx:items[i]?=none:=by
   cases e:items.toList.drop i with
   | nil =>
    have:=List.drop_eq_nil_iff.mp e
    rw[Array.getElem?_eq_none_iff];simpa using this
   | cons x xs=>rw[e]at hp;exact hp.elim
  have ht':s.heap.IsList tq items:=by
   obtain⟨o,ho,r⟩:=ht;exact⟨o,keeps _ _ ho,r⟩
  refine codeAny_builtin Ez ?_;rw[Around.under_plainId pS _];show wpAny _ A.in1 (pyNext (.ref it)>>=_) _ _ s
  refine ae (wpAny_pyNext_list_end hh hit ht' hx fun h' hs=>?_);show wpAny _ A.in1 (Builtin.Dict.addKeywords d []>>=_) _ _ _
  refine ae (af (af ?_));refine hR h' s.toks (fun b o e=>hs b o (fun q=>by rw[q,hi]at e;cases e) (keeps b o e)) (hdo.extBut hs hne)
 | (k,v)::rest,i,s,acc,tk0,keeps,hit,hdo,hp,hsz,hR=>by
  cases e:items.toList.drop i with
  | nil=>rw[e]at hp;exact hp.elim
  | cons x xs =>
   rw[e]at hp;obtain⟨⟨b,key,rfl,hb2,hk⟩,hp2⟩:=hp;have hx:items[i]?=some (.ref b):=by
    have:=congrArg List.head? e
    rw[List.head?_drop]at this;simpa using this
   have e2:items.toList.drop (i+1)=xs:=by
    have:=congrArg List.tail e
    rw[List.tail_drop]at this;simpa using this
   have ht':s.heap.IsList tq items:=by
    obtain⟨o,ho,r⟩:=ht;exact⟨o,keeps _ _ ho,r⟩
   refine codeAny_builtin Ez ?_;rw[Around.under_plainId pS _];show wpAny _ A.in1 (pyNext (.ref it)>>=_) _ _ s
   refine ae (wpAny_pyNext_list_item hit ht' hx fun h1 hit1 hs1=>?_);have k1:∀ b o,hb.get? b=some o->h1.get? b=some o:=fun b o e=>hs1.extBut b o (fun q=>by rw[q,hi]at e;cases e) (keeps b o e)
   have ht1:({s with heap:=h1}:Shared).heap.IsTuple b #[key,v]:=by
    obtain⟨o,ho,r⟩:=hb2;exact⟨o,k1 _ _ ho,r⟩
   have hdo1:({s with heap:=h1}:Shared).heap.DictOf knd d acc:=hdo.sameBut hs1 hne
   obtain⟨o,ho,hoc,no,hod⟩:=id ht1;refine ae (wpAny_holding (ae (wpAny_tryCatch ?_)));unfold Builtin.Dict.pairItems;refine ae (wpAny_typeOf ht1.typeIs ?_);rw[if_pos #[1]]
   refine ae (wpAny_seqItems ho hod (af ?_));show wpAny _ A.in1 (holding [key,v] (dictSet d key v)) _ _ _
   refine wpAny_holding (wpAny_dictSet_pairs (hsz:=by simp at hsz;omega) hk hdo1 fun h2 hdo2 hs2=>?_)
   refine af ⟨plainId_quiet pS _,?_⟩;have ih:=Ci (R:=R) hh hd hi hne ht rest (i+1) {s with heap:=h2,toks:=s.toks+1} (stored acc k v) 0
    (fun b o e=>hs2.extBut b o (fun q=>by rw[q,hd]at e;cases e) (k1 b o e)) (hit1.extBut hs2.extBut (Ne.symm hne)) hdo2 (by rw[e2];exact hp2)
    (by have:=Ta acc k v;simp at hsz;omega) (fun h' tk q1 q2=>hR h' tk q1 q2)
   exact ih
theorem y4{Q:Value->Shared->Prop}{tq:Addr}{o:Obj}{items:Array Value}{n:Nat}{kvs:List (κ×Value)}(hh:A.handled=none)(ho:s.heap.get? tq=some o)(hc:o.cls=.type "list")(hdn:o.dict=none)(hdat:o.data=.seq items n)
  (hp:oU knd s.heap items.toList kvs) (hsz:kvs.length<=sizeLine)
  (hQ:∀ h' tk,(∀ b o,s.heap.get? b=some o->h'.get? b=some o)->h'.DictOf knd s.heap.objs.size (rB [] kvs)->Q (.ref s.heap.objs.size) {s with heap:=h',toks:=tk}) :
  wpAny (model prog w) A (call (.type "dict") [.ref tq]) Q E s:=by
 refine callType_codes (Q₁:=fun obj s₁=>obj=.ref s.heap.objs.size/\s₁={s with heap:=s.heap.push {cls:=.type "dict",data:=.dict #[]}}) F.kt_called_dict (F.kt_typeCall_dict_1 _) F.entry_dict_init (kt_code_dict_new _ ⟨rfl,rfl⟩) ?_;rintro obj s₁ ⟨rfl,rfl⟩;have hnew:(s.heap.push {cls:=.type "dict",data:=.dict #[]}).DictOf knd s.heap.objs.size []:=Heap.DictOf.new s.heap
 refine⟨hnew.typeIs,F.args_dict_init_2 _ _,?_⟩;unfold Builtin.«dict.__init__»;refine ae ?_;unfold Builtin.Dict.selfAndRest;refine ae (wpAny_notOrdered_dict hnew.typeIs ?_);show wpAny _ _ (pure (s.heap.objs.size,[Value.ref tq])) _ _ _
 refine af ?_;show wpAny _ _ (Builtin.Dict.updateFrom "dict.__init__" s.heap.objs.size (.ref tq) [] .none) _ _ _
 unfold Builtin.Dict.updateFrom;have ho1:(s.heap.push {cls:=.type "dict",data:=.dict #[]}).get? tq=some o:=ah _ ho
 refine ae (wpAny_typeOf (T:="list") ⟨_,ho1,hc⟩ ?_);rw[if_pos #[1]]
 refine ae (AK ho1 hc hdat hdn hh fun h1 tk1 k1=>?_);rw[if_pos (show(none:Option Value).isNone=true from rfl)]
 have g0:s.heap.get? s.heap.objs.size=none:=by
  cases e:s.heap.get? s.heap.objs.size with
  | none=>rfl
  | some ob=>exact absurd (ag e) (Nat.lt_irrefl _)
 have g1:s.heap.get? h1.objs.size=none:=by
  cases e:s.heap.get? h1.objs.size with
  | none=>rfl
  | some ob=>exact absurd (ag (k1 _ _ (ah _ e))) (Nat.lt_irrefl _)
 have hd1:h1.DictOf knd s.heap.objs.size []:=by
  obtain⟨ob,es,ep,q,r⟩:=hnew;exact⟨ob,es,ep,k1 _ _ q,r⟩
 have hne:s.heap.objs.size≠h1.objs.size:=by
  obtain⟨ob,es,ep,q,r⟩:=hd1;exact ao (ag q)
 have ht:s.heap.IsList tq items:=⟨o,ho,hc,n,hdat⟩
 refine ae (wpAny_rule (ae (wpAny_pyIter_list (l:=tq) (items:=items) ⟨o,k1 _ _ ho1,hc,n,hdat⟩ ?_)));refine af ⟨plainId_quiet pS _,?_⟩;refine Ci (A:=A.in1) (knd:=knd) (hb:=s.heap) (show A.in1.handled=none from hh) g0 g1 hne ht kvs 0 {s with heap:=h1.push {cls:=.type "list_iterator",data:=.fields #[.ref tq,.int 0 0]},toks:=tk1} [] 0 (fun b ob e=>ah _ (k1 _ _ (ah _ e))) ⟨_,ai _ rfl,rfl,rfl⟩ (hd1.push _) #[4,hp] #[4,hsz] fun h' tk q1 q2=>?_
 exact⟨rfl,hQ h' tk q1 q2⟩
end
section
variable {X:Cx}{e:Expr}{f:DE}{pos p:Pos}
@[simp] def vP(f:DE):DE:=fun d m Q=>f d m fun x m1=>∃ kvs:List (aL×PyData),x=.dat (.list (kvs.map fun kv=>.tuple [mP kv.1,kv.2]))/\kvs.length<=sizeLine/\∀ a,m1 a=none->Q (.cel a) (aW m1 a (.d (iA [] kvs)))
theorem y6(hc:X.calm=true)(hg:Gl X "dict")(hm:X.mg "dict"=none)(he:PE X e (LE X.K f))(hs:starEach [e] X.env=[(false,eval e X.env)]:=by rfl):PE X (.Call (.Name "dict" p) [e] [] pos) (LE X.K (vP f)):=by
 intro pins s σ H Q I h;obtain⟨Z,d,m,R,ok,rs,h,k⟩:=h;have hA:=jY (X:=X) he kX (by rw[hs];rfl) pos pins s σ H (fun vs H1=>∃ (v:V) (kvs:List (aL×PyData)) (m1:Mu),vs=[v]/\RD X.K Z m1 H1 (.dat (.list (kvs.map fun kv=>.tuple [mP kv.1,kv.2]))) v/\kvs.length<=sizeLine/\(∀ a,m1 a=none->R (.cel a) (aW m1 a (.d (iA [] kvs))))/\Ext X.K Z m H m1 H1/\Ok X.K Z m1 H1) I ⟨Z,d,m,_,ok,rs,h,fun x m1 v H1 ⟨kvs,ex,hn,q⟩ e1 ok1 rd=>by
  subst ex;exact⟨v,kvs,m1,rfl,rd,hn,q,e1,ok1⟩⟩
 refine Call_ (gU I hg hm boot_dict (PyProof.Rows.callWith_type1 (aS hA fun us s1 ⟨vs,H1,I1,r1,q1⟩=>?_) hs rfl));obtain⟨v,kvs,m1,ev,rd,hn,q,e1,ok1⟩:=q1;subst ev;simp only[RD,RP]at rd;obtain⟨a,ps,rfl,_,hsq,hp⟩:=rd;obtain⟨u,rfl,hu⟩:=eR r1
 cases (show u=Value.ref a from hu)
 obtain⟨its,rv,⟨o,n,ho,hoc,hdn,hod⟩,_⟩:=I1.list hsq;obtain⟨ws,xs,q1,q2,q3,q4⟩:=Bz (Z:=Z) (m:=m1) I1 hp rv;have hp0:H1 s1.heap.objs.size=none:=I1.hok.fresh (ak _)
 have hk0:X.K.lookup s1.heap.objs.size=none:=by
  cases e:X.K.lookup s1.heap.objs.size with
  | none=>rfl
  | some o=>exact absurd (ag (I1.kIn _ o e)) (Nat.lt_irrefl _)
 refine y4 (knd:=bX X.prog X.w) (I1.ok.hd hc) ho hoc hdn hod #[4,q3] (by rw[q4];exact hn) fun h' tk kp dd=>?_
 have rk:RKV X.K Z m1 H1 (iA [] kvs) (mB [] ws):=RKV.puts (show RKV _ _ _ _ _ _ from rfl) q1
 have ob:ObjOk X.prog X.w (upd H1 s1.heap.objs.size (.dK (mB [] ws))) h' s1.heap.objs.size (.dK (mB [] ws)):=by
  refine⟨?_,beq_eq_false_iff_ne.mpr (Ne.symm (ao I1.big)),_,KV.puts q2 .nil,dd⟩;rw[rk.length];exact Nat.le_trans (Gd kvs []) #[4,hn]
 exact⟨.ref s1.heap.objs.size,_,I1.laid (t':=tk) kp (ak _) ob,rfl,k _ _ _ _ (q _ (eY ok1 hp0).1) (e1.trans (Ext.cell ok1 hp0 hk0)) (ok1.cell hp0 hk0 (show RKV _ _ _ _ _ _ from rk)) ⟨rfl,by rw[bM];rfl⟩⟩
end
theorem M4:typeLookup (.type "zip") (Str.ofString "__len__")=pure none:=by rw[typeLookup_type,builtinLookup_eq_fast];kernel_rfl
theorem Uc:typeLookup (.type "zip") (Str.ofString "__length_hint__")=pure none:=by rw[typeLookup_type,builtinLookup_eq_fast];kernel_rfl
section
variable {prog:Program}{w:World}{A:Around}{E:Value->Shared->Prop}{s:Shared}
theorem Ef{x:Value}{T:String}{name:Str}{Q:Option Value->Shared->Prop}(hT:s.TypeIs x T)(hl:typeLookup (.type T) name=pure none)(h:Q none s):wpAny (model prog w) A (specialOf x name) Q E s:=by
 unfold specialOf;refine ae (wpAny_typeOf hT ?_);rw[hl];exact af h
theorem J2{z:Addr}{Q:Bool->Shared->Prop}(hT:s.TypeIs (.ref z) "zip")(h:Q true s):wpAny (model prog w) A (Builtin.List.listLengthHint (.ref z)) Q E s:=by
 unfold Builtin.List.listLengthHint;refine ae (Ef hT M4 ?_);have e:∀ o:Option Value,o=none->(if o.isSome=true then False else True):=fun o h=>by subst h;trivial
 show wpAny _ _ (specialOf (.ref z) (Str.ofString "__length_hint__")>>=_) _ _ _
 refine ae (Ef hT Uc ?_);exact af h
theorem Z3{a:Addr}{o:Obj}{Q:Option Obj->Shared->Prop}(ho:s.heap.get? a=some o)(h:Q (some o) s):wpAny (model prog w) A (loadIfAlive a) Q E s:=by
 intro Γ p hin;unfold loadIfAlive;rw[Sem.wp_loadIfAlive];simp only[ho];exact af h Γ p hin
abbrev ZH(h:Heap)(z TI TO:Addr)(T:Nat)(b:Bool):Prop:=h.get? z=some {cls:=.type "zip",data:=.fields #[rawInt T,.bool b,.bool false,.ref TI,.ref TO]}
theorem zN{z TI TO:Addr}{T:Nat}{b:Bool}{Q:Bool->Shared->Prop}(hz:ZH s.heap z TI TO T b)(ht:∃ o,s.heap.get? T=some o)(h:∀ h',ZH h' z TI TO T true->Heap.SameBut z s.heap h'->Q false {s with heap:=h'}) :
  wpAny (model prog w) A (Builtin.SmallTypes.ownedTupleIsFree (.ref z)) Q E s:=by
 obtain⟨o,ho⟩:=ht;unfold Builtin.SmallTypes.ownedTupleIsFree;refine ae (wpAny_field hz rfl (x:=rawInt T) rfl ?_);show wpAny _ _ (loadIfAlive ((T:Int).toNat)>>=_) _ _ _
 rw[Int.toNat_natCast];refine ae (Z3 ho ?_);show wpAny _ _ (field (.ref z) 1>>=_) _ _ _
 refine ae (wpAny_field hz rfl (x:=.bool b) rfl ?_)
 cases b with
 | true=>exact af (h s.heap hz (Heap.SameBut.refl _ _))
 | false =>
  show wpAny _ _ (setField (.ref z) 1 (.bool true)>>=_) _ _ _
  exact ae (wpAny_setField_rec hz #[2] fun h' e c=>af (h h' e c))
theorem CI{z TI TO i1 i2 l1 l2:Addr}{T k:Nat}{b:Bool}{xs ys:Array Value}{x y:Value}{Q:Value->Shared->Prop}(D:ZipApart z TI TO i1 i2 l1 l2)(hz:ZH s.heap z TI TO T b)(ht:∃ o,s.heap.get? T=some o)
  (hTI:IsPair s.heap TI (.ref i1) (.ref i2)) (h1:s.heap.IsListIter i1 l1 k) (h2:s.heap.IsListIter i2 l2 k) (g1:s.heap.IsList l1 xs) (g2:s.heap.IsList l2 ys) (hx:xs[k]?=some x) (hy:ys[k]?=some y)
  (hQ:∀ h',ZH h' z TI TO T true->IsPair h' TI (.ref i1) (.ref i2)->h'.IsListIter i1 l1 (k+1)->h'.IsListIter i2 l2 (k+1)->IsPair h' s.heap.objs.size x y ->
   (∀ c o,c≠z->c≠i1->c≠i2->s.heap.get? c=some o->h'.get? c=some o)->Q (.ref s.heap.objs.size) {s with heap:=h'}) :
  wpAny (model prog w) A (Builtin.«zip.__next__» ⟨[.ref z],[]⟩) (fun fin s'=>∃ v,fin=.done (.ret v)/\Q v s') E s:=by
 show wpAny _ _ (field (.ref z) 2>>=_) _ _ _;refine ae (wpAny_field hz rfl (x:=.bool false) rfl ?_)
 show wpAny _ _ (field (.ref z) 3>>=_) _ _ _;refine ae (wpAny_field hz rfl (x:=.ref TI) rfl (ae (wpAny_seqItems hTI rfl ?_)))
 show wpAny _ _ (Builtin.SmallTypes.ownedTupleIsFree (.ref z)>>=_) _ _ _
 refine ae (zN hz ht fun n1 z1 c1=>?_);rw[if_neg am];simp only[List.forIn_toArray,List.forIn_cons,List.forIn_nil];refine ae (ae (ae (wpAny_holding ?_)));show wpAny _ _ (Builtin.SmallTypes.nextOf (.ref i1)>>=_) _ _ _
 refine ae (wpAny_nextOf_list_item (h1.at fun o e=>c1.extBut _ o D.i1z e) (g1.extBut c1.extBut D.l1z) hx fun n2 b2 c2=>af ?_);refine af ?_;refine ae (ae (wpAny_holding ?_));show wpAny _ _ (Builtin.SmallTypes.nextOf (.ref i2)>>=_) _ _ _
 have up2:∀ c o,c≠z->c≠i1->s.heap.get? c=some o->n2.get? c=some o:=fun c o q1 q3 e=>c2.extBut _ _ q3 (c1.extBut _ _ q1 e)
 have g22:n2.IsList l2 ys:=by
  obtain⟨o,ho,r⟩:=g2;exact⟨o,up2 _ _ D.l2z D.l2i1 ho,r⟩
 refine ae (wpAny_nextOf_list_item (h2.at fun o e=>up2 _ o D.i2z D.i12.symm e) g22 hy fun n3 b3 c3=>af ?_);refine af (af ?_);show wpAny _ _ (newTuple [x,y]>>=_) _ _ _
 refine ae (wpAny_newTuple ?_);have size3:n3.objs.size=s.heap.objs.size:=by rw[c3.1,c2.1,c1.1]
 have up3:∀ c o,c≠z->c≠i1->c≠i2->s.heap.get? c=some o->n3.get? c=some o:=fun c o q1 q3 q4 e=>c3.extBut _ _ q4 (up2 c o q1 q3 e)
 have z3:ZH n3 z TI TO T true:=c3.extBut _ _ D.i2z.symm (c2.extBut _ _ D.i1z.symm z1)
 refine af ⟨_,rfl,?_⟩;show Q (.ref n3.objs.size) _
 rw[size3];have new:IsPair (n3.push {cls:=.type "tuple",data:=.seq #[x,y]}) n3.objs.size x y:=ai _ rfl
 rw[size3]at new;exact hQ _ (ah _ z3) (ah _ (up3 _ _ D.TIz D.TIi1 D.TIi2 hTI)) (b2.at fun o e=>ah _ (c3.extBut _ _ D.i12 e)) (b3.at fun o e=>ah _ e) new fun c o q1 q2 q3 e=>ah _ (up3 c o q1 q2 q3 e)
theorem L5{z TI TO i1 i2 l1 l2:Addr}{T k:Nat}{b:Bool}{xs ys:Array Value}{Q:Fin->Shared->Prop}(hh:A.handled=none)(D:ZipApart z TI TO i1 i2 l1 l2)(hz:ZH s.heap z TI TO T b)(ht:∃ o,s.heap.get? T=some o)
  (hTI:IsPair s.heap TI (.ref i1) (.ref i2)) (h1:s.heap.IsListIter i1 l1 k) (g1:s.heap.IsList l1 xs) (hx:xs[k]?=none)
  (hE:∀ h' e,(∀ c o,c≠z->c≠i1->c≠i2->s.heap.get? c=some o->h'.get? c=some o)->(∃ o,h'.get? e=some o/\o.cls=.type "StopIteration")->E (.ref e) {s with heap:=h'}) :
  wpAny (model prog w) A (Builtin.«zip.__next__» ⟨[.ref z],[]⟩) Q E s:=by
 show wpAny _ _ (field (.ref z) 2>>=_) _ _ _;refine ae (wpAny_field hz rfl (x:=.bool false) rfl ?_)
 show wpAny _ _ (field (.ref z) 3>>=_) _ _ _;refine ae (wpAny_field hz rfl (x:=.ref TI) rfl (ae (wpAny_seqItems hTI rfl ?_)))
 show wpAny _ _ (Builtin.SmallTypes.ownedTupleIsFree (.ref z)>>=_) _ _ _
 refine ae (zN hz ht fun n1 z1 c1=>?_);rw[if_neg am];simp only[List.forIn_toArray,List.forIn_cons,List.forIn_nil];refine ae (ae (ae (wpAny_holding ?_)));show wpAny _ _ (Builtin.SmallTypes.nextOf (.ref i1)>>=_) _ _ _
 refine ae (wpAny_nextOf_list_end hh (h1.at fun o e=>c1.extBut _ o D.i1z e) (g1.extBut c1.extBut D.l1z) hx fun n2 e c2 he=>?_);exact hE n2 e (fun c o q1 q2 q3 q=>c2 _ _ q2 (c1.extBut _ _ q1 q)) he
theorem AF{z TI TO i1 i2 l1 l2:Addr}{T k:Nat}{b:Bool}{xs ys:Array Value}{x y:Value}{Q:Option Value->Shared->Prop}(D:ZipApart z TI TO i1 i2 l1 l2)(hz:ZH s.heap z TI TO T b)(ht:∃ o,s.heap.get? T=some o)
  (hTI:IsPair s.heap TI (.ref i1) (.ref i2)) (h1:s.heap.IsListIter i1 l1 k) (h2:s.heap.IsListIter i2 l2 k) (g1:s.heap.IsList l1 xs) (g2:s.heap.IsList l2 ys) (hx:xs[k]?=some x) (hy:ys[k]?=some y)
  (hQ:∀ h',ZH h' z TI TO T true->IsPair h' TI (.ref i1) (.ref i2)->h'.IsListIter i1 l1 (k+1)->h'.IsListIter i2 l2 (k+1)->IsPair h' s.heap.objs.size x y ->
   (∀ c o,c≠z->c≠i1->c≠i2->s.heap.get? c=some o->h'.get? c=some o)->Q (some (.ref s.heap.objs.size)) {s with heap:=h'}) :
  wpAny (model prog w) A (pyNext (.ref z)) Q E s:=by
 have hT:s.TypeIs (.ref z) "zip":=⟨_,hz,rfl⟩
 unfold pyNext;exact ae (wpAny_attempt (wpAny_callSpecial?_slot (name:=Str.ofString "__next__") hT F.slot_zip_next (wpAny_call_entry F.slot_zip_next hT F.entry_zip_next (CI D hz ht hTI h1 h2 g1 g2 hx hy fun h' a1 a2 a3 a4 a5 a6=>af (hQ h' a1 a2 a3 a4 a5 a6)) (F.args_zip_next_1 _))))
theorem Ua{z TI TO i1 i2 l1 l2:Addr}{T k:Nat}{b:Bool}{xs:Array Value}{Q:Option Value->Shared->Prop}(hh:A.handled=none)(D:ZipApart z TI TO i1 i2 l1 l2)(hz:ZH s.heap z TI TO T b)(ht:∃ o,s.heap.get? T=some o)
  (hTI:IsPair s.heap TI (.ref i1) (.ref i2)) (h1:s.heap.IsListIter i1 l1 k) (g1:s.heap.IsList l1 xs) (hx:xs[k]?=none)
  (hQ:∀ h',(∀ c o,c≠z->c≠i1->c≠i2->s.heap.get? c=some o->h'.get? c=some o)->Q none {s with heap:=h'}) :
  wpAny (model prog w) A (pyNext (.ref z)) Q E s:=by
 have hT:s.TypeIs (.ref z) "zip":=⟨_,hz,rfl⟩
 unfold pyNext;refine ae (wpAny_attempt (wpAny_callSpecial?_slot (name:=Str.ofString "__next__") hT F.slot_zip_next (wpAny_call_entry F.slot_zip_next hT F.entry_zip_next (L5 (l2:=l2) (ys:=#[]) hh D hz ht hTI h1 g1 hx fun h' e k he=>?_) (F.args_zip_next_1 _))));obtain⟨o,ho,hce⟩:=he;refine ae (wpAny_isInstance (T:="StopIteration") (b:=true) ⟨o,ho,hce⟩ isSubtype_stop ?_);exact af (hQ h' k)
end
section
variable {X:Cx}{pins:List (Addr×Obj)}{σ:L2.St}
theorem Fy{H:Hp}{s:Shared}{h':Heap}{ch:List Addr}{x y:V}{u1 u2:Value}{t':Nat}(I:Inv X pins σ H s)(hf:∀ b∈ch,cK X pins H b)(hin:∀ b∈ch,∃ o,s.heap.get? b=some o)(rx:RelV x u1)(ry:RelV y u2)
  (np:IsPair h' s.heap.objs.size u1 u2) (k:∀ b o,b∉ch->s.heap.get? b=some o->h'.get? b=some o) :
  Inv X pins σ (upd H s.heap.objs.size (.tup [x,y])) {s with heap:=h',toks:=t'}/\∀ b∈ch,cK X pins (upd H s.heap.objs.size (.tup [x,y])) b:=by
 have I1:Inv X pins σ (upd H s.heap.objs.size (.tup [x,y])) {s with heap:=s.heap.push {cls:=.type "tuple",data:=.seq #[u1,u2]}} :=
  I.laid (t':=s.toks) (fun b o e=>ah _ e) (ak _) (show ObjOk X.prog X.w _ _ _ (.tup [x,y]) from⟨⟨by show 2<=sizeLine;rw[sizeLine_eq];decide,NoD.new _ _ _⟩,[u1,u2],.cons rx (.cons ry .nil),IsTup.new _ _⟩)
 have hf':∀ b∈ch,cK X pins (upd H s.heap.objs.size (.tup [x,y])) b:=fun b hb=>by
  obtain⟨f0,f1,f2,f3,f4,f5⟩:=hf b hb;obtain⟨o,ho⟩:=hin b hb;exact⟨by rw[bF (ao (ag ho))];exact f0,f1,f2,f3,f4,f5⟩
 refine⟨jX (s:={s with heap:=s.heap.push {cls:=.type "tuple",data:=.seq #[u1,u2]}}) (h':=h') (t':=t') (ch:=ch) I1 (fun b o hb e=>?_) hf',hf'⟩;rcases Heap.get?_push_cases e with⟨rfl,rfl⟩ | e
 ·exact np
 ·exact k b o hb e
def PairsH(H:Hp)(xs ys:List V)(ps:List Addr):Prop:=∀ (j:Nat) (p:Addr),ps[j]?=some p->∃ x y,xs[j]?=some x/\ys[j]?=some y/\H p=some (.tup [x,y])
theorem PairsH.same{H H':Hp}{xs ys:List V}{ps:List Addr}(h:PairsH H xs ys ps)(e:Same H H'):PairsH H' xs ys ps:=fun j p q=>let ⟨x,y,h1,h2,h3⟩:=h j p q;⟨x,y,h1,h2,e _ _ h3⟩
theorem PairsH.snoc{H:Hp}{xs ys:List V}{ps:List Addr}{a:Addr}{x y:V}(h:PairsH H xs ys ps)(hx:xs[ps.length]?=some x)(hy:ys[ps.length]?=some y)(ha:H a=some (.tup [x,y])):PairsH H xs ys (ps++[a]):=fun j p q=>by
 rcases Nat.lt_or_ge j ps.length with c | c
 ·rw[List.getElem?_append_left c]at q;exact h j p q
 ·rw[List.getElem?_append_right c]at q;have:j-ps.length=0:=by
   rcases Nat.eq_zero_or_pos (j-ps.length) with z | z
   ·exact z
   ·rw[List.getElem?_eq_none (by simp;omega)]at q;cases q
  rw[this]at q
  cases q
  have e:j=ps.length:=by omega
  subst e;exact⟨x,y,hx,hy,ha⟩
theorem Nw{prog:Program}{w:World}{A:Around}{R:Result->Shared->Prop}{z TI TO i1 i2 l1 l2 S:Addr}{res:Value}{xs ys:List V}(hh:A.handled=none)(D:ZipApart z TI TO i1 i2 l1 l2)(Sz:S≠z)(S1:S≠i1)(S2:S≠i2)(S3:S≠TI)(S4:S≠TO)(hl:xs.length<=ys.length)(hsz:xs.length<=1000) :
  ∀ (n k:Nat) (s:Shared) (H:Hp) (acc:Array Value) (c:Nat) (ps:List Addr) (T:Nat) (b:Bool),n+k=xs.length->Inv X pins σ H s->(∀ b∈[z,TI,TO,i1,i2,S],cK X pins H b)->(∀ b∈[z,TI,TO,i1,i2,S],∃ o,s.heap.get? b=some o) ->
   ZH s.heap z TI TO T b->(∃ o,s.heap.get? T=some o)->T≠z->T≠i1->T≠i2->T≠S->IsPair s.heap TI (.ref i1) (.ref i2)->s.heap.IsListIter i1 l1 k->s.heap.IsListIter i2 l2 k->SqL X.K H l1 xs->SqL X.K H l2 ys ->
   s.heap.get? S=some {cls:=.type "list",data:=.seq acc c}->acc.toList=ps.map .ref->ps.length=k->PairsH H xs ys ps ->
   (∀ s' H' acc' c' ps',Inv X pins σ H' s'->Same H H'->s'.heap.get? S=some {cls:=.type "list",data:=.seq acc' c'}->acc'.toList=ps'.map .ref->ps'.length=xs.length->PairsH H' xs ys ps'->H' S=none->R (.ok (.ret res)) s') ->
   codeAny (model prog w) A (.builtin "list.extend.loop" ⟨[.ref S,.ref z,res],[]⟩) R s
 | 0,k,s,H,acc,c,ps,T,b,hn,I,hf,hin,hz,ht,tz,t1,t2,tS,hTI,h1,h2,g1,g2,hS,ha,hk,hp,hR=>by
  obtain⟨its1,r1,p1,_⟩:=I.list g1;have m1:=r1.length
  refine codeAny_builtin F.entry_extend_loop ?_;rw[Around.under_plainId F.plain_extend_loop _];show wpAny _ A.in1 (pyNext (.ref z)>>=_) _ _ s
  refine ae (Ua (xs:=its1.toArray) hh D hz ht hTI h1 p1.isList (by simp;omega) fun h' kp=>?_)
  refine af ?_;have I2:Inv X pins σ H {s with heap:=h'}:=jX (t':=s.toks) (ch:=[z,TI,TO,i1,i2,S]) I (fun b o hb e=>by
   simp only[List.mem_cons,List.not_mem_nil,or_false,not_or]at hb;exact kp b o hb.1 hb.2.2.2.1 hb.2.2.2.2.1 e) hf
  exact hR _ H acc c ps I2 (fun _ _ e=>e) (kp _ _ Sz S1 S2 hS) ha #[0] hp (hf S #[2]).1
 | n+1,k,s,H,acc,c,ps,T,b,hn,I,hf,hin,hz,ht,tz,t1,t2,tS,hTI,h1,h2,g1,g2,hS,ha,hk,hp,hR=>by
  obtain⟨its1,r1,p1,_⟩:=I.list g1;obtain⟨its2,r2,p2,_⟩:=I.list g2;have e1:xs[k]?=some (xs[k]'#[0]):=List.getElem?_eq_getElem #[0]
  have e2:ys[k]?=some (ys[k]'#[0]):=List.getElem?_eq_getElem #[0]
  obtain⟨u1,hu1,ru1⟩:=r1.get e1;obtain⟨u2,hu2,ru2⟩:=r2.get e2;refine codeAny_builtin F.entry_extend_loop ?_;rw[Around.under_plainId F.plain_extend_loop _];show wpAny _ A.in1 (pyNext (.ref z)>>=_) _ _ s
  refine ae (AF D hz ht hTI h1 h2 p1.isList p2.isList #[4,hu1] #[4,hu2] fun h' b1 b2 b3 b4 np kp=>?_)
  have hS':=kp _ _ Sz S1 S2 hS
  have asz:acc.size=k:=by
   have:=congrArg List.length ha
   rw[av]at this;simpa[hk] using this
  refine ae (listUpdate_at hS' rfl ?_ (by rw[asz,sizeLine_eq];omega) (by simp;rw[asz,sizeLine_eq];omega))
  refine af ⟨plainId_quiet F.plain_extend_loop _,?_⟩
  -- behind the update
  obtain⟨h2',eh2⟩:∃ h2',h2'=h'.update S (Obj.mapSeq fun x=>x.push (.ref s.heap.objs.size)):=⟨_,rfl⟩;have hS2:h2'.get? S=some {cls:=.type "list",data:=.seq (acc.push (.ref s.heap.objs.size)) (c+1)}:=by
   rw[eh2,Heap.get?_update_self _ hS' rfl];simp[Obj.mapSeq]
  have sb:Heap.SameBut S h' h2':=by rw[eh2];exact Heap.SameBut.update ..
  rw[<- eh2];have lt:∀ b∈[z,TI,TO,i1,i2,S],b≠s.heap.objs.size:=fun b hb=>by
   obtain⟨o,ho⟩:=hin b hb;exact ao (ag ho)
  have nz:=lt z #[2]
  have nS:=lt S #[2]
  have kp2:∀ b o,b∉[z,TI,TO,i1,i2,S]->s.heap.get? b=some o->h2'.get? b=some o:=fun b o hb e=>by
   simp only[List.mem_cons,List.not_mem_nil,or_false,not_or]at hb;exact sb.extBut _ _ hb.2.2.2.2.2 (kp b o hb.1 hb.2.2.2.1 hb.2.2.2.2.1 e)
  obtain⟨I2,hf2⟩:=Fy (t':=s.toks) I hf hin ru1 ru2 (sb.extBut _ _ (Ne.symm nS) np) kp2;have sm:Same H (upd H s.heap.objs.size (.tup [xs[k]'#[0],ys[k]'#[0]])):=cC (I.hok.fresh (ak _))
  refine Nw hh D Sz S1 S2 S3 S4 hl hsz n (k+1) {s with heap:=h2'} _ (acc.push (.ref s.heap.objs.size)) (c+1) (ps++[s.heap.objs.size]) T true #[0] I2 hf2 (fun b hb=>?_) ?_ ?_ tz t1 t2 tS ?_ ?_ ?_ (sm.seq g1) (sm.seq g2) hS2 ?_ (by simp[hk]) ((hp.same sm).snoc (by rw[hk];exact e1) (by rw[hk];exact e2) cA) fun s' H' acc' c' ps' a1 a2 a3 a4 a5 a6 a7=>hR s' H' acc' c' ps' a1 (fun b o e=>a2 _ _ (sm b o e)) a3 a4 a5 a6 a7
  ·simp only[List.mem_cons,List.not_mem_nil,or_false]at hb;rcases hb with rfl | rfl | rfl | rfl | rfl | rfl
   ·exact⟨_,sb.extBut _ _ (Ne.symm Sz) b1⟩
   ·exact⟨_,sb.extBut _ _ (Ne.symm S3) b2⟩
   ·obtain⟨o,ho⟩:=hin b #[2]
    exact⟨o,sb.extBut _ _ (Ne.symm S4) (kp _ _ D.TOz D.TOi1 D.TOi2 ho)⟩
   ·obtain⟨o,ho,_⟩:=b3;exact⟨o,sb.extBut _ _ (Ne.symm S1) ho⟩
   ·obtain⟨o,ho,_⟩:=b4;exact⟨o,sb.extBut _ _ (Ne.symm S2) ho⟩
   ·exact⟨_,hS2⟩
  ·exact sb.extBut _ _ (Ne.symm Sz) b1
  ·obtain⟨o,ho⟩:=ht;exact⟨o,sb.extBut _ _ tS (kp _ _ tz t1 t2 ho)⟩
  ·exact sb.extBut _ _ (Ne.symm S3) b2
  ·exact b3.at fun o e=>sb.extBut _ _ (Ne.symm S1) e
  ·exact b4.at fun o e=>sb.extBut _ _ (Ne.symm S2) e
  ·simp[ha]
end
open AutoSeq1 (wpAny_loadPart')
section
variable {X:Cx}{pins:List (Addr×Obj)}{σ:L2.St}
theorem x9{prog:Program}{w:World}{A:Around}{R:Result->Shared->Prop}{z TI TO i1 i2 l1 l2 S:Addr}{res:Value}{xs ys:List V}(hh:A.handled=none)(D:ZipApart z TI TO i1 i2 l1 l2)(Sz:S≠z)(S1:S≠i1)(S2:S≠i2)(S3:S≠TI)(S4:S≠TO)(hl:xs.length<=ys.length)(hsz:xs.length<=1000)(h0:0<xs.length)
  {s:Shared} {H:Hp} {c:Nat} (I:Inv X pins σ H s) (hf:∀ b∈[z,TI,TO,i1,i2,S],cK X pins H b)
  (hz:IsZip s.heap z TI TO .none) (hTI:IsPair s.heap TI (.ref i1) (.ref i2)) (hTO:IsPair s.heap TO .none .none) (h1:s.heap.IsListIter i1 l1 0) (h2:s.heap.IsListIter i2 l2 0) (g1:SqL X.K H l1 xs) (g2:SqL X.K H l2 ys)
  (hS:s.heap.get? S=some {cls:=.type "list",data:=.seq #[] c})
  (hR:∀ s' H' acc' c' ps',Inv X pins σ H' s'->Same H H'->s'.heap.get? S=some {cls:=.type "list",data:=.seq acc' c'}->acc'.toList=ps'.map .ref->ps'.length=xs.length->PairsH H' xs ys ps'->H' S=none->R (.ok (.ret res)) s') :
  codeAny (model prog w) A (.builtin "list.extend.loop" ⟨[.ref S,.ref z,res],[]⟩) R s:=by
 have hin:∀ b∈[z,TI,TO,i1,i2,S],∃ o,s.heap.get? b=some o:=fun b hb=>by
  obtain⟨o4,e4,_⟩:=h1;obtain⟨o5,e5,_⟩:=h2;simp only[List.mem_cons,List.not_mem_nil,or_false]at hb;rcases hb with rfl | rfl | rfl | rfl | rfl | rfl
  ·exact⟨_,hz⟩
  ·exact⟨_,hTI⟩
  ·exact⟨_,hTO⟩
  ·exact⟨_,e4⟩
  ·exact⟨_,e5⟩
  ·exact⟨_,hS⟩
 obtain⟨its1,r1,p1,_⟩:=I.list g1;obtain⟨its2,r2,p2,_⟩:=I.list g2;have e1:xs[0]?=some (xs[0]'#[0]):=List.getElem?_eq_getElem #[0]
 have e2:ys[0]?=some (ys[0]'#[0]):=List.getElem?_eq_getElem #[0]
 obtain⟨u1,hu1,ru1⟩:=r1.get e1;obtain⟨u2,hu2,ru2⟩:=r2.get e2;refine codeAny_builtin F.entry_extend_loop ?_;rw[Around.under_plainId F.plain_extend_loop _];show wpAny _ A.in1 (pyNext (.ref z)>>=_) _ _ s
 refine ae (wpAny_pyNext_zip_item D hz hTI hTO h1 h2 p1.isList p2.isList #[4,hu1] #[4,hu2] fun h' b1 bTO b3 b4 np hsize kp=>?_)
 have hS':=kp _ _ Sz S4 S1 S2 hS
 refine ae (listUpdate_at hS' rfl ?_ #[2] #[2])
 refine af ⟨plainId_quiet F.plain_extend_loop _,?_⟩;obtain⟨h2',eh2⟩:∃ h2',h2'=h'.update S (Obj.mapSeq fun x=>x.push (.ref s.heap.objs.size)):=⟨_,rfl⟩;have hS2:h2'.get? S=some {cls:=.type "list",data:=.seq #[.ref s.heap.objs.size] (c+1)}:=by
  rw[eh2,Heap.get?_update_self _ hS' rfl];simp[Obj.mapSeq]
 have sb:Heap.SameBut S h' h2':=by rw[eh2];exact Heap.SameBut.update ..
 rw[<- eh2];have lt:∀ b∈[z,TI,TO,i1,i2,S],b≠s.heap.objs.size:=fun b hb=>by
  obtain⟨o,ho⟩:=hin b hb;exact ao (ag ho)
 have nS:=lt S #[2]
 have kp2:∀ b o,b∉[z,TI,TO,i1,i2,S]->s.heap.get? b=some o->h2'.get? b=some o:=fun b o hb e=>by
  simp only[List.mem_cons,List.not_mem_nil,or_false,not_or]at hb;exact sb.extBut _ _ hb.2.2.2.2.2 (kp b o hb.1 hb.2.2.1 hb.2.2.2.1 hb.2.2.2.2.1 e)
 have np2:=sb.extBut _ _ (Ne.symm nS) np
 obtain⟨I2,hf2⟩:=Fy (t':=s.toks) I hf hin ru1 ru2 np2 kp2;have sm:Same H (upd H s.heap.objs.size (.tup [xs[0]'#[0],ys[0]'#[0]])):=cC (I.hok.fresh (ak _))
 have bz:ZH h2' z TI TO s.heap.objs.size false:=sb.extBut _ _ (Ne.symm Sz) b1
 have bTI:=sb.extBut _ _ (Ne.symm S3) (kp _ _ D.TIz D.TITO D.TIi1 D.TIi2 hTI)
 refine Nw hh D Sz S1 S2 S3 S4 hl hsz (xs.length-1) 1 {s with heap:=h2'} _ #[.ref s.heap.objs.size] (c+1) [s.heap.objs.size] s.heap.objs.size false #[0] I2 hf2 (fun b hb=>?_) bz ⟨_,np2⟩ (Ne.symm (lt z #[2])) (Ne.symm (lt i1 #[2])) (Ne.symm (lt i2 #[2])) (Ne.symm nS) bTI (b3.at fun o e=>sb.extBut _ _ (Ne.symm S1) e) (b4.at fun o e=>sb.extBut _ _ (Ne.symm S2) e) (sm.seq g1) (sm.seq g2) hS2 rfl rfl ?_ fun s' H' acc' c' ps' a1 a2 a3 a4 a5 a6 a7=>hR s' H' acc' c' ps' a1 (fun b o e=>a2 _ _ (sm b o e)) a3 a4 a5 a6 a7
 ·simp only[List.mem_cons,List.not_mem_nil,or_false]at hb;rcases hb with rfl | rfl | rfl | rfl | rfl | rfl
  ·exact⟨_,bz⟩
  ·exact⟨_,bTI⟩
  ·exact⟨_,sb.extBut _ _ (Ne.symm S4) bTO⟩
  ·obtain⟨o,ho,_⟩:=b3;exact⟨o,sb.extBut _ _ (Ne.symm S1) ho⟩
  ·obtain⟨o,ho,_⟩:=b4;exact⟨o,sb.extBut _ _ (Ne.symm S2) ho⟩
  ·exact⟨_,hS2⟩
 ·exact PairsH.snoc (ps:=[]) (fun j p q=>by simp at q) e1 e2 cA
structure ZNew (X:Cx) (pins:List (Addr×Obj)) (σ:L2.St) (H:Hp) (s:Shared) (z TI TO i1 i2 l1 l2:Addr) (xs ys:List V):Prop where
 D:ZipApart z TI TO i1 i2 l1 l2
 hl:xs.length<=ys.length
 hsz:xs.length<=1000
 h0:0<xs.length
 I:Inv X pins σ H s
 hf:∀ b∈[z,TI,TO,i1,i2],cK X pins H b
 hz:IsZip s.heap z TI TO .none
 hTI:IsPair s.heap TI (.ref i1) (.ref i2)
 hTO:IsPair s.heap TO .none .none
 h1:s.heap.IsListIter i1 l1 0
 h2:s.heap.IsListIter i2 l2 0
 g1:SqL X.K H l1 xs
 g2:SqL X.K H l2 ys
end
theorem Rc{K:ad}{Z:Addr->Prop}{m:Mu}{H H':Hp}(e:Ext K Z m H m H'):∀ {qs rs:List PyData} {xs ys:List V} {ps:List Addr},RPs K Z m H qs xs->RPs K Z m H rs ys->qs.length<=rs.length->ps.length=qs.length->PairsH H' xs ys ps->RPs K Z m H' ((qs.zip rs).map fun z=>.tuple [z.1,z.2]) (ps.map V.ref)
 | [],rs,_,_,ps,h,g,_,hl,_=>by
  have:ps=[]:=List.length_eq_zero_iff.mp hl
  subst this;simp[RPs]
 | q::qs,r::rs,xs,ys,p::ps,h,g,h1,h2,hp=>by
  simp only[RPs]at h g;obtain⟨x,xs',rfl,a1,a2⟩:=h;obtain⟨y,ys',rfl,b1,b2⟩:=g;obtain⟨x0,y0,c1,c2,c3⟩:=hp 0 p rfl
  cases c1
  cases c2
  simp only[List.zip_cons_cons,au,RPs];refine⟨_,_,rfl,?_,Rc e a2 b2 #[4,h1] #[4,h2] fun j a q=>?_⟩
  ·simp only[RP,RPs];exact⟨p,[x,y],rfl,.inl (.inl c3),_,_,rfl,RP.ext e _ _ a1,_,_,rfl,RP.ext e _ _ b1,rfl⟩
  ·have:=hp (j+1) a #[4,q]
   simpa using this
 | _::_,[],_,_,_,_,_,h1,_,_=>by simp at h1
 | _::_,_::_,_,_,[],_,_,_,h2,_=>by simp at h2
section
variable {K:ad}{Z:Addr->Prop}{m m1:Mu}{H H1:Hp}
theorem Ok.off{a:Addr}(ok:Ok K Z m H):Ok K Z (eL m a) H :=
 ⟨fun b c h=>by
  unfold eL at h
  split at h
  ·cases h
  ·obtain⟨o,h1,h2⟩:=ok.g b c h;exact⟨o,h1,h2.lift fun p v q=>RP.tr (fun _ _ q=>q) (fun b ws q1 q2=>⟨⟨qK q1.1,q1.2⟩,q2⟩) p v q⟩,fun b hz=>⟨qK (ok.z b hz).1,(ok.z b hz).2⟩⟩
theorem Ext.off{a:Addr}(e:Ext K Z m H m1 H1)(h:m a=none):Ext K Z m H (eL m1 a) H1 :=
 ⟨e.t,fun b vs h1 h2=>let ⟨q1,q2⟩:=e.l b vs h1 h2;⟨qK q1,q2⟩,e.z,fun b hb=>by
  unfold eL
  split
  ·rename_i q;rw[q,h]at hb;cases hb
  ·exact e.c b hb,e.fz,fun b hb=>by
  unfold eL
  split
  ·rename_i q;rw[q,h]at hb;cases hb
  ·exact e.fm b hb⟩
end
section
variable {P:Program}{w:World}{A:Around}{E:Value->Shared->Prop}{s:Shared}{it d:Addr}{i ep:Nat}{es:Array DictEntry}{od:Obj}
theorem S9{Q:Value->Shared->Prop}(hd:(d==sysModules)=false)(hod:s.heap.get? d=some od)(hx:od.ExactDict)(hdd:od.data=.dict es ep)
  (hQ:Q (.ref s.heap.objs.size) {s with heap:=s.heap.push {cls:=.type "dict_keyiterator",data:=.fields #[.ref d,.int 0 0,.int es.size 0,.int ep 0]}}):wpAny (model P w) A (pyIter (.ref d)) Q E s:=by
 have hT:s.TypeIs (.ref d) "dict":=⟨od,hod,hx.1⟩
 refine wpAny_pyIter_slot hT PySem.F.slot_dict_iter (wpAny_call_entry PySem.F.slot_dict_iter hT PySem.F.entry_dict_iter ?_ (PySem.F.args_dict_iter_1 _));unfold Builtin.«dict.__iter__» Builtin.Dict.dictSlotNone;refine ae (ae (wpAny_notOrdered_dict hT (show wpAny _ _ (pure (Value.ref d)) _ _ s from af ?_)))
 show wpAny _ _ (Builtin.Dict.showsAll d>>=_) _ _ s
 unfold Builtin.Dict.showsAll;rw[hd,if_neg #[1]]
 refine ae (af (ae (wpAny_dictEntries hod hdd (ae (wpAny_dictEpoch hod hdd (ae (wpAny_newObj_type (af ⟨_,rfl,"dict_keyiterator",_,⟨_,ai _ rfl,rfl⟩,PySem.F.slot_dict_keyiterator_next.lookup,?_⟩))))))));simpa[rawInt] using hQ
theorem Bt:Builtin.Dict_items.ownsTuple "dict_keyiterator"=false:=by decide
theorem W7{Q:Option Value->Shared->Prop}(st:s.heap.IsKeyIter it d i es.size ep)(hod:s.heap.get? d=some od)(hdd:od.data=.dict es ep)(hi:i<es.size)
  (hQ:∀ h',h'.IsKeyIter it d (i+1) es.size ep->Heap.SameBut it s.heap h'->Q (some es[i].key) {s with heap:=h'}):wpAny (model P w) A (pyNext (.ref it)) Q E s:=by
 obtain⟨o,ho,hc,hf⟩:=id st;have ty:=st.typeIs
 unfold pyNext;refine ae (wpAny_attempt (wpAny_callSpecial?_slot (name:=Str.ofString "__next__") ty PySem.F.slot_dict_keyiterator_next (wpAny_call_entry PySem.F.slot_dict_keyiterator_next ty PySem.F.entry_dict_keyiterator_next ?_ (PySem.F.args_dict_keyiterator_next_1 _))));refine ae (af (ae (ae ?_)))
 first
  | refine ae (wpAny_typeNameOfWhole_keyiter ty (af (ae (wpAny_fieldsOf ho hf ?_))))
  | refine ae (wpAny_typeNameOf_keyiter ty (af (ae (wpAny_fieldsOf ho hf ?_))))
 rw[Bt,if_neg #[1]]
 show wpAny _ _ (if (Value.ref d==Value.none)=true then _ else _) _ _ s
 rw[if_neg (by exact am)]
 refine ae (af (ae (wpAny_dictEntries hod hdd ?_)));rw[if_neg #[2]]
 refine ae (af (ae (wpAny_dictEpoch hod hdd ?_)));rw[if_neg #[2]]
 refine af ?_;simp only[show ¬ ((i:Int)<0) from by omega,if_false,Int.toNat_natCast,Array.getElem?_eq_getElem hi]
 refine ae ?_
 first
  | refine ae (wpAny_typeNameOfWhole_keyiter ty (af (ae (wpAny_isOneOf_keyiter ty ?_))))
  | refine ae (wpAny_typeNameOf_keyiter ty (af (ae (wpAny_isOneOf_keyiter ty ?_))))
 show wpAny _ _ (setField (.ref it) 1 (rawInt ((i:Int)+1))>>=_) _ _ s
 obtain⟨h',eh⟩:∃ h',h'=s.heap.update it (Obj.mapFields (·.setIfInBounds 1 (rawInt ((i:Int)+1)))):=⟨_,rfl⟩;have st':h'.IsKeyIter it d (i+1) es.size ep:=by
  subst eh;exact⟨_,Heap.get?_update_self _ ho (Obj.isFreed_of_fields (Obj.data_mapFields hf _)),(Obj.cls_mapFields ..).trans hc,by rw[Obj.data_mapFields hf];simp[rawInt]⟩
 have sb:Heap.SameBut it s.heap h':=by subst eh;exact Heap.SameBut.update ..
 refine ae (wpAny_setField ho hf #[2] ?_)
 rw[<- eh];refine ae (wpAny_holding (ae (wpAny_isOneOf_keyiter (s:={s with heap:=h'}) st'.typeIs ?_)));show wpAny _ _ (pure es[i].key) _ _ _
 exact af (af ⟨_,rfl,af (hQ h' st' sb)⟩)
theorem A2{Q:Option Value->Shared->Prop}(hh:A.handled=none)(st:s.heap.IsKeyIter it d i es.size ep)(hod:s.heap.get? d=some od)(hdd:od.data=.dict es ep)(hi:es.size<=i)
  (hQ:∀ h',Heap.ExtBut it s.heap h'->Q none {s with heap:=h'}):wpAny (model P w) A (pyNext (.ref it)) Q E s:=by
 obtain⟨o,ho,hc,hf⟩:=id st;have ty:=st.typeIs
 unfold pyNext;refine ae (wpAny_attempt (wpAny_callSpecial?_slot (name:=Str.ofString "__next__") ty PySem.F.slot_dict_keyiterator_next (wpAny_call_entry PySem.F.slot_dict_keyiterator_next ty PySem.F.entry_dict_keyiterator_next ?_ (PySem.F.args_dict_keyiterator_next_1 _))));refine ae (af (ae (ae ?_)))
 first
  | refine ae (wpAny_typeNameOfWhole_keyiter ty (af (ae (wpAny_fieldsOf ho hf ?_))))
  | refine ae (wpAny_typeNameOf_keyiter ty (af (ae (wpAny_fieldsOf ho hf ?_))))
 rw[Bt,if_neg #[1]]
 show wpAny _ _ (if (Value.ref d==Value.none)=true then _ else _) _ _ s
 rw[if_neg (by exact am)]
 refine ae (af (ae (wpAny_dictEntries hod hdd ?_)));rw[if_neg #[2]]
 refine ae (af (ae (wpAny_dictEpoch hod hdd ?_)));rw[if_neg #[2]]
 refine af ?_;simp only[show ¬ ((i:Int)<0) from by omega,if_false,Int.toNat_natCast,Array.getElem?_eq_none hi]
 refine ae ?_
 first
  | refine ae (wpAny_typeNameOfWhole_keyiter ty (af ?_))
  | refine ae (wpAny_typeNameOf_keyiter ty (af ?_))
 show wpAny _ _ (setField (.ref it) 0 .none>>=_) _ _ s
 refine ae (wpAny_setField ho hf #[2] ?_)
 show wpAny _ _ (newExc (.type "StopIteration") []>>=_) _ _ _
 refine ae ?_;simp only[newExc,newTuple];refine ae (wpAny_newObj_type ?_ (by size_fits))
 refine ae (m:=firstArgMember _ _) (wpAny_of_eq (a:=Value.none) (by first | rfl | (simp only[firstArgMember];rfl)) (wpAny_newObj_type ?_ (by size_fits)))
 simp only[raiseNew];refine ae (wpAny_handled ?_);rw[show A.in1.handled=none from hh]
 refine ae (af (wpAny_throw ?_));refine ae (wpAny_isInstance (T:="StopIteration") (b:=true) ⟨_,ai _ rfl,rfl⟩ isSubtype_stop (af (hQ _ ?_)));exact((Heap.SameBut.update ..).extBut.push _).push _
end
theorem Paired.at{α β:Type}{r:α->β->Prop}:∀ {xs:List α} {ys:List β} {i:Nat} {x:α},Paired r xs ys->xs[i]?=some x->∃ y,ys[i]?=some y/\r x y
 | _,_,_,_,.nil,e=>by simp at e
 | _,_,0,x,.cons h _,e=>by
  simp at e;subst e;exact⟨_,rfl,h⟩
 | _,_,i+1,x,.cons _ h,e=>by
  obtain⟨y,h1,h2⟩:=Paired.at (i:=i) h #[4,e]
  exact⟨y,by simpa using h1,h2⟩
theorem Paired.len{α β:Type}{r:α->β->Prop}:∀ {xs:List α} {ys:List β},Paired r xs ys->xs.length=ys.length
 | _,_,.nil=>rfl
 | _,_,.cons _ h=>by rw[List.length_cons,List.length_cons,Paired.len h]
section
variable {X:Cx}{a:Expr}{tg:Expr}{f:DE}
theorem tV{K:ad}{Z:Addr->Prop}{m:Mu}{H:Hp}:∀ ks:List aL,RPs K Z m H (ks.map cT) (ks.map kV)
 | []=>by simp[RPs]
 | .inl i::r=>by
  simp only[au,RPs];exact⟨_,_,rfl,by simp only[cT,RP];rfl,tV r⟩
 | .inr z::r=>by
  simp only[au,RPs];exact⟨_,_,rfl,by simp only[cT,RP];rfl,tV r⟩
theorem RKV.keyAt{κ:Type}{K:ad}{Z:Addr->Prop}{m:Mu}{H:Hp}:∀ {kvs:List (κ×PyData)} {vs:List (κ×V)},RKV K Z m H kvs vs->vs.map (·.1)=kvs.map (·.1)
 | [],_,h=>by cases (show _=[] from h);rfl
 | _::_,_,⟨v,r,h1,_,h3⟩=>by
  subst h1;rw[au,au,RKV.keyAt h3]
end
section
variable {X:Cx}{o:Expr}{es:List Expr}{fo:DE}{fa:DA}{pos ipos:Pos}{j:Nat}
theorem Ok.ft{K:ad}{Z:Addr->Prop}{m:Mu}{H:Hp}{a:Addr}{xs:List (List aL×PyData)}(ok:Ok K Z m H)(h:m a=some (.ft xs)):∃ ob vs,H a=some (.frz ob (.dT vs))/\RKV K Z m H xs vs:=by
 obtain⟨o,h1,h2⟩:=ok.g a _ h
 cases o with
 | frz ob u=>cases u<;>first | exact⟨_,_,h1,h2⟩ | exact h2.elim
 | _=>exact h2.elim
end
def Rl(kas:List (aL×Addr)):List (aL×V):=kas.map fun x=>(x.1,V.ref x.2)
theorem Ok.dl{K:ad}{Z:Addr->Prop}{m:Mu}{H:Hp}{a:Addr}{kas:List (aL×Addr)}(ok:Ok K Z m H)(h:m a=some (.dl kas)):H a=some (.dK (Rl kas)):=by
 obtain⟨o,h1,h2⟩:=ok.g a _ h
 cases o<;>first | (cases (show _=Rl kas from h2);exact h1) | exact h2.elim
def jP(n lo st:Nat):Nat:=if lo<n then (n-lo-1) / st+1 else 0
def GN(n lo st:Nat):List Nat:=(List.range (jP n lo st)).map fun k=>lo+k*st
theorem Vals.at{xs:List V}{us:List Value}:∀ {i:Nat} {x:V},Vals xs us->xs[i]?=some x->∃ u,us[i]?=some u/\RelV x u:=fun h e=>h.get e
def TSet(P:Program)(w:World)(h:Heap)(a:Addr)(zs:List Str):Prop :=
 ∃ o es ep t,h.get? a=some o/\o.ExactSet/\o.data=.set es ep t/\ElemsOf (bX P w) es.toList/\(∃ vs,StrsAre (es.toList.map (·.2)) vs/\vs.Perm zs)/\zs.Nodup/\es.size<scanBound/\t.fits es.size=true/\t.led=!w.params.followText "set-order"/\(zs≠[]->t.plain=false)
theorem StrsAre.snoc:∀ {l:List Value} {vs:List Str} (z:Str) (tk:Tok),StrsAre l vs->StrsAre (l++[.str z tk]) (vs++[z])
 | _,_,z,tk,.nil=>.cons z tk .nil
 | _,_,z,tk,.cons x t h=>.cons x t (StrsAre.snoc z tk h)
section
variable {P:Program}{w:World}{A:Around}{E:Value->Shared->Prop}{s:Shared}{a:Addr}{zs:List Str}{z:Str}{tk:Tok}
theorem TSet.len{h:Heap}(T:TSet P w h a zs):∃ o es ep t,h.get? a=some o/\o.data=.set es ep t/\es.size=zs.length:=by
 obtain⟨o,es,ep,t,h1,_,h3,_,⟨vs,h5,h6⟩,_⟩:=T;refine⟨o,es,ep,t,h1,h3,?_⟩;have q1:=congrArg List.length h5.strs
 have q2:=h6.length_eq
 simp at q1;omega
end
section
variable {P:Program}{w:World}{A:Around}{R:Result->Shared->Prop}{I:Addr}{fp wr:List Addr}{G:Array GenState->Array GenState->Prop}{n:Nat}{Pv:Nat->Value->Prop}{St:Nat->Shared->Prop}
theorem TSet.at{h h':Heap}{a:Addr}{zs:List Str}(T:TSet P w h a zs)(k:∀ o,h.get? a=some o->h'.get? a=some o):TSet P w h' a zs:=by
 obtain⟨o,es,ep,t,ho,rest⟩:=T;exact⟨o,es,ep,t,k o ho,rest⟩
end
section
variable {P:Program}{w:World}{A:Around}{E:Value->Shared->Prop}{s:Shared}{S:Addr}{zs:List Str}
theorem TSet.type{h:Heap}(T:TSet P w h S zs):∃ o,h.get? S=some o/\o.cls=.type "set":=let ⟨o,_,_,_,ho,hx,_⟩:=T;⟨o,ho,hx.1⟩
end
theorem CH{X:Cx}{pins:List (Addr×Obj)}{σ:L2.St}{H:Hp}{s s':Shared}(I:Inv X pins σ H s)(e1:s'.heap=s.heap)(e2:s'.gens=s.gens)(e3:s'.os=s.os):Inv X pins σ H s':=by
 obtain⟨h,g,d,tk,o⟩:=s;obtain⟨h',g',d',tk',o'⟩:=s';dsimp only at e1 e2 e3;subst e1;subst e2;subst e3;exact⟨I.ok,I.os,I.bare,I.base,I.loc,I.cell,I.free,I.freeC,I.pin,I.hok,I.len⟩
section
variable {K:ad}{Z:Addr->Prop}{m:Mu}{H:Hp}
theorem RD.rw{x:D}{v:V}(h:RD K Z m H x v):RW K Z m H x v:=by
 cases x with
 | dat p=>exact h
 | cel a=>exact h.1
theorem RW.rd{x:D}{v:V}(h:RW K Z m H x v)(hc:∀ a,x=.cel a->(m a).isSome=true):RD K Z m H x v:=by
 cases x with
 | dat p=>exact h
 | cel a=>exact⟨h,hc a rfl⟩
theorem RKW.length{κ:Type}:∀ {fs:List (κ×D)} {vs:List (κ×V)},RKW K Z m H fs vs->vs.length=fs.length
 | [],_,h=>by cases (show _=[] from h);rfl
 | (_,_)::_,_,⟨v,r,h1,_,h3⟩=>by subst h1;rw[List.length_cons,List.length_cons,h3.length]
theorem RKW.look{f:Str}:∀ {fs:List (Str×D)} {vs:List (Str×V)},RKW K Z m H fs vs->(∀ x,fs.lookup f=some x->∃ v,vs.lookup f=some v/\RW K Z m H x v)/\(fs.lookup f=none->vs.lookup f=none)
 | [],_,h=>by cases (show _=[] from h);exact⟨fun x e=>(nomatch e),fun _=>rfl⟩
 | (g,y)::fs,_,⟨v,r,h1,h2,h3⟩=>by
  subst h1;obtain⟨i1,i2⟩:=h3.look (f:=f)
  by_cases e:f=g
  ·have b:(f==g)=true:=beq_iff_eq.mpr e
   simp only[List.lookup,b];exact⟨fun x q=>by cases q;exact⟨v,rfl,h2⟩,fun q=>(nomatch q)⟩
  ·have b:(f==g)=false:=beq_eq_false_iff_ne.mpr e
   simp only[List.lookup,b];exact⟨i1,i2⟩
theorem Ok.o{a:Addr}{N:Str}{fs:List (Str×D)}(ok:Ok K Z m H)(h:m a=some (.o N fs)):∃ C dx vs,H a=some (.ins C dx vs)/\PySem.W.nsIn K mainGlobals N=some (some (.ref C))/\RKW K Z m H fs vs:=by
 obtain⟨o,h1,h2⟩:=ok.g a _ h
 cases o<;>first | exact⟨_,_,_,h1,h2⟩ | exact h2.elim
end
section
variable {κ β:Type}[DecidableEq κ]
def kE(kvs:List (κ×β))(k:κ):Option β:=(kvs.find? fun kv=>decide (kv.1=k)).map (·.2)
def rK(kvs:List (κ×β))(k:κ)(v:β):List (κ×β) :=
 if (kvs.any fun kv=>decide (kv.1=k))=true then kvs.map (fun kv=>if kv.1=k then (kv.1,v) else kv) else kvs++[(k,v)]
theorem Tw{p:κ×β}{r:List (κ×β)}{k:κ}(e:p.1=k):kE (p::r) k=some p.2:=by simp[kE,List.find?_cons,e]
theorem u6{p:κ×β}{r:List (κ×β)}{k:κ}(e:¬ p.1=k):kE (p::r) k=kE r k:=by simp[kE,List.find?_cons,e]
end
section
variable {κ:Type}[DecidableEq κ]{K:ad}{Z:Addr->Prop}{m:Mu}{H:Hp}
theorem RKW.val{k:κ}:∀ {kvs:List (κ×D)} {vs:List (κ×V)},RKW K Z m H kvs vs->(∀ x,kE kvs k=some x->∃ v,dA vs k=some v/\RW K Z m H x v)/\(kE kvs k).isSome=(dA vs k).isSome
 | [],_,h=>by cases (show _=[] from h);exact⟨fun x e=>(nomatch e),rfl⟩
 | (g,y)::fs,_,⟨v,r,h1,h2,h3⟩=>by
  subst h1;obtain⟨i1,i2⟩:=h3.val (k:=k)
  by_cases e:g=k
  ·rw[Tw (p:=(g,y)) e,jS (p:=(g,v)) e];exact⟨fun x q=>by cases q;exact⟨v,rfl,h2⟩,rfl⟩
  ·rw[u6 (p:=(g,y)) e,jZ (p:=(g,v)) e];exact⟨i1,i2⟩
theorem RKW.any{k:κ}:∀ {kvs:List (κ×D)} {vs:List (κ×V)},RKW K Z m H kvs vs->(vs.any fun kv=>decide (kv.1=k))=(kvs.any fun kv=>decide (kv.1=k))
 | [],_,h=>by cases (show _=[] from h);rfl
 | (g,y)::fs,_,⟨v,r,h1,h2,h3⟩=>by subst h1;rw[List.any_cons,List.any_cons,h3.any]
theorem RKW.repl{k:κ}{x:D}{v:V}(hx:RW K Z m H x v):∀ {kvs:List (κ×D)} {vs:List (κ×V)},RKW K Z m H kvs vs->RKW K Z m H (kvs.map fun kv=>if kv.1=k then (kv.1,x) else kv) (vs.map fun kv=>if kv.1=k then (kv.1,v) else kv)
 | [],_,h=>by cases (show _=[] from h);rfl
 | (g,y)::fs,_,⟨w,r,h1,h2,h3⟩=>by
  subst h1;rw[au,au]
  by_cases e:g=k
  ·rw[if_pos (show((g,y):κ×D).1=k from e),if_pos (show((g,w):κ×V).1=k from e)];exact⟨v,_,rfl,hx,h3.repl hx⟩
  ·rw[if_neg (show ¬ ((g,y):κ×D).1=k from e),if_neg (show ¬ ((g,w):κ×V).1=k from e)];exact⟨w,_,rfl,h2,h3.repl hx⟩
theorem RKW.snoc{k:κ}{x:D}{v:V}(hx:RW K Z m H x v):∀ {kvs:List (κ×D)} {vs:List (κ×V)},RKW K Z m H kvs vs->RKW K Z m H (kvs++[(k,x)]) (vs++[(k,v)])
 | [],_,h=>by cases (show _=[] from h);exact⟨v,[],rfl,hx,rfl⟩
 | (g,y)::fs,_,⟨w,r,h1,h2,h3⟩=>by subst h1;exact⟨w,_,rfl,h2,h3.snoc hx⟩
theorem RKW.put{k:κ}{x:D}{v:V}{kvs:List (κ×D)}{vs:List (κ×V)}(h:RKW K Z m H kvs vs)(hx:RW K Z m H x v):RKW K Z m H (rK kvs k x) (cV vs k v):=by
 unfold rK cV;rw[h.any]
 split
 ·exact h.repl hx
 ·exact h.snoc hx
theorem Ok.n{a:Addr}{kvs:List (List PyData×D)}(ok:Ok K Z m H)(h:m a=some (.n kvs)):∃ vs,H a=some (.dN K vs)/\RKW K Z m H kvs vs:=by
 obtain⟨o,h1,h2⟩:=ok.g a _ h
 cases o<;>first | (obtain⟨rfl,h2⟩:=h2;exact⟨_,h1,h2⟩) | exact h2.elim
mutual
theorem RP.nkv:∀ (p:PyData) (v:V),L2.isK p=true->RP K Z m H p v->NKV K H p v
 | .int _,_,_,h=>by simp only[RP]at h;simp only[NKV];exact h
 | .str _,_,_,h=>by simp only[RP]at h;simp only[NKV];exact h
 | .tuple xs,_,hk,h=>by
  simp only[RP]at h;simp only[NKV];obtain⟨a,vs,e,h1,h2⟩:=h;exact⟨a,vs,e,h1,RPs.nkv xs vs hk h2⟩
 | .none,_,h,_ | .bool _,_,h,_ | .list _,_,h,_ | .dict _,_,h,_=>by simp[L2.isK]at h
theorem RPs.nkv:∀ (ps:List PyData) (vs:List V),L2.isKs ps=true->RPs K Z m H ps vs->NKVs K H ps vs
 | [],_,_,h=>by simp only[RPs]at h;simp only[NKVs];exact h
 | p::ps,_,hk,h=>by
  simp only[L2.isKs,Bool.and_eq_true]at hk;simp only[RPs]at h;simp only[NKVs];obtain⟨v,r,e,h1,h2⟩:=h;exact⟨v,r,e,RP.nkv p v hk.1 h1,RPs.nkv ps r hk.2 h2⟩
end
end
section
variable {X:Cx}{pins:List (Addr×Obj)}{σ:L2.St}{H:Hp}{s:Shared}
mutual
theorem NKV.reads(I:Inv X pins σ H s):∀ (p:PyData) (v:V) (u:Value),NKV X.K H p v->RelV v u->∃ as,Reads s.heap u p as
 | .int i,v,u,h,r=>by simp only[NKV]at h;subst h;obtain⟨t,rfl⟩:=r;exact⟨_,.int i t⟩
 | .str x,v,u,h,r=>by simp only[NKV]at h;subst h;obtain⟨t,rfl⟩:=r;exact⟨_,.str x t⟩
 | .tuple xs,v,u,h,r=>by
  simp only[NKV]at h;obtain⟨a,vs,rfl,h2,h3⟩:=h
  cases r
  obtain⟨its,rv,⟨o,e,c,n,d⟩,_⟩:=I.tuple h2;obtain⟨as,q⟩:=NKVs.reads I xs vs its h3 rv;exact⟨_,.tuple e c d #[4,q]⟩
 | .none,_,_,h,_ | .bool _,_,_,h,_ | .list _,_,_,h,_ | .dict _,_,_,h,_=>by simp only[NKV]at h
theorem NKVs.reads(I:Inv X pins σ H s):∀ (xs:List PyData) (vs:List V) (us:List Value),NKVs X.K H xs vs->Vals vs us->∃ as,ReadsAll s.heap us xs as
 | [],vs,us,h,r=>by simp only[NKVs]at h;subst h;cases r;exact⟨_,.nil⟩
 | x::xs,vs,us,h,r=>by
  simp only[NKVs]at h;obtain⟨v,w,rfl,h1,h2⟩:=h
  cases r with
  | cons r1 r2 =>
   obtain⟨as,q1⟩:=NKV.reads I x v _ h1 r1;obtain⟨bs,q2⟩:=NKVs.reads I xs w _ h2 r2;exact⟨_,.cons q1 q2⟩
end
abbrev KN(K:ad)(H:Hp):List (List PyData×V)->List (List PyData×Addr×Value)->Prop :=
 Paired fun p q=>p.1=q.1/\(L2.isKs p.1=true/\PyData.depthAll p.1<=6/\NKV K H (.tuple p.1) (.ref q.2.1))/\RelV p.2 q.2.2
theorem KN.val{K:ad}{kvs:List (List PyData×V)}{xs:List (List PyData×Addr×Value)}(r:KN K H kvs xs)(k:List PyData):RelO (dA kvs k) ((atKey xs k).map (·.2)):=by
 induction r with
 | nil=>exact True.intro
 | @cons p q ps qs h t ih =>
  obtain⟨h1,_,h2⟩:=h
  by_cases e:p.1=k
  ·have e':q.1=k:=h1.symm.trans e
   have b:atKey (q::qs) k=some q.2:=by simp[atKey,List.find?_cons,e']
   rw[jS e,b];exact h2
  ·have e':¬ q.1=k:=fun z=>e (h1.trans z)
   have b:atKey (q::qs) k=atKey qs k:=by simp[atKey,List.find?_cons,e']
   rw[jZ e,b];exact ih
theorem KN.repl{K:ad}{kvs:List (List PyData×V)}{xs:List (List PyData×Addr×Value)}(r:KN K H kvs xs)(k:List PyData){y:V}{u:Value}(ry:RelV y u) :
  KN K H (kvs.map fun kv=>if kv.1=k then (kv.1,y) else kv) (xs.map (putAt k u)):=by
 induction r with
 | nil=>exact .nil
 | @cons p q ps qs h t ih =>
  rw[au,au];refine .cons ?_ ih;obtain⟨h1,h2,h3⟩:=h;unfold putAt
  by_cases e:p.1=k
  ·rw[if_pos e,if_pos (h1.symm.trans e)];exact⟨h1,h2,ry⟩
  ·rw[if_neg e,if_neg (fun z=>e (h1.trans z))];exact⟨h1,h2,h3⟩
theorem KN.put{K:ad}{kvs:List (List PyData×V)}{xs:List (List PyData×Addr×Value)}(r:KN K H kvs xs)(k:List PyData){b:Addr}{y:V}{u:Value}(hb:L2.isKs k=true/\PyData.depthAll k<=6/\NKV K H (.tuple k) (.ref b))(ry:RelV y u) :
  KN K H (cV kvs k y) (storedH xs k b u):=by
 have e:(kvs.any fun kv=>decide (kv.1=k))=(atKey xs k).isSome:=by
  rw[yC,(r.val k).isSome_eq,Option.isSome_map]
 unfold cV storedH;rw[e]
 by_cases q:(atKey xs k).isSome=true
 ·rw[if_pos q,if_pos q];exact r.repl k ry
 ·rw[if_neg q,if_neg q];exact Paired.snoc r ⟨rfl,hb,ry⟩
theorem Kk(I:Inv X pins σ H s){k:List PyData}{b:Addr}(h:L2.isKs k=true/\PyData.depthAll k<=6/\NKV X.K H (.tuple k) (.ref b)):(iH X.prog X.w).is s.heap k b :=
 ⟨h.1,h.2.1,NKV.reads I _ _ _ h.2.2 rfl⟩
theorem X7{A:Around}(hu:A.units+100<cLine):(iH X.prog X.w).room A.in1:=by
 show A.in1.units+20<cLine
 rw[Around.in1_units];omega
end
structure CompE (e tg iter:Expr) (ifs:List Expr) (emit:Addr->Env->Sem Unit):Prop where
 kind:(∃ elt gs sc p,e=.SetComp elt gs sc p)\/∃ k v gs sc p,e=.DictComp k v gs sc p
 cl:clausesOf e=[⟨tg,iter,ifs,0⟩]
 turn:∀ it D env,compTurn e 0 it (.ref D) env=(do
   standAt iter.pos
   match <- pyNext it with
   | none=>pure (.done .next)
   | some v =>
    letOwnedTupleGo tg it v
    assign tg env v
    let mut ok:=true
    for c in ifs do
     if ok then ok <- isTrue c env (eval c env)
    if ok then emit D env
    again (.compLoop e 0 it (.ref D) env))
section
variable {prog:Program}{w:World}{A:Around}{R:Result->Shared->Prop}{s:Shared}{e tg iter:Expr}{ifs:List Expr}{emit:Addr->Env->Sem Unit}
theorem i5(ce:CompE e tg iter ifs emit){it:Value}{D:Addr}{env:Env}(I:Nat->Shared->Prop)
  (turn:∀ n s,I n s->wpAny (model prog w) A (pyNext it) (fun r s₁=>match r with
   | none=>R (.ok .next) s₁
   | some v=>wpAny (model prog w) A (letOwnedTupleGo tg it v) (fun _ s₀=>wpAny (model prog w) A (assign tg env v) (fun _ s₂ =>
     wpAny (model prog w) A (forIn ifs true fun c r=>if r=true then do let ok <- isTrue c env (eval c env);pure (ForInStep.yield ok) else pure (ForInStep.yield r)) (fun ok s₃ =>
      if ok=true then wpAny (model prog w) A (emit D env) (fun _ s₅=>∃ m,m<n/\I m s₅) (fun _ _=>False) s₃
      else ∃ m,m<n/\I m s₃) (fun _ _=>False) s₂) (fun _ _=>False) s₀) (fun _ _=>False) s₁) (fun _ _=>False) s)
  (n:Nat) (h:I n s) :
  codeAny (model prog w) A (.compLoop e 0 it (.ref D) env) R s:=by
 have ff:∀ {E:Value->Shared->Prop} (x:Value) (s:Shared),False->E x s:=fun _ _ z=>z.elim
 suffices start:∀ n s,I n s->wpAny (model prog w) A (compTurn e 0 it (.ref D) env) (fun fin s'=>match fin with | .done f=>R (.ok f) s' | .again c'=>c'=.compLoop e 0 it (.ref D) env/\∃ m,m<n/\I m s') (notedBy (model prog w) A env fun e s'=>R (.error e) s') s by
  rcases ce.kind with⟨_,_,_,_,rfl⟩ | ⟨_,_,_,_,_,rfl⟩
  ·refine codeAny_loop rfl I (fun n s hI=>?_) n h;exact wpAny_noted (start n s hI)
  ·refine codeAny_loop rfl I (fun n s hI=>?_) n h;exact wpAny_noted (start n s hI)
 intro n s hI;rw[ce.turn];refine ae (wpAny_standAt (ae (wpAny_mono (turn n s hI) (fun r s₁ h₁=>?_) ff)))
 cases r with
 | none=>exact af h₁
 | some v =>
  refine ae (wpAny_mono h₁ (fun _ s₀ h₀=>?_) ff);refine ae (wpAny_mono h₀ (fun _ s₂ h₂=>ae (wpAny_mono h₂ (fun ok s₃ h₃=>?_) ff)) ff)
  cases ok with
  | true =>
   simp only[if_true]at h₃ ⊢;exact ae (wpAny_mono h₃ (fun _ s₅ h₅=>af ⟨rfl,h₅⟩) ff)
  | false =>
   simp only[Bool.false_eq_true,if_false]at h₃ ⊢;exact af ⟨rfl,h₃⟩
theorem D4(ce:CompE e tg iter ifs emit){it acc:Value}{env:Env}
  (h0:codeAny (model prog w) A (.compLoop e 0 it acc env) R s)
  (h:wpAny (model prog w) A (pyIter it) (fun it' s'=>codeAny (model prog w) A (.compLoop e 0 it' acc env) R s') (notedBy (model prog w) A env fun x s'=>R (.error x) s') s) :
  codeAny (model prog w) A (.compStart e 0 it acc env) R s:=by
 suffices start:wpAny (model prog w) A (compStart e 0 it acc env) (fun fin s'=>match fin with | .done f=>R (.ok f) s' | .again c'=>c'.quiet=true/\codeAny (model prog w) A c' R s') (notedBy (model prog w) A env fun x s'=>R (.error x) s') s by
  rcases ce.kind with⟨_,_,_,_,rfl⟩ | ⟨_,_,_,_,_,rfl⟩
  ·exact codeAny_of_tree (wpAny_notedAt start)
  ·exact codeAny_of_tree (wpAny_notedAt start)
 have hq:∀ it',Code.quiet (.compLoop e 0 it' acc env)=true:=fun it'=>by rcases ce.kind with⟨_,_,_,_,rfl⟩ | ⟨_,_,_,_,_,rfl⟩<;>rfl
 unfold compStart;rw[ce.cl];show wpAny _ _ (ask>>=_) _ _ s
 refine ae (wpAny_askSetting (wpAny_ite ?_))
 split
 ·first
   | exact ae (af (af (And.intro (hq _) h0)))
   | exact af (And.intro (hq _) h0)
 ·first
   | exact ae (wpAny_rule (ae (wpAny_standAt (ae (wpAny_mono h (fun it' s' h'=>af (And.intro (hq _) h')) fun _ _ x=>x)))))
   | (refine ae (wpAny_rule ?_);show wpAny _ _ (standAt iter.pos>>=_) _ _ s;exact ae (wpAny_standAt (ae (wpAny_mono h (fun it' s' h'=>af (And.intro (hq _) h')) fun _ _ x=>x))))
end
def lU(o:HO):Prop:=(∀ xs,o≠.tup xs)/\∀ a b,o≠.frz a b
section
variable {K:ad}{Z:Addr->Prop}{m m1 m':Mu}{H H1 H':Hp}{D:Addr}{o0 o1:HO}
theorem Jq(hD:H D=none)(hk:K.lookup D=none):∀ a vs,(m a=none/\¬ Z a)->SqL K H a vs->(m a=none/\¬ aO Z D a)/\SqL K (upd H D o0) a vs:=fun a vs h1 h2 =>
 ⟨⟨h1.1,fun z=>z.elim h1.2 (SqL.ne hD hk h2)⟩,(cC hD).seq h2⟩
theorem pR(hD:H D=some o0)(mu:lU o0):∀ a vs,SqT K H a vs->SqT K (upd H D o1) a vs:=fun b xs h=>by
 rcases h with (h | ⟨o,h⟩) | h
 ·have ne:b≠D:=by rintro rfl;rw[hD]at h;cases h;exact mu.1 _ rfl
  exact .inl (.inl (by rw[bF ne];exact h))
 ·have ne:b≠D:=by rintro rfl;rw[hD]at h;cases h;exact mu.2 _ _ rfl
  exact .inl (.inr ⟨o,by rw[bF ne];exact h⟩)
 ·exact .inr h
theorem Hb{a:Addr}{vs:List V}(ne:a≠D)(h:SqL K H a vs):SqL K (upd H D o1) a vs:=by
 rcases h with (h | ⟨o,h⟩) | h
 ·exact .inl (.inl (by rw[bF ne];exact h))
 ·exact .inl (.inr ⟨o,by rw[bF ne];exact h⟩)
 ·exact .inr h
theorem tZ(hD:H D=some o0)(mu:lU o0):∀ a o u,H a=some (.frz o u)->upd H D o1 a=some (.frz o u):=fun a o u q=>by
 rw[bF (by rintro rfl;rw[hD]at q;cases q;exact mu.2 _ _ rfl)]
 exact q
theorem uU:∀ a vs,(m a=none/\¬ aO Z D a)->SqL K H a vs->(m a=none/\¬ aO Z D a)/\SqL K (upd H D o1) a vs:=fun a vs h1 h2 =>
 ⟨h1,Hb (fun e=>h1.2 (.inr e)) h2⟩
theorem O1{x:DL.D}{v:V}(hD:H D=none)(hk:K.lookup D=none)(h:RD K Z m H x v):RD K (aO Z D) m (upd H D o0) x v:=by
 cases x with
 | dat p=>exact RP.tr (fun a vs q=>SqT.same (cC hD) q) (Jq hD hk) p v h
 | cel a=>exact h
theorem W5{x:DL.D}{v:V}(hD:H D=some o0)(mu:lU o0)(h:RD K (aO Z D) m H x v):RD K (aO Z D) m (upd H D o1) x v:=by
 cases x with
 | dat p=>exact RP.tr (pR hD mu) uU p v h (tZ hD mu)
 | cel a=>exact h
theorem B5(ok:Ok K Z m H)(hD:H D=none)(hk:K.lookup D=none):Ok K (aO Z D) m (upd H D o0):=by
 refine⟨fun a c h=>?_,fun a h=>?_⟩
 ·obtain⟨o,h1,h2⟩:=ok.g a c h;have ne:a≠D:=by rintro rfl;rw[hD]at h1;cases h1
  exact⟨o,by rw[bF ne];exact h1,h2.lift fun p v q=>RP.tr (fun a vs q=>SqT.same (cC hD) q) (Jq hD hk) p v q⟩
 ·rcases h with h | h
  ·have ne:a≠D:=by rintro rfl;exact(ok.z a h).2 hD
   exact⟨(ok.z a h).1,by rw[bF ne];exact(ok.z a h).2⟩
  ·subst h;exact⟨(eY ok hD).1,by rw[cA];intro z;cases z⟩
theorem i9(ok:Ok K (aO Z D) m H)(hD:H D=some o0)(mu:lU o0):Ok K (aO Z D) m (upd H D o1):=by
 refine⟨fun a c h=>?_,fun a h=>?_⟩
 ·obtain⟨o,h1,h2⟩:=ok.g a c h;have ne:a≠D:=by
   rintro rfl;have:=(ok.z a (.inr rfl)).1
   rw[h]at this
   cases this
  exact⟨o,by rw[bF ne];exact h1,h2.lift fun p v q=>RP.tr (pR hD mu) uU p v q (tZ hD mu)⟩
 ·by_cases e:a=D
  ·subst e;exact⟨(ok.z a h).1,by rw[cA];intro z;cases z⟩
  ·exact⟨(ok.z a h).1,by rw[bF e];exact(ok.z a h).2⟩
theorem N4(e:Ext K Z m1 H1 m H)(ok1:Ok K Z m1 H1)(hD:H1 D=none)(hk:K.lookup D=none)(hH:H D=some o0)(mu:lU o0):Ext K Z m1 H1 m (upd H D o1) :=
 ⟨fun a vs h=>pR hH mu a vs (e.t a vs h),fun a vs h1 h2=>let ⟨q1,q2⟩:=e.l a vs h1 h2;⟨q1,Hb (SqL.ne hD hk h2) q2⟩,fun a h=>by
  have ne:a≠D:=by rintro rfl;exact(ok1.z a h).2 hD
  rw[bF ne];exact e.z a h,e.c,fun a o u h=>by
  have q:=e.fz a o u h
  rw[bF (by rintro rfl;rw[hH]at q;cases q;exact mu.2 _ _ rfl)]
  exact q,e.fm⟩
end
def fM{α:Type}(g:DG)(t:DT)(fE:bI->Mu->α->(α->Mu->Prop)->Prop):List D->α->bI->Mu->(α->Mu->Prop)->Prop
 | [],a,_,m,Q=>Q a m
 | x::xs,a,d,m,Q=>g x d m fun d1 m1=>t d1 m1 fun b m2=>if b=true then fE d1 m2 a fun a' m3=>fM g t fE xs a' d1 m3 Q else fM g t fE xs a d1 m2 Q
structure AccR (K:ad) {α:Type} (AR:(Addr->Prop)->Mu->Hp->α->HO->Prop):Prop where
 lift:∀ {Z Z':Addr->Prop} {m m':Mu} {H H':Hp} {a:α} {o:HO},(∀ p v,RP K Z m H p v->RP K Z' m' H' p v)->AR Z m H a o->AR Z' m' H' a o
 mu:∀ {Z:Addr->Prop} {m:Mu} {H:Hp} {a:α} {o:HO},AR Z m H a o->lU o
def Dv(X:Cx)(D:Addr)(emit:Addr->Env->Sem Unit){α:Type}(AR:(Addr->Prop)->Mu->Hp->α->HO->Prop)(fE:bI->Mu->α->(α->Mu->Prop)->Prop):Prop :=
 ∀ (pins:List (Addr×Obj)) (s:Shared) (σ:L2.St) (H:Hp) (Z:Addr->Prop) (d:bI) (m:Mu) (a:α) (o:HO) (Q:α->Mu->Prop),Inv X pins σ H s->Ok X.K (aO Z D) m H->RS X.K (aO Z D) m H d σ->H D=some o->AR (aO Z D) m H a o->fE d m a Q ->
  wpAny (model X.prog X.w) X.A (emit D X.env) (fun _ s'=>∃ a' m' H' o',Q a' m'/\Ext X.K (aO Z D) m H m' H'/\Ok X.K (aO Z D) m' H'/\AR (aO Z D) m' H' a' o'/\Inv X pins σ (upd H' D o') s') (fun _ _=>False) s
section
variable {X:Cx}{e tg iter:Expr}{ifs:List Expr}{emit:Addr->Env->Sem Unit}{scope:Scope}{NC:List Str}{fi:DI}{g:DG}{t:DT}{α:Type}{AR:Addr->(Addr->Prop)->Mu->Hp->α->HO->Prop}{fE:bI->Mu->α->(α->Mu->Prop)->Prop}{newAcc:Sem Value}{ob:Obj}{a0:α}{o0:Addr->HO}
theorem l6(ce:CompE e tg iter ifs emit)(ac:∀ D,AccR X.K (AR D))(hnew:∀ {Q:Value->Shared->Prop} {s:Shared},Q (.ref s.heap.objs.size) {s with heap:=s.heap.push ob}->wpAny (model X.prog X.w) X.A newAcc Q X.xe s)(hfr:ob.isFreed=false)
  (hob:∀ (H:Hp) (h:Heap) (a:Addr),sysModules<a->h.get? a=some ob->ObjOk X.prog X.w H h a (o0 a)) (h00:∀ D Z m H,AR D Z m H a0 (o0 D))
  (src:List (Option Nat)) (hc:X.calm=true) (hi:PI X tg iter (LI X.K fi))
  (hg:∀ cl C s2 H2 pins fp,PG (aX X scope cl C NC s2 H2 pins fp) tg (LG X.K g)) (ht:∀ cl C s2 H2 pins fp,PF (aX X scope cl C NC s2 H2 pins fp) ifs (LT X.K t)) (he:∀ cl C s2 H2 pins fp D,Dv (aX X scope cl C NC s2 H2 pins fp) D emit (AR D) fE)
  (hkind:scope.kind=.function) (hcell:∀ y∈scope.names,y.2≠.cell) (hnames:∀ y∈scope.names,y.2=.local->scope.names.lookup y.1=some .local)
  (hfree:∀ x,(x,NameKind.free)∈scope.names->X.env.kindOf x=some .cell\/X.env.kindOf x=some .free) (hsrc:jN X scope NC src)
  (hs:∀ x,foldedSetIterable iter X.env x=pure x) {use:Option (Value->Sem Unit)} {QQ:Value->Shared->Prop} {pos':Pos} {pins:List (Addr×Obj)} {s:Shared} {σ:L2.St} {H:Hp} {Z:Addr->Prop} {d:bI} {m:Mu} {RL:α->Mu->Prop}
  (I:Inv X pins σ H s) (ok:Ok X.K Z m H) (rs:RS X.K Z m H d σ) (h:fi d m fun xs m1=>fM g t fE xs a0 (bP src d) m1 RL)
  (fin:∀ (s5:Shared) (C D:Addr) (H':Hp) (m':Mu) (a:α) (o:HO),RL a m'->H' D=some o->m' D=none->Ext X.K Z m H m' H'->Ok X.K Z m' H'->AR D Z m' H' a o->(∀ c,AR D Z (aW m' D c) H' a o) ->
   (∀ c,RC X.K Z (aW m' D c) H' c o->Ext X.K Z m H (aW m' D c) H'/\Ok X.K Z (aW m' D c) H')->(∃ mm,s5.heap.Ns C mm)->Inv X pins σ H' s5->Off X pins H' C ->
   compPost (model X.prog X.w) X.A X.xe use QQ (.ref D) C (.ok .next) s5) :
  wpAny (model X.prog X.w) X.A (comprehension e scope X.env pos' newAcc false (eval iter X.env) use) QQ X.xe s:=by
 obtain⟨cl,hclos,hcl1,hcl2⟩:=wH (scope:=scope) (env:=X.env) fun x hx=>I.ok.has x (hfree x hx);refine wpAny_comprehension_free (use:=use) ce.cl hs hclos hkind hnames ?_;refine aS (hi pins s σ H (fun J H1=>∃ xs m1,Ext X.K Z m H m1 H1/\Ok X.K Z m1 H1/\kQ X.K Z m1 H1 xs J/\fM g t fE xs a0 (bP src d) m1 RL) I
  ⟨Z,d,m,_,ok,rs,h,fun xs m1 H1 J q e1 ok1 y1=>⟨xs,m1,e1,ok1,y1,q⟩⟩) fun xv s₁ h₁=>aS h₁ fun itv s₂ h₂=>?_
 obtain⟨it,fp,tn,J,H2,eit,I2,T,st2,f2,xs,m1,e1,ok1,yl,lp⟩:=h₂;subst eit;refine hnew (wpAny_newFunctionEnv hcell (by intro y hy;simp at hy) (fun h₁ hns₁ hsb₁=>?_) hkind)
 dsimp only at hns₁ hsb₁ ⊢
 generalize hH2:s₂.heap.push ob=HP at hns₁ hsb₁ ⊢
 have hC:HP.objs.size=s₂.heap.objs.size+1:=by rw[<- hH2,Heap.size_push]
 have leC:s₂.heap.objs.size<=HP.objs.size:=by rw[hC];exact Nat.le_succ _
 have old:∀ b o,s₂.heap.get? b=some o->h₁.get? b=some o:=fun b o e=>hsb₁.extBut b o (ao (aj (ag e) leC)) (ah _ (hH2▸ah _ e))
 have hacc:h₁.get? s₂.heap.objs.size=some ob:=hsb₁.extBut _ _ (by rw[hC];exact ao (Nat.lt_succ_self _)) (ah _ (hH2▸ai _ hfr))
 have hD:H2 s₂.heap.objs.size=none:=I2.hok.fresh (ak _)
 have hkD:X.K.lookup s₂.heap.objs.size=none:=by
  cases e:X.K.lookup s₂.heap.objs.size with
  | none=>rfl
  | some o=>exact absurd (ag (I2.kIn _ o e)) (Nat.lt_irrefl _)
 have obf:∀ b∈fp,∃ o,s₂.heap.get? b=some o/\∀ v,o.data≠.cell v:=T.obj 0 _ st2
 have hσ:∀ (i:Nat) (x:Str) (v:V),NC[i]?=some x->(bP src σ)[i]?=some (some v)->gX (relabel scope X.env) x->((relabel scope X.env).names.lookup x=some .cell\/(relabel scope X.env).names.lookup x=some .free)/\(X.env.kindOf x=some .cell\/X.env.kindOf x=some .free)/\∃ j:Nat,X.N[j]?=some x/\σ[j]?=some (some v):=fun i x v h1 h2 _=>by
  obtain⟨j,q1,q2⟩:=yG h2;obtain⟨a1,a2,a3⟩:=hsrc.2 i x j h1 q1;exact⟨a3,hfree x a2,j,a1,q2⟩
 have I4:=fun tk=>Gp (o0:=o0 s₂.heap.objs.size) (cl:=cl) (NC:=NC) (σ':=bP src σ) (tk:=tk) I2 f2 obf hkind hcell hcl1 hcl2 (by unfold bP;rw[av];exact hsrc.1.symm) hσ hC hns₁ old (hob _ _ _ I2.big hacc)
 have st4:tn 0 h₁:=T.keep 0 _ _ st2 fun b _ o e=>old b o e
 have loop:∀ s₃:Shared,s₃={s₂ with heap:=h₁,toks:=s₂.toks+([]:List (Str×Value)).length} ->
   codeAny (model X.prog X.w) X.A (.compLoop e 0 (.ref it) (.ref s₂.heap.objs.size) (compEnvC scope cl HP.objs.size X.env))
    (compPost (model X.prog X.w) X.A X.xe use QQ (.ref s₂.heap.objs.size) HP.objs.size) s₃:=by
  rintro s₃ rfl;refine i5 ce (fun n s'=>∃ (i:Nat) (o:HO) (acc:α) (d':bI) (m':Mu) (σ':L2.St) (H':Hp),n=xs.length-i/\i<=xs.length/\Inv (aX X scope cl HP.objs.size NC s₂ H2 pins fp) [] σ' H' s'/\tn i s'.heap/\(∀ b∈fp,H' b=none) /\
   H' s₂.heap.objs.size=some o/\AR s₂.heap.objs.size (aO Z s₂.heap.objs.size) m' H' acc o/\Ext X.K Z m1 H2 m' H'/\Ok X.K (aO Z s₂.heap.objs.size) m' H'/\RS X.K (aO Z s₂.heap.objs.size) m' H' d' σ' /\
   fM g t fE (xs.drop i) acc d' m' RL) ?_ xs.length ?_
  rotate_left
  ·have rs1:RS X.K Z m1 H2 (bP src d) (bP src σ):=wN src (rs.ext e1)
   refine⟨0,o0 _,a0,bP src d,m1,bP src σ,_,by simp,Nat.zero_le _,I4 _,st4,fun b hb=>?_,cA,h00 _ _ _ _,ok1.ext (cC hD),B5 ok1 hD hkD,⟨rs1.1,fun i x hx=>?_⟩,by simpa using lp⟩
   ·obtain⟨o,ho,_⟩:=obf b hb;rw[bF (ao (ag ho))];exact(f2 b hb).1
   ·obtain⟨v,q1,q2⟩:=rs1.2 i x hx;exact⟨v,q1,O1 hD hkD q2⟩
  rintro n s4 ⟨i,ys,acc,d',m',σ',H',rfl,hi',I5,st5,fr5,hDy,racc,eX,ok5,rs5,lp5⟩;have stat:∀ b∈fp,cK (aX X scope cl HP.objs.size NC s₂ H2 pins fp) [] H' b:=fun b hb=>by
   obtain⟨g0,g1,g2,g3,g4,g5⟩:=f2 b hb;obtain⟨o,ho,_⟩:=obf b hb;refine⟨fr5 b hb,ao (aj (ag ho) leC),fun z=>?_,.inl hb,fun x c e=>g4 x c (hcl1 (x,c) (nL e)),fun p hp=>?_⟩
   ·rcases List.mem_cons.mp (I2.stkSub b z) with q | q
    ·exact g1 q
    ·exact g2 q
   ·rcases List.mem_append.mp hp with q | q
    ·exact g5 p q
    ·cases q
  obtain⟨y1,y2⟩:=yl m' H' eX.y
  by_cases hlt:i<xs.length
  ·rw[List.drop_eq_getElem_cons hlt]at lp5;obtain⟨go,yd⟩:=y1 i xs[i] (List.getElem?_eq_getElem hlt);refine aS (T.item (aX X scope cl HP.objs.size NC s₂ H2 pins fp) rfl rfl rfl hc i [] s4 σ' H' (fun _ _=>False) I5 stat st5 go) fun r s5 hq0=>?_;obtain⟨u,hr,h5⟩:=hq0;subst hr;refine aS h5 fun _ s6 hq0=>?_;obtain⟨x,H6,I6,r6,yy,st6,fr6⟩:=hq0;have yy':=yd x H6 yy
   have e56:Ext X.K (aO Z s₂.heap.objs.size) m' H' m' H6:=ok5.ext yy'.same
   have rv:=yy'.rd (fun d v h=>uG hD hkD eX h) ok5
   have hDy:=yy'.same _ _ hDy
   have racc:=(ac _).lift (RP.ext e56) racc
   have eX:=jK eX hD hkD e56
   have rs5:=rs5.ext e56
   have ok5:=ok5.grow yy'.same
   have stat:∀ b∈fp,cK (aX X scope cl HP.objs.size NC s₂ H2 pins fp) [] H6 b:=fun b hb=>⟨fr6 b hb,(stat b hb).2⟩
   have I6':=I6.pinned stat (T.obj _ _ st6)
   have over:∀ {s7:Shared} {σ7:L2.St} {H7:Hp} {ys7:HO} {acc7:α} {d7:bI} {m7:Mu},Inv (aX X scope cl HP.objs.size NC s₂ H2 pins fp) ([]++kA fp s6.heap) σ7 H7 s7->H7 s₂.heap.objs.size=some ys7->AR s₂.heap.objs.size (aO Z s₂.heap.objs.size) m7 H7 acc7 ys7 ->
     Ext X.K Z m1 H2 m7 H7->Ok X.K (aO Z s₂.heap.objs.size) m7 H7->RS X.K (aO Z s₂.heap.objs.size) m7 H7 d7 σ7->(fM g t fE (xs.drop (i+1)) acc7 d7 m7 RL) ->
     ∃ n,n<xs.length-i/\∃ (i:Nat) (ys:HO) (acc:α) (d':bI) (m':Mu) (σ':L2.St) (H':Hp),n=xs.length-i/\i<=xs.length/\Inv (aX X scope cl HP.objs.size NC s₂ H2 pins fp) [] σ' H' s7/\tn i s7.heap/\(∀ b∈fp,H' b=none) /\
      H' s₂.heap.objs.size=some ys/\AR s₂.heap.objs.size (aO Z s₂.heap.objs.size) m' H' acc ys/\Ext X.K Z m1 H2 m' H'/\Ok X.K (aO Z s₂.heap.objs.size) m' H'/\RS X.K (aO Z s₂.heap.objs.size) m' H' d' σ' /\
      fM g t fE (xs.drop i) acc d' m' RL:=by
    intro s7 σ7 H7 ys7 acc7 d7 m7 I7 a1 a2 a3 a4 a5 a6;refine⟨xs.length-(i+1),by omega,i+1,ys7,acc7,d7,m7,σ7,H7,rfl,hlt,I7.unpinned,T.keep _ _ _ st6 fun b hb o e=>(I7.pin (b,o) (List.mem_append_right _ (List.mem_append_right _ (iP hb e)))).1,fun b hb=>?_,a1,a2,a3,a4,a5,a6⟩
    obtain⟨o,e,dd⟩:=T.obj _ _ st6 b hb;exact(I7.pin (b,o) (List.mem_append_right _ (List.mem_append_right _ (iP hb e)))).2.1
   refine aS (hg cl _ s₂ H2 pins fp _ s6 σ' _ x u (fun σ7 H7=>∃ d7 m7,Ext X.K (aO Z s₂.heap.objs.size) m' H6 m7 H7/\Ok X.K (aO Z s₂.heap.objs.size) m7 H7/\RS X.K (aO Z s₂.heap.objs.size) m7 H7 d7 σ7 /\
    t d7 m7 fun b m2=>if b=true then fE d7 m2 acc fun a' m3=>fM g t fE (xs.drop (i+1)) a' d7 m3 RL else fM g t fE (xs.drop (i+1)) acc d7 m2 RL) I6' r6
    ⟨_,xs[i],d',m',_,ok5,rs5,rv,lp5,fun d7 m7 σ7 H7 q7 e7 ok7 rs7=>⟨d7,m7,e7,ok7,rs7,q7⟩⟩) fun _ s7 hq0=>?_
   obtain⟨σ7,H7,I7,d7,m7,e7,ok7,rs7,q7⟩:=hq0;refine aS (ht cl _ s₂ H2 pins fp _ s7 σ7 H7 (fun b H8=>∃ m8,Ext X.K (aO Z s₂.heap.objs.size) m7 H7 m8 H8/\Ok X.K (aO Z s₂.heap.objs.size) m8 H8 /\
    if b=true then fE d7 m8 acc fun a' m3=>fM g t fE (xs.drop (i+1)) a' d7 m3 RL else fM g t fE (xs.drop (i+1)) acc d7 m8 RL) I7
    ⟨_,d7,m7,_,ok7,rs7,q7,fun b m8 H8 q8 e8 ok8=>⟨m8,e8,ok8,q8⟩⟩) fun b s8 hq0=>?_
   obtain⟨H8,I8,m8,e8,ok8,q8⟩:=hq0;have e68:=e7.trans e8
   have hD8:H8 s₂.heap.objs.size=some ys:=(e68.z _ (.inr rfl)).trans hDy
   have racc8:=(ac _).lift (RP.ext e68) racc
   cases b with
   | false =>
    rw[if_neg am]at q8;exact over I8 hD8 racc8 (jK eX hD hkD e68) ok8 (rs7.ext e8) q8
   | true =>
    rw[if_pos rfl]at q8;refine aS (he cl _ s₂ H2 pins fp _ _ s8 σ7 H8 Z d7 m8 acc ys _ I8 ok8 (rs7.ext e8) hD8 racc8 q8) fun _ s9 hq0=>?_;obtain⟨a',m9,H9,o',q9,e9,ok9,ra9,I9⟩:=hq0;have e69:=e68.trans e9
    have hD9:H9 s₂.heap.objs.size=some ys:=(e69.z _ (.inr rfl)).trans hDy
    have mu9:=(ac _).mu racc
    have rs9:=(rs7.ext e8).ext e9
    refine over I9 cA ((ac _).lift (fun p v q=>RP.tr (pR hD9 mu9) uU p v q (tZ hD9 mu9)) ra9) (N4 (jK eX hD hkD e69) ok1 hD hkD hD9 mu9) (i9 ok9 hD9 mu9) ⟨rs9.1,fun j z hj=>?_⟩ q9;obtain⟨v,a1,a2⟩:=rs9.2 j z hj;exact⟨v,a1,W5 hD9 mu9 a2⟩
  ·have ei:i=xs.length:=by omega
   subst ei;rw[List.drop_length]at lp5;refine aS (T.done (aX X scope cl HP.objs.size NC s₂ H2 pins fp) rfl rfl rfl hc _ [] s4 σ' H' (fun _ _=>False) I5 stat st5 y2) fun r s5 hq0=>?_;obtain⟨hr,I6⟩:=hq0;subst hr;have IX:=sW I2 f2 I6 leC (Heap.SameBut.refl _ _)
   have nz:¬ Z s₂.heap.objs.size:=fun z=>(ok1.z _ z).2 hD
   have mD:=(ok5.z _ (.inr rfl)).1
   have trc:∀ c (a:Addr) (vs:List V),(m' a=none/\¬ aO Z s₂.heap.objs.size a)->SqL X.K H' a vs->(aW m' s₂.heap.objs.size c a=none/\¬ Z a)/\SqL X.K H' a vs:=fun c a vs q1 q2=>⟨⟨by rw[cE fun z=>q1.2 (.inr z)];exact q1.1,fun z=>q1.2 (.inl z)⟩,q2⟩
   refine fin s5 HP.objs.size s₂.heap.objs.size H' m' acc ys lp5 hDy mD (e1.trans eX) (yD ok5) ((ac _).lift (fun p v q=>RP.tr (fun _ _ q=>q) (fun a vs q1 q2=>⟨⟨q1.1,fun z=>q1.2 (.inl z)⟩,q2⟩) p v q) racc) (fun c=>(ac _).lift (fun p v q=>RP.tr (fun _ _ q=>q) (trc c) p v q) racc) (fun c rc=>⟨?_,?_⟩) ⟨_,I6.loc.choose_spec.1⟩ IX ⟨I6.free,Nat.ne_of_gt (aj I2.lt leC),Nat.le_trans I2.sz leC,fun x c e=>?_,fun p hp=>?_⟩
   ·refine⟨fun a vs q=>(e1.trans eX).t a vs q,fun a vs q1 q2=>?_,fun a q=>(e1.trans eX).z a q,fun a q=>?_,(e1.trans eX).fz,fun a q=>?_⟩
    ·obtain⟨_,q3⟩:=e1.l a vs q1 q2;have ne:=SqL.ne hD hkD q3
     obtain⟨q4,q5⟩:=(e1.trans eX).l a vs q1 q2;exact⟨by rw[cE ne];exact q4,q5⟩
    ·by_cases ea:a=s₂.heap.objs.size
     ·subst ea;rw[bM];rfl
     ·rw[cE ea];exact(e1.trans eX).c a q
    ·have fq:=(e1.trans eX).fm a q
     have ne:a≠s₂.heap.objs.size:=by
      rintro rfl;rw[mD]at fq;rw[<- fq]at q
      cases q
     rw[cE ne];exact fq
   ·refine⟨fun a c' q=>?_,fun a q=>?_⟩
    ·by_cases ea:a=s₂.heap.objs.size
     ·subst ea;rw[bM]at q
      cases q
      exact⟨_,hDy,rc⟩
     ·rw[cE ea]at q;obtain⟨o,q1,q2⟩:=ok5.g a c' q;exact⟨o,q1,q2.lift fun p v q3=>RP.tr (fun _ _ q=>q) (trc c) p v q3⟩
    ·have ne:a≠s₂.heap.objs.size:=fun z=>nz (z▸q)
     obtain⟨q1,q2⟩:=ok5.z a (.inl q);exact⟨by rw[cE ne];exact q1,q2⟩
   ·obtain⟨v,q⟩:=I2.cell x c e;exact ao (aj q.lt leC)
   ·exact ao (aj (ag (I2.pin p hp).1) leC)
 exact D4 ce (loop _ rfl) (T.self _ 0 _ _ _ st4 (loop _ rfl))
end
def lE(sl:List Int->List Nat)(led:Bool)(zs:List Int):SetTable:={mask:=7,place:=(sl zs).toArray,dummies:=#[],finger:=0,led:=led,moves:=0,plain:=true}
def wE(zs:List Int)(tks:List Tok):Array (Int×Value):=(List.zipWith (fun z t=>(hashInt z,Value.int z t)) zs tks).toArray
structure SD where
 dom:List Int
 sub:List Int->Prop
 sl:List Int->List Nat
 to:List Int->Int->Nat
 ins:List Int->Int->List Int
 cap:Nat
 nil:sub []
 nil':sl []=[]
 len:∀ zs,sub zs->zs.length<=3/\(∀ led,(lE sl led zs).fits zs.length=true)
 free:∀ led zs,sub zs->∀ z∈dom,z∉zs->zs.length<cap->(lE sl led zs).freeSlot (hashInt z)=some (to zs z,false)/\(lE sl led zs).put (to zs z)=(lE sl led (ins zs z),SetTable.below (sl zs).toArray (to zs z))/\(lE sl led (ins zs z)).fits (zs.length+1)=true /\
  ins zs z=zs.take (SetTable.below (sl zs).toArray (to zs z))++z::zs.drop (SetTable.below (sl zs).toArray (to zs z))/\sub (ins zs z)/\(lE sl led (ins zs z)).tooFull=false
 old:∀ zs,sub zs->∀ z∈zs,ins zs z=zs
 st:∀ zs,sub zs->∀ i j:Nat,((sl zs).toArray)[i]?=some j->SetTable.below (sl zs).toArray (j+1)=i+1
 bel:∀ zs,sub zs->SetTable.below (sl zs).toArray 0=0
def ISetB(B:SD)(P:Program)(w:World)(h:Heap)(a:Addr)(zs:List Int):Prop :=
 ∃ o tks ep,h.get? a=some o/\o.ExactSet/\B.sub zs/\tks.length=zs.length/\o.data=.set (wE zs tks) ep (lE B.sl (!w.params.followText "set-order") zs)
theorem ISetB.at{B:SD}{P:Program}{w:World}{h h':Heap}{a:Addr}{zs:List Int}(T:ISetB B P w h a zs)(k:∀ o,h.get? a=some o->h'.get? a=some o):ISetB B P w h' a zs:=by
 obtain⟨o,tks,ep,ho,rest⟩:=T;exact⟨o,tks,ep,k o ho,rest⟩
theorem size3{zs:List Int}{tks:List Tok}(hl:tks.length=zs.length):(wE zs tks).size=zs.length:=by
 unfold wE;rw[ay,List.length_zipWith];omega
section
variable {P:Program}{w:World}{A:Around}{E:Value->Shared->Prop}{s:Shared}{S:Addr}{zs:List Int}{B:SD}
theorem ISetB.type{h:Heap}(T:ISetB B P w h S zs):∃ o,h.get? S=some o/\o.cls=.type "set":=let ⟨o,_,_,ho,hx,_⟩:=T;⟨o,ho,hx.1⟩
end
def Kl(z:Int):Nat:=if z=-1 then 6 else z.toNat
def Zp:List (List Int):=[[],[0],[1],[-1],[0,1],[0,-1],[1,-1],[0,1,-1]]
theorem st3:∀ zs∈Zp,∀ i:Fin 3,(match ((zs.map Kl).toArray)[i.val]? with | none=>true | some j=>decide (SetTable.below (zs.map Kl).toArray (j+1)=i.val+1))=true:=by decide +kernel
section
variable {X:Cx}{elt tg iter:Expr}{ifs:List Expr}{scope:Scope}{NC:List Str}{fi:DI}{g:DG}{t:DT}{f:DE}{pos:Pos}
theorem qL:∀ {vs:List Value} {ys:List Int},IntsAre vs ys->Vals (ys.map V.int) vs
 | _,_,.nil=>.nil
 | _,_,.cons z t h=>.cons ⟨t,rfl⟩ (qL h)
end
section
variable {X:Cx}{a:Expr}{f:DE}{pos p2 p3:Pos}
theorem Vals.rel:∀ {xs:List V} {us:List Value},Vals xs us->xs.length=us.length/\∀ (i:Nat) x u,xs[i]?=some x->us[i]?=some u->RelV x u
 | _,_,.nil=>⟨rfl,fun i x u e=>by simp at e⟩
 | _,_,.cons r t=>⟨by simp[(Vals.rel t).1],fun i x u e1 e2=>by
  cases i with
  | zero=>cases e1;cases e2;exact r
  | succ i=>exact(Vals.rel t).2 i x u #[4,e1] #[4,e2]⟩
theorem RPs.rel{K:ad}{Z:Addr->Prop}{m:Mu}{H:Hp}:∀ {xs:List PyData} {vs:List V},RPs K Z m H xs vs->xs.length=vs.length/\∀ (i:Nat) x u,xs[i]?=some x->vs[i]?=some u->RP K Z m H x u
 | [],vs,h=>by
  cases (show vs=[] from h)
  exact⟨rfl,fun i x u e=>by simp at e⟩
 | p::ps,vs,h=>by
  obtain⟨v,r,rfl,h1,h2⟩:=h;obtain⟨q1,q2⟩:=RPs.rel h2;refine⟨by simp[q1],fun i x u e1 e2=>?_⟩
  cases i with
  | zero=>cases e1;cases e2;exact h1
  | succ i=>exact q2 i x u #[4,e1] #[4,e2]
end
abbrev Hr(ek ev:Expr):Addr->Env->Sem Unit:=fun D env=>eval ek env>>=fun a1=>holding [a1] (eval ev env)>>=fun a2 =>
 standAt {ek.pos with endLine:=ev.pos.endLine,endCol:=ev.pos.endCol}>>=fun _=>holding [a1,a2] (dictSet D a1 a2)
theorem a9{k v tg iter:Expr}{ifs:List Expr}{scope:Scope}{pos:Pos}:CompE (.DictComp k v [⟨tg,iter,ifs,0⟩] scope pos) tg iter ifs (Hr k v):=⟨.inr ⟨_,_,_,_,_,rfl⟩,rfl,fun it D env=>rfl⟩
def yI(K:ad)(_:Addr)(Z:Addr->Prop)(m:Mu)(H:Hp)(kvs:List (aL×PyData))(o:HO):Prop:=∃ vs,o=.dK vs/\RKV K Z m H kvs vs
theorem J0{K:ad}(D:Addr):AccR K (yI K D):=⟨fun tr ⟨vs,e,h⟩=>⟨vs,e,RKV.lift tr h⟩,fun⟨vs,e,_⟩=>by subst e;exact⟨(fun _ e=>nomatch e),(fun _ _ e=>nomatch e)⟩⟩
section
variable {X:Cx}{ek ev tg iter:Expr}{ifs:List Expr}{scope:Scope}{NC:List Str}{fi:DI}{g:DG}{t:DT}{fk fv:DE}{pos:Pos}
theorem Xa{D:Addr}(hk:PE X ek (LE X.K fk))(hv:PE X ev (LE X.K fv))(hx:X.xe=fun _ _=>False):Dv X D (Hr ek ev) (yI X.K D) (fun d m kvs Q=>fk d m fun x m1=>∃ k,iE x=some k/\fv d m1 fun y m2=>∃ p,y=.dat p/\kvs.length<sizeLine/\Q (cD kvs k p) m2):=by
 intro pins s σ H Z d m kvs o Q I ok rs hD ha q;obtain⟨vs,rfl,hr⟩:=ha;have h1:=hk pins s σ H (fun u H1=>∃ m1 k,u=kV k/\(fv d m1 fun y m2=>∃ p,y=.dat p/\kvs.length<sizeLine/\Q (cD kvs k p) m2)/\Ext X.K (aO Z D) m H m1 H1/\Ok X.K (aO Z D) m1 H1) I
  ⟨aO Z D,d,m,_,ok,rs,q,fun x m1 u H1 h1 e1 ok1 rd=>by
   obtain⟨k,ek,q1⟩:=h1;exact⟨m1,k,rd.key ek,q1,e1,ok1⟩⟩
 rw[hx]at h1;refine ae (aS h1 fun u s1 hq=>?_);obtain⟨vk,H1,I1,rk,m1,k,ek,q1,e1,ok1⟩:=hq;subst ek;have h2:=hv pins s1 σ H1 (fun w H2=>∃ m2 p,RP X.K (aO Z D) m2 H2 p w/\kvs.length<sizeLine/\Q (cD kvs k p) m2/\Ext X.K (aO Z D) m1 H1 m2 H2/\Ok X.K (aO Z D) m2 H2) I1
  ⟨aO Z D,d,m1,_,ok1,rs.ext e1,q1,fun y m2 w H2 h2 e2 ok2 rd=>by
   obtain⟨p,ep,hl,q2⟩:=h2;subst ep;exact⟨m2,p,rd,hl,q2,e2,ok2⟩⟩
 rw[hx]at h2;refine ae (wpAny_holding (aS h2 fun w s2 hq=>?_));obtain⟨vv,H2,I2,rv,m2,p,rp,hl,q2,e2,ok2⟩:=hq;have hD2:H2 D=some (.dK vs):=((e1.trans e2).z _ (.inr rfl)).trans hD
 have hr2:=RKV.lift (RP.ext (e1.trans e2)) hr
 have vl:vs.length=kvs.length:=hr.length
 obtain⟨z,hd,us,rel,dd⟩:=xY I2.hok hD2;have hz:us.length<=sizeLine:=by rw[<- rel.length];exact z
 have hlp:(cV vs k vv).length<=sizeLine:=by have:=xE vs k vv;omega
 refine ae (wpAny_standAt (wpAny_holding (wpAny_dictSet_pairs (hsz:=hz) (nU rk) dd fun h' dd' hs=>?_)));have he:∃ q,h'.get? D=some q:=let ⟨q,_,_,hq,_⟩:=dd';⟨q,hq⟩
 refine⟨cD kvs k p,m2,H2,.dK (cV vs k vv),q2,e1.trans e2,ok2,⟨_,rfl,hr2.put rp⟩,?_⟩;exact I2.write (t':=s2.toks+1) (h':=h') (x:=D) (e:=D) (by rw[hD2];exact True.intro) (.inl rfl) (fun b u hb e=>(hs.2 b hb).trans e) he (Ds hlp hd (rel.put k rv) dd')
@[simp] def nF(src:List (Option Nat))(fi:DI)(g:DG)(t:DT)(fk fv:DE):DE:=fun d m Q=>fi d m fun xs m1=>fM g t (fun d m kvs Q=>fk d m fun x m1=>∃ k,iE x=some k/\fv d m1 fun y m2=>∃ p,y=.dat p/\kvs.length<sizeLine/\Q (cD kvs k p) m2) xs [] (bP src d) m1 fun kvs m2=>∀ a,m2 a=none->Q (.cel a) (aW m2 a (.d kvs))
theorem Wj(src:List (Option Nat))(hc:X.calm=true)(hi:PI X tg iter (LI X.K fi))
  (hg:∀ cl C s2 H2 pins fp,PG (aX X scope cl C NC s2 H2 pins fp) tg (LG X.K g)) (ht:∀ cl C s2 H2 pins fp,PF (aX X scope cl C NC s2 H2 pins fp) ifs (LT X.K t)) (hk:∀ cl C s2 H2 pins fp,PE (aX X scope cl C NC s2 H2 pins fp) ek (LE X.K fk)) (hv:∀ cl C s2 H2 pins fp,PE (aX X scope cl C NC s2 H2 pins fp) ev (LE X.K fv))
  (hkind:scope.kind=.function) (hcell:∀ y∈scope.names,y.2≠.cell) (hnames:∀ y∈scope.names,y.2=.local->scope.names.lookup y.1=some .local)
  (hfree:∀ x,(x,NameKind.free)∈scope.names->X.env.kindOf x=some .cell\/X.env.kindOf x=some .free) (hsrc:jN X scope NC src)
  (hs:∀ x,foldedSetIterable iter X.env x=pure x:=by intro _;rfl) :
  PE X (.DictComp ek ev [⟨tg,iter,ifs,0⟩] scope pos) (LE X.K (nF src fi g t fk fv)):=by
 intro pins s σ H Q I h;obtain⟨Z,d,m,R,ok,rs,h,k⟩:=h;rw[arm_eval_DictComp];refine l6 (AR:=yI X.K) (o0:=fun _=>.dK []) (a0:=[]) a9 (fun D=>J0 D) (ob:={cls:=.type "dict",data:=.dict #[]}) (fun {Q s} q=>?_) rfl (fun H h a big e=>?_) (fun D Z m H=>⟨[],rfl,rfl⟩) src hc hi hg ht (fun cl C s2 H2 pins fp D=>Xa (hk cl C s2 H2 pins fp) (hv cl C s2 H2 pins fp) rfl) hkind hcell hnames hfree hsrc hs (use:=none) (RL:=fun kvs m2=>∀ a,m2 a=none->R (.cel a) (aW m2 a (.d kvs))) (QQ:=EP X pins σ Q) I ok rs h ?_
 ·show wpAny _ _ (newObj (.type "dict") (.dict #[])) _ _ s
  exact wpAny_newObj_type q (by size_fits)
 ·exact⟨Nat.zero_le _,beq_eq_false_iff_ne.mpr (Ne.symm (ao big)),[],.nil,_,#[],0,e,⟨rfl,rfl,rfl⟩,rfl,(by first | exact .nil | exact List.nodup_nil | rfl | (intro _ h;simp at h)),(by first | exact .nil | exact List.nodup_nil | rfl),(by first | exact .nil | exact List.nodup_nil | rfl)⟩
 intro s5 C D H' m' kvs o q hDo mD e ok' ar ar' rc ⟨mm,hns⟩ I5 off;obtain⟨vs,eo,hr⟩:=ar' (.d kvs);subst eo;obtain⟨x1,x2⟩:=rc (.d kvs) hr;exact⟨mm,hns,fun h' hs'=>⟨.ref D,H',off.inv I5 hs',rfl,k _ _ _ H' (q D mD) x1 x2 ⟨rfl,by rw[bM];rfl⟩⟩⟩
theorem K6(NC:List Str)(src:List (Option Nat))(hc:X.calm=true)(hi:PI X tg iter (LI X.K fi))
  (hg:∀ cl C s2 H2 pins fp,PG (aX X scope cl C NC s2 H2 pins fp) tg (LG X.K g)) (ht:∀ cl C s2 H2 pins fp,PF (aX X scope cl C NC s2 H2 pins fp) ifs (LT X.K t)) (hk:∀ cl C s2 H2 pins fp,PE (aX X scope cl C NC s2 H2 pins fp) ek (LE X.K fk)) (hv:∀ cl C s2 H2 pins fp,PE (aX X scope cl C NC s2 H2 pins fp) ev (LE X.K fv))
  (hkind:scope.kind=.function:=by rfl) (hB:chkB scope X.env=true:=by rfl) (hS:chkS X.N scope X.env NC src=true:=by rfl)
  (hs:∀ x,foldedSetIterable iter X.env x=pure x:=by intro _;rfl):PE X (.DictComp ek ev [⟨tg,iter,ifs,0⟩] scope pos) (LE X.K (nF src fi g t fk fv)) :=
 Wj (NC:=NC) src hc hi hg ht hk hv hkind (chkB.ok hB).1 (chkB.ok hB).2.1 (chkB.ok hB).2.2 (chkS.ok hS) hs
end
def eO(kvs:List (PyData×PyData)):PyData:=.dict ((yF,.none)::kvs)
mutual
@[simp] def gF:PyData->PyData->Bool
 | .int i,.int j=>decide (i=j)
 | .str x,.str y=>decide (x=y)
 | .tuple xs,.tuple ys=>keqs xs ys
 | _,_=>false
@[simp] def keqs:List PyData->List PyData->Bool
 | [],[]=>true
 | x::xs,y::ys=>gF x y&&keqs xs ys
 | _,_=>false
end
mutual
theorem qW:∀ (x y:PyData),gF x y=true->x=y
 | .int i,y,h=>by cases y<;>simp_all
 | .str i,y,h=>by cases y<;>simp_all
 | .tuple xs,y,h=>by
  cases y with
  | tuple ys=>simp only[gF]at h;rw[keqs_eq xs ys h]
  | _=>simp[gF]at h
 | .none,y,h | .bool _,y,h | .list _,y,h | .dict _,y,h=>by simp[gF]at h
theorem keqs_eq:∀ (xs ys:List PyData),keqs xs ys=true->xs=ys
 | [],ys,h=>by cases ys<;>simp_all
 | x::xs,ys,h=>by
  cases ys with
  | nil=>simp[keqs]at h
  | cons y ys=>simp only[keqs,Bool.and_eq_true]at h;rw[qW x y h.1,keqs_eq xs ys h.2]
end
theorem Dk(a b:aL):gF (cT a) (cT b)=decide (a=b):=by
 cases a<;>cases b<;>simp
theorem Dc:∀ a b:List aL,keqs (a.map cT) (b.map cT)=decide (a=b)
 | [],[]=>rfl
 | [],_::_=>rfl
 | _::_,[]=>rfl
 | x::xs,y::ys=>by
  simp only[au,keqs,Dk,Dc xs ys];simp
mutual
theorem Ui:∀ p:PyData,L2.isK p=true->gF p p=true
 | .int _,_=>by simp
 | .str _,_=>by simp
 | .tuple xs,h=>by simp only[gF];exact keqs_self xs h
 | .none,h | .bool _,h | .list _,h | .dict _,h=>by simp[L2.isK]at h
theorem keqs_self:∀ ps:List PyData,L2.isKs ps=true->keqs ps ps=true
 | [],_=>by simp
 | p::ps,h=>by
  simp only[L2.isKs,Bool.and_eq_true]at h;simp only[keqs,Ui p h.1,keqs_self ps h.2,Bool.and_self]
end
def fW{β:Type}(kvs:List (PyData×β))(k:PyData):Option β:=(kvs.find? fun kv=>gF kv.1 k).map (·.2)
theorem nK{β:Type}{p:PyData×β}{r:List (PyData×β)}{k:PyData}:fW (p::r) k=if gF p.1 k=true then some p.2 else fW r k:=by
 unfold fW;rw[List.find?_cons]
 cases gF p.1 k<;>rfl
section
variable {K:ad}{Z:Addr->Prop}{m:Mu}{H:Hp}
theorem RPd.val{k p:PyData}:∀ {kvs:List (PyData×PyData)} {vs:List (PyData×V)},RPd K Z m H kvs vs->fW kvs k=some p->∃ v,fW vs k=some v/\RP K Z m H p v
 | [],_,_,e=>nomatch e
 | (j,q)::xs,_,h,e=>by
  simp only[RPd]at h;obtain⟨v,r,rfl,h2,h3⟩:=h;rw[nK]at e ⊢
  split at e
  ·rename_i c;rw[if_pos c]
   cases e
   exact⟨v,rfl,h2⟩
  ·rename_i c;rw[if_neg c];exact RPd.val h3 e
theorem RPd.keys:∀ {kvs:List (PyData×PyData)} {vs:List (PyData×V)},RPd K Z m H kvs vs->vs.map (·.1)=kvs.map (·.1)
 | [],_,h=>by simp only[RPd]at h;subst h;rfl
 | (j,q)::xs,_,h=>by
  simp only[RPd]at h;obtain⟨v,r,rfl,h2,h3⟩:=h;rw[au,au,RPd.keys h3]
theorem rV{kvs:List (PyData×PyData)}{v:V}(h:RP K Z m H (eO kvs) v):∃ a o u vs,v=.ref a/\H a=some (.frz o u)/\kT K u vs/\RPd K Z m H kvs vs:=by
 simp only[eO,RP,RPd]at h;obtain⟨a,o,u,vs,h1,h2,h3,v',r,h4,_,h6⟩:=h
 cases h4
 exact⟨a,o,u,vs,h1,h2,h3,h6⟩
theorem Ts{kvs:List (PyData×PyData)}{a:Addr}{o:Obj}{u:HO}{vs:List (PyData×V)}(h2:H a=some (.frz o u))(h3:kT K u vs)(h:RPd K Z m H kvs vs):RP K Z m H (eO kvs) (.ref a):=by
 simp only[eO,RP,RPd];exact⟨a,o,u,vs,rfl,h2,h3,.non,vs,rfl,rfl,h⟩
theorem RKV.rpd{κ:Type}(f:κ->PyData):∀ {kvs:List (κ×PyData)} {vs:List (κ×V)},RKV K Z m H kvs vs->RPd K Z m H (kvs.map fun kv=>(f kv.1,kv.2)) (vs.map fun kv=>(f kv.1,kv.2))
 | [],_,h=>by cases (show _=[] from h);simp[RPd]
 | (k,p)::xs,_,⟨v,r,h1,h2,h3⟩=>by
  subst h1;simp only[au,RPd];exact⟨v,_,rfl,h2,h3.rpd f⟩
theorem Lm:∀ (ws:List (aL×V)) (k:PyData) (v:V),fW (ws.map fun kv=>(cT kv.1,kv.2)) k=some v->∃ kk,k=cT kk/\dA ws kk=some v
 | [],_,_,e=>nomatch e
 | p::ws,k,v,e=>by
  rw[au,nK]at e
  split at e
  ·rename_i c
   cases e
   exact⟨p.1,(qW _ _ c).symm,jS rfl⟩
  ·rename_i c;obtain⟨kk,rfl,h⟩:=Lm ws k v e;refine⟨kk,rfl,?_⟩;rw[jZ (fun z=>c (by rw[<- z];show gF (cT p.1) (cT p.1)=true;rw[Dk];simp))]
   exact h
theorem Cp:∀ (ws:List (List aL×V)) (k:PyData) (v:V),fW (ws.map fun kv=>(PyData.tuple (kv.1.map cT),kv.2)) k=some v->∃ kk,k=.tuple (kk.map cT)/\dA ws kk=some v
 | [],_,_,e=>nomatch e
 | p::ws,k,v,e=>by
  rw[au,nK]at e
  split at e
  ·rename_i c
   cases e
   exact⟨p.1,(qW _ _ c).symm,jS rfl⟩
  ·rename_i c;obtain⟨kk,rfl,h⟩:=Cp ws k v e;refine⟨kk,rfl,?_⟩;rw[jZ (fun z=>c (by rw[<- z];simp[Dc]))]
   exact h
theorem zO:∀ (ws:List (List PyData×V)) (k:PyData) (v:V),(∀ p∈ws,L2.isKs p.1=true)->fW (ws.map fun kv=>(PyData.tuple kv.1,kv.2)) k=some v->∃ kk,k=.tuple kk/\L2.isKs kk=true/\(∃ p∈ws,p.1=kk)/\dA ws kk=some v
 | [],_,_,_,e=>nomatch e
 | p::ws,k,v,a,e=>by
  rw[au,nK]at e
  split at e
  ·rename_i c
   cases e
   exact⟨p.1,(qW _ _ c).symm,a p List.mem_cons_self,⟨p,List.mem_cons_self,rfl⟩,jS rfl⟩
  ·rename_i c;obtain⟨kk,rfl,hk,⟨q,hq,eq⟩,h⟩:=zO ws k v (fun p hp=>a p (aq _ hp)) e;refine⟨kk,rfl,hk,⟨q,aq _ hq,eq⟩,?_⟩;rw[jZ (fun z=>c (by rw[<- z];simp only[gF];exact keqs_self _ (a p List.mem_cons_self)))]
   exact h
end
section
variable {X:Cx}{pins:List (Addr×Obj)}{σ:L2.St}{H:Hp}{s:Shared}{Z:Addr->Prop}{m:Mu}
theorem Qx{K:ad}{k:aL}{y:V}(h:RP K Z m H (cT k) y):y=kV k:=by
 cases k<;>(simp only[cT,RP]at h;exact h)
theorem Gh{K:ad}:∀ {ks:List aL} {vs:List V},RPs K Z m H (ks.map cT) vs->vs=ks.map kV
 | [],_,h=>by simpa[RPs] using h
 | k::ks,_,h=>by
  simp only[au,RPs]at h;obtain⟨v,r,rfl,h1,h2⟩:=h;rw[Qx h1,Gh h2];rfl
theorem nD{a:Addr}{o:Obj}{u:HO}(I:Inv X pins σ H s)(h:H a=some (.frz o u)):s.heap.get? a=some o/\ObjOk X.prog X.w H s.heap a u:=(show ObjOk X.prog X.w H s.heap a (.frz o u) from I.hok a _ h)
theorem CT{a:Addr}{o:Obj}{kvs:List (List PyData×V)}(I:Inv X pins σ H s)(e:H a=some (.frz o (.dN X.K kvs))):(∀ p∈kvs,L2.isKs p.1=true/\PyData.depthAll p.1<=6)/\(a==sysModules)=false/\∃ xs,KN X.K H kvs xs/\s.heap.DictOfH (iH X.prog X.w) a xs:=by
 obtain⟨z,y,xs,r,o,es,ep,h1,h2,h3,h4,h5⟩:=(show ObjOk X.prog X.w H s.heap a (.dN X.K kvs) from(nD I e).2)
 refine⟨?_,y,xs,r,o,es,ep,h1,h2,h3,h4,fun x hx=>?_,h5⟩
 ·have all:∀ {l:List (List PyData×V)} {m:List (List PyData×Addr×Value)},KN X.K H l m->∀ p∈l,L2.isKs p.1=true/\PyData.depthAll p.1<=6:=by
   intro l m q
   induction q with
   | nil=>intro x hx;exact nomatch hx
   | @cons p q ps qs hq t ih =>
    intro x hx;rcases List.mem_cons.mp hx with e | hx
    ·subst e;exact⟨hq.2.1.1,hq.2.1.2.1⟩
    ·exact ih x hx
  exact all r
 ·have all:∀ {l:List (List PyData×V)} {m:List (List PyData×Addr×Value)},KN X.K H l m->∀ x∈m,(iH X.prog X.w).is s.heap x.1 x.2.1:=by
   intro l m q
   induction q with
   | nil=>intro x hx;exact nomatch hx
   | @cons p q ps qs hq t ih =>
    intro x hx;rcases List.mem_cons.mp hx with e | hx
    ·subst e;exact Kk I (by rw[<- hq.1];exact hq.2.1)
    ·exact ih x hx
  exact all r x hx
theorem AG{a:Addr}{o:Obj}{u:HO}{vs:List (PyData×V)}{k:PyData}{v y:V}{iv:Value}{Q:Value->Shared->Prop}(hu:X.A.units+100<cLine)(I:Inv X pins σ H s)(h:H a=some (.frz o u))(e:kT X.K u vs)(hv:fW vs k=some v)(rk:RP X.K Z m H k y)(ry:RelV y iv)
  (q:∀ w' s',Inv X pins σ H s'->RelV v w'->Q w' s'):s.TypeIs (.ref a) "dict"/\wpAny (model X.prog X.w) X.A (getItem (.ref a) iv) Q X.xe s:=by
 cases u with
 | dK ws =>
  cases (show vs=_ from e)
  obtain⟨kk,rfl,hw⟩:=Lm ws k v hv
  cases Qx rk
  have g:DGet H a (kV kk) (some v):=.inl ⟨ws,kk,.inr ⟨o,h⟩,rfl,hw.symm⟩
  exact⟨zR I g,Mr #[0] I g ry q⟩
 | dT ws =>
  cases (show vs=_ from e)
  obtain⟨kk,rfl,hw⟩:=Cp ws k v hv;simp only[RP]at rk;obtain⟨b,zs,rfl,hsq,rp⟩:=rk;obtain rfl:iv=Value.ref b:=ry
  cases Gh rp
  obtain⟨z,hd,xs,rel,dd⟩:=pG I.hok (.inr ⟨o,h⟩:Rd H a (.dT ws));obtain⟨w',hw',rw'⟩:=RelO.some_of (v:=v) (o:=(atKey xs kk).map (·.2)) (by rw[<- hw];exact rel.val kk)
  obtain⟨pr,hp,hp2⟩:=Option.map_eq_some_iff.mp hw';obtain⟨its,rvs,⟨ob,h1,h2,n,h3⟩,_⟩:=I.tuple hsq;have key:(tupleKind (bX X.prog X.w)).is s.heap kk b:=⟨ob,its.toArray,n,h1,h2,h3,by simpa using pE rvs⟩
  refine⟨dd.typeIs,wpAny_getItem_heap (tupleKind_room_in1 #[0]) key dd hp ?_⟩
  rw[hp2];exact q _ _ (I.tok _) rw'
 | dN K' ws =>
  obtain⟨rfl,rfl⟩:=(show K'=X.K/\vs=_ from e)
  obtain⟨hk,hd,xs,rel,dd⟩:=CT I h;obtain⟨kk,rfl,hkk,⟨p0,hp0,ep0⟩,hw⟩:=zO ws k v (fun p hp=>(hk p hp).1) hv;have r3:=RP.nkv (.tuple kk) y hkk rk
  have r4:=r3
  simp only[NKV]at r4;obtain⟨b,zs,rfl,_⟩:=r4;obtain rfl:iv=Value.ref b:=ry;obtain⟨w',hw',rw'⟩:=RelO.some_of (v:=v) (o:=(atKey xs kk).map (·.2)) (by rw[<- hw];exact rel.val kk)
  obtain⟨pr,hp,hp2⟩:=Option.map_eq_some_iff.mp hw';refine⟨dd.typeIs,wpAny_getItem_heap (X7 hu) (Kk I ⟨hkk,by rw[<- ep0];exact(hk p0 hp0).2,r3⟩) dd hp ?_⟩
  rw[hp2];exact q _ _ (I.tok _) rw'
 | _=>exact e.elim
end
section
variable {X:Cx}{o i a tg:Expr}{fo fi f:DE}{pos:Pos}
@[simp] def dW(fo fi:DE):DE:=fun d m Q=>fo d m fun o m1=>fi d m1 fun y m2=>∃ kvs k p,o=.dat (eO kvs)/\y=.dat k/\fW kvs k=some p/\Q (.dat p) m2
theorem U4(hu:X.A.units+100<cLine)(ho:PE X o (LE X.K fo))(hi:PE X i (LE X.K fi))(hs:jU i:=by exact fun _ _=>rfl):PE X (.Subscript o i pos) (LE X.K (dW fo fi)):=by
 intro pins s σ H Q I h;obtain⟨Z,d,m,R,ok,rs,h,k⟩:=h;refine Bc PySem.F.slot_dict_getitem.lookup hs (aS (ho pins s σ H (fun x H1=>∃ (ox:D) (m1:Mu),RD X.K Z m1 H1 ox x/\(fi d m1 fun y m2=>∃ kvs k p,ox=.dat (eO kvs)/\y=.dat k/\fW kvs k=some p/\R (.dat p) m2)/\Ext X.K Z m H m1 H1/\Ok X.K Z m1 H1) I
  ⟨Z,d,m,_,ok,rs,h,fun x m1 v H1 q e1 ok1 rd=>⟨x,m1,rd,q,e1,ok1⟩⟩) fun u s1 ⟨x,H1,I1,rx,ox,m1,rd,q,e1,ok1⟩=>?_)
 refine aS (hi pins s1 σ H1 (fun y H2=>∃ m2 kvs ky p,RD X.K Z m2 H2 (.dat (eO kvs)) x/\RD X.K Z m2 H2 (.dat ky) y/\fW kvs ky=some p/\R (.dat p) m2/\Ext X.K Z m1 H1 m2 H2/\Ok X.K Z m2 H2) I1
  ⟨Z,d,m1,_,ok1,rs.ext e1,q,fun y m2 w H2 ⟨kvs,ky,p,eo,ey,hv,q2⟩ e2 ok2 r2=>by subst eo;subst ey;exact⟨m2,kvs,ky,p,rd.ext e2,r2,hv,q2,e2,ok2⟩⟩) fun iv s2 ⟨y,H2,I2,ry,m2,kvs,ky,p,ro,r2,hv,q2,e2,ok2⟩=>?_
 obtain⟨c,ob,un,vs,rfl,g1,g2,g3⟩:=rV ro;obtain rfl:u=Value.ref c:=rx;obtain⟨v,hv',rv⟩:=g3.val hv;exact AG hu I2 g1 g2 hv' r2 ry fun w' s' I' rw'=>⟨v,H2,I',rw',k _ m2 v H2 q2 (e1.trans e2) ok2 rv⟩
@[simp] def Qz:Cel->Option (List (PyData×PyData))
 | .d kvs=>some (kvs.map fun kv=>(cT kv.1,kv.2))
 | .t kvs=>some (kvs.map fun kv=>(.tuple (kv.1.map cT),kv.2))
 | _=>none
theorem vW{m:Mu}{c:Addr}{x:Cel}:eL (aW m c x) c=eL m c:=by
 funext b
 unfold eL aW
 split<;>rfl
@[simp] def lH(f:DE):DE:=fun d m Q=>f d m fun x m1=>∃ c cl kvs,x=.cel c/\m c=none/\m1 c=some cl/\Qz cl=some kvs/\Q (.dat (eO kvs)) (eL m1 c)
theorem Q4{e:Expr}(he:PE X e (LE X.K f)):PE X e (LE X.K (lH f)):=by
 intro pins s σ H Q I h;obtain⟨Z,d,m,R,ok,rs,h,k⟩:=h;refine aS (he pins s σ H (fun x H1=>∃ m1 c cl kvs,x=.ref c/\m c=none/\m1 c=some cl/\Qz cl=some kvs/\R (.dat (eO kvs)) (eL m1 c)/\Ext X.K Z m H m1 H1/\Ok X.K Z m1 H1) I
  ⟨Z,d,m,_,ok,rs,h,fun x m1 v H1 ⟨c,cl,kvs,ex,hc,hm,hk,q⟩ e1 ok1 rd=>by subst ex;exact⟨m1,c,cl,kvs,rd.1,hc,hm,hk,q,e1,ok1⟩⟩) fun u s1 ⟨x,H1,I1,r1,m1,c,cl,kvs,ex,hc,hm,hk,q,e1,ok1⟩=>?_
 subst ex;obtain rfl:u=Value.ref c:=r1;have fin:∀ (un:HO) (cf:Cel) (vs:List (PyData×V)) (o:Obj),Inv X pins σ (upd H1 c (.frz o un)) {s1 with heap:=s1.heap,toks:=s1.toks}->Ext X.K Z m1 H1 (aW m1 c cf) (upd H1 c (.frz o un))->Ok X.K Z (aW m1 c cf) (upd H1 c (.frz o un))->kT X.K un vs->RPd X.K Z m1 H1 kvs vs->EP X pins σ Q (.ref c) s1:=by
  intro un cf vs o I2 e2 ok2 en rp;have ok3:=ok2.off (a:=c)
  rw[vW]at ok3;have e3:=(e1.trans e2).off hc
  rw[vW]at e3;refine⟨.ref c,_,I2,rfl,k _ _ _ _ q e3 ok3 (Ts cA en ?_)⟩;have r2:=RPd.ext e2 _ _ rp
  refine RPd.tr0 (fun _ _ q=>q) (fun b ws q1 q2=>⟨⟨?_,q1.2⟩,q2⟩) (fun _ _ _ q=>q) _ _ r2;rw[<- vW (x:=cf)];exact qK q1.1
 cases cl with
 | d ks =>
  cases hk
  obtain⟨vs,g1,g2⟩:=ok1.d hm;obtain⟨z,hs,us,rel,o,es,ep,ho,rest⟩:=(show ObjOk X.prog X.w H1 s1.heap c (.dK vs) from I1.hok c _ g1)
  have I2:Inv X pins σ (upd H1 c (.frz o (.dK vs))) {s1 with heap:=s1.heap,toks:=s1.toks}:=qU I1 (by rw[g1];exact True.intro) (Heap.SameBut.refl _ _) ⟨o,ho⟩ ⟨ho,z,hs,us,rel,o,es,ep,ho,rest⟩
  exact fin _ (.fd ks) _ o I2 (Ext.put ok1 hm g1) (ok1.put hm g1 (show RC _ _ _ _ (.fd ks) (.frz o (.dK vs)) from g2)) rfl (g2.rpd cT)
 | t ks =>
  cases hk
  obtain⟨vs,g1,g2⟩:=ok1.t hm;obtain⟨z,hs,xs,pr,o,es,ep,ho,hx,hd,hes,nd⟩:=(show ObjOk X.prog X.w H1 s1.heap c (.dT vs) from I1.hok c _ g1)
  have nt:∀ b ys,H1 b=some (.tup ys)->upd H1 c (.frz o (.dT vs)) b=some (.tup ys):=fun b ys e=>by
   rw[bF (by rintro rfl;rw[g1]at e;cases e)]
   exact e
  have I2:Inv X pins σ (upd H1 c (.frz o (.dT vs))) {s1 with heap:=s1.heap,toks:=s1.toks} :=
   qU I1 (by rw[g1];exact True.intro) (Heap.SameBut.refl _ _) ⟨o,ho⟩ ⟨ho,z,hs,xs,Paired.mapP pr fun _ _ q=>⟨q.1,nt _ _ q.2.1,q.2.2⟩,o,es,ep,ho,hx,hd,hes,nd⟩
  exact fin _ (.ft ks) _ o I2 (Ext.put ok1 hm g1) (ok1.put hm g1 (show RC _ _ _ _ (.ft ks) (.frz o (.dT vs)) from g2)) rfl (g2.rpd fun k=>.tuple (k.map cT))
 | _=>cases hk
end
def DU(c:Addr)(o:Obj)(u:HO)(vks:List V):It :=
 ⟨fun i H=>H c=some (.frz o u)/\i<vks.length,fun i H v H'=>H'=H/\vks[i]?=some v,fun i H=>H c=some (.frz o u)/\i=vks.length⟩
theorem U9{P:Program}{w:World}{K:ad}{tg:Expr}(c it:Addr)(o:Obj)(u:HO)(es:Array DictEntry)(ep:Nat)(vks:List V)(hd:o.data=.dict es ep)(hb:Vals vks (es.toList.map (·.key))):Turn P w K tg (DU c o u vks) [it] it (fun i h=>h.IsKeyIter it c i es.size ep) where
 mem:=by simp
 obj:=fun i h st b hb=>by
  have e:b=it:=by simpa using hb
  subst e;obtain⟨o',e,_,dd⟩:=st;exact⟨o',e,fun v z=>by rw[dd]at z;cases z⟩
 keep:=fun i h h' st k=>by
  obtain⟨o',e,q⟩:=st;exact⟨o',k it #[2] o' e,q⟩
 item:=by
  intro X hP hw hK hc i pins s σ H E I hf st hg;subst hP hw hK;obtain⟨g1,g2⟩:=hg;obtain⟨ho,_⟩:=(show ObjOk X.prog X.w H s.heap c (.frz o u) from I.hok c _ g1)
  have hl:es.size=vks.length:=by
   have:=hb.length
   simpa using this.symm
  obtain⟨f0,f1,f2,f3,f4,f5⟩:=hf it #[2]
  have hi:i<es.size:=by omega
  refine W7 st ho hd hi fun h' st' sb=>?_;have I1:Inv X pins σ H {s with heap:=h'}:=I.turned (t':=s.toks) (fun b o hb e=>(sb.2 b hb).trans e) f0 f1 f3 f4 f5
  obtain⟨oi,e,cc,dd⟩:=id st';obtain⟨kv,q1,q2⟩:=Vals.get hb (List.getElem?_eq_getElem g2);have ek:es[i].key=kv:=by
   simp only[List.getElem?_map,Array.getElem?_toList,Array.getElem?_eq_getElem hi]at q1;exact Option.some.inj q1
  rw[ek];exact⟨_,rfl,nY (s:={s with heap:=h'}) e cc dd #[1] ⟨vks[i],H,I1,q2,⟨rfl,List.getElem?_eq_getElem g2⟩,st',fun b hb=>(hf b hb).1⟩⟩
 done:=by
  intro X hP hw hK hc i pins s σ H E I hf st hg;subst hP hw hK;obtain⟨g1,g2⟩:=hg;obtain⟨ho,_⟩:=(show ObjOk X.prog X.w H s.heap c (.frz o u) from I.hok c _ g1)
  have hl:es.size=vks.length:=by
   have:=hb.length
   simpa using this.symm
  obtain⟨f0,f1,f2,f3,f4,f5⟩:=hf it #[2]
  exact A2 (I.ok.hd hc) st ho hd #[0] fun h' eb=>⟨rfl,I.turned (t':=s.toks) (fun b o hb e=>eb b o hb e) f0 f1 f3 f4 f5⟩
 self:=fun _ _ _ _ _ st h=>wpAny_pyIter_keyiter st h
section
variable {X:Cx}{pins:List (Addr×Obj)}{σ:L2.St}{H:Hp}{s:Shared}
mutual
theorem NKV.rp{K:ad}{Z:Addr->Prop}{m:Mu}:∀ (p:PyData) (v:V),NKV K H p v->RP K Z m H p v
 | .int _,_,h=>by simp only[NKV]at h;simp only[RP];exact h
 | .str _,_,h=>by simp only[NKV]at h;simp only[RP];exact h
 | .tuple xs,_,h=>by
  simp only[NKV]at h;simp only[RP];obtain⟨a,vs,e,h1,h2⟩:=h;exact⟨a,vs,e,h1,NKVs.rp xs vs h2⟩
 | .none,_,h | .bool _,_,h | .list _,_,h | .dict _,_,h=>by simp only[NKV]at h
theorem NKVs.rp{K:ad}{Z:Addr->Prop}{m:Mu}:∀ (ps:List PyData) (vs:List V),NKVs K H ps vs->RPs K Z m H ps vs
 | [],_,h=>by simp only[NKVs]at h;simp only[RPs];exact h
 | p::ps,_,h=>by
  simp only[NKVs]at h;simp only[RPs];obtain⟨v,r,e,h1,h2⟩:=h;exact⟨v,r,e,NKV.rp p v h1,NKVs.rp ps r h2⟩
end
abbrev pW(K:ad)(H:Hp):List (PyData×V)->List V->Prop:=Paired fun p v=>∀ (Z:Addr->Prop) (m:Mu),RP K Z m H p.1 v
theorem yZ{P:Program}{w:World}:∀ {ws:List (aL×V)} {us:List (aL×Value)} {l:List DictEntry},KV ws us->Pairs (bX P w) l us->Vals (ws.map fun kv=>kV kv.1) (l.map (·.key))
 | _,_,_,.nil,pr=>by cases pr;exact .nil
 | _,_,_,@Paired.cons _ _ _ p q ps qs hq t,pr=>by
  cases pr with
  | @cons en kv es' _ k1 k2 r =>
   refine .cons ?_ (yZ t r);show RelV (kV p.1) en.key
   rw[hq.1];have k1:iI q.1 en.key=true:=k1
   rcases gA k1 with⟨i,t',e1,e2⟩ | ⟨x,t',e1,e2⟩
   ·rw[e1,e2];exact⟨t',rfl⟩
   ·rw[e1,e2];exact⟨t',rfl⟩
theorem Zo{K:ad}{Z:Addr->Prop}{m:Mu}(k:aL):RP K Z m H (cT k) (kV k):=by
 cases k<;>(simp only[cT,RP];rfl)
theorem zW{K:ad}:∀ ws:List (aL×V),pW K H (ws.map fun kv=>(cT kv.1,kv.2)) (ws.map fun kv=>kV kv.1)
 | []=>.nil
 | p::ws=>.cons (fun Z m=>Zo p.1) (zW ws)
theorem As{K:ad}:∀ {ws:List (List aL×V)} {xs:List (List aL×Addr×Value)},L2.KT H ws xs->pW K H (ws.map fun kv=>(PyData.tuple (kv.1.map cT),kv.2)) (xs.map fun x=>.ref x.2.1)
 | _,_,.nil=>.nil
 | _,_,.cons hq t=>.cons (fun Z m=>by
   simp only[RP];exact⟨_,_,rfl,.inl (.inl hq.2.1),tV _⟩) (As t)
theorem Qq{K:ad}:∀ {ws:List (List PyData×V)} {xs:List (List PyData×Addr×Value)},KN K H ws xs->pW K H (ws.map fun kv=>(PyData.tuple kv.1,kv.2)) (xs.map fun x=>.ref x.2.1)
 | _,_,.nil=>.nil
 | _,_,.cons hq t=>.cons (fun Z m=>NKV.rp _ _ hq.2.1.2.2) (Qq t)
theorem xP{κ:Type}:∀ xs:List (κ×Addr×Value),Vals (xs.map fun x=>V.ref x.2.1) (xs.map fun x=>Value.ref x.2.1)
 | []=>.nil
 | x::xs=>.cons rfl (xP xs)
theorem X1{a:Addr}{o:Obj}{u:HO}{vs:List (PyData×V)}(I:Inv X pins σ H s)(h:H a=some (.frz o u))(e:kT X.K u vs) :
  s.heap.get? a=some o/\(a==sysModules)=false/\o.ExactDict/\∃ es ep vks,o.data=.dict es ep/\Vals vks (es.toList.map (·.key))/\pW X.K H vs vks:=by
 obtain⟨g1,g2⟩:=nD I h;refine⟨g1,?_⟩
 cases u with
 | dK ws =>
  cases (show vs=_ from e)
  obtain⟨z,hs,us,rel,o',es,ep,ho,hx,hd,_,pr,_⟩:=g2;rw[g1]at ho;cases ho;exact⟨hs,hx,es,ep,_,hd,yZ rel pr,zW ws⟩
 | dT ws =>
  cases (show vs=_ from e)
  obtain⟨z,hs,xs,pr,o',es,ep,ho,hx,hd,hes,_⟩:=g2;rw[g1]at ho;cases ho;refine⟨hs,hx,es,ep,_,hd,?_,As pr⟩;rw[hes,List.map_map];exact xP xs
 | dN K' ws =>
  obtain⟨rfl,rfl⟩:=(show K'=X.K/\vs=_ from e)
  obtain⟨z,hs,xs,pr,o',es,ep,ho,hx,hd,hes,_⟩:=g2;rw[g1]at ho;cases ho;refine⟨hs,hx,es,ep,_,hd,?_,Qq pr⟩;rw[hes,List.map_map];exact xP xs
 | _=>exact e.elim
end
section
variable {X:Cx}{a tg:Expr}{f:DE}
theorem E2{pins:List (Addr×Obj)}{σ:L2.St}{H1:Hp}{s1:Shared}{Z:Addr->Prop}{m1:Mu}{c:Addr}{o:Obj}{u:HO}{vs:List (PyData×V)}{R:It->Hp->Prop}(I1:Inv X pins σ H1 s1)(g1:H1 c=some (.frz o u))(g2:kT X.K u vs)
  (k:∀ J,kQ X.K Z m1 H1 (vs.map fun kv=>.dat kv.1) J->R J H1) :
  wpAny (model X.prog X.w) X.A (pyIter (.ref c)) (uL X pins σ tg R) X.xe s1:=by
 obtain⟨ho,hs,hx,es,ep,vks,hd,hv,hk⟩:=X1 I1 g1 g2;refine S9 hs ho hx hd ?_;refine⟨s1.heap.objs.size,[s1.heap.objs.size],_,_,_,rfl,I1.kept (t':=s1.toks) fun b o e=>ah _ e,U9 c _ o u es ep vks hd hv,⟨_,ai _ rfl,rfl,rfl⟩,fun b hb=>?_,k _ ?_⟩
 ·have e:b=s1.heap.objs.size:=by simpa using hb
  subst e;exact I1.fpOk (ak _) (I1.hok.fresh (ak _))
 ·intro m3 H3 ey;have g3:=ey.fz c o u g1
  have kl:vks.length=(vs.map fun kv=>D.dat kv.1).length:=by rw[av];exact(Paired.len hk).symm
  refine⟨fun i x hx=>⟨⟨g3,?_⟩,fun v H4 y=>.inl ⟨y.1,?_⟩⟩,g3,kl.symm⟩
  ·have:=(List.getElem?_eq_some_iff.mp hx).1
   omega
  ·obtain⟨_,hb⟩:=y;rw[List.getElem?_map]at hx
   cases ek:vs[i]? with
   | none=>rw[ek]at hx;cases hx
   | some kp =>
    rw[ek]at hx
    cases hx
    obtain⟨v',q1,q2⟩:=Paired.at hk ek;rw[hb]at q1
    cases q1
    exact q2 _ _
@[simp] def rC(f:DE):DI:=fun d m Q=>f d m fun x m1=>∃ kvs,x=.dat (eO kvs)/\Q (kvs.map fun kv=>.dat kv.1) m1
theorem FI(ha:PE X a (LE X.K f)):PI X tg a (LI X.K (rC f)):=by
 intro pins s σ H R I h;obtain⟨Z,d,m,ZZ,ok,rs,h,k⟩:=h;refine aS (ha pins s σ H (fun x H1=>∃ m1 kvs,RD X.K Z m1 H1 (.dat (eO kvs)) x/\ZZ (kvs.map fun kv=>.dat kv.1) m1/\Ext X.K Z m H m1 H1/\Ok X.K Z m1 H1) I
  ⟨Z,d,m,_,ok,rs,h,fun x m1 v H1 ⟨kvs,ex,q⟩ e1 ok1 rd=>by subst ex;exact⟨m1,kvs,rd,q,e1,ok1⟩⟩) fun u s1 ⟨x,H1,I1,r1,m1,kvs,rd,q,e1,ok1⟩=>?_
 obtain⟨c,o,un,vs,rfl,g1,g2,g3⟩:=rV rd;obtain rfl:u=Value.ref c:=r1;refine E2 (Z:=Z) (m1:=m1) I1 g1 g2 fun J hJ=>k _ _ _ _ q e1 ok1 ?_;have e:(kvs.map fun kv=>D.dat kv.1)=vs.map fun kv=>D.dat kv.1:=by
  have:=congrArg (List.map D.dat) g3.keys
  rw[List.map_map,List.map_map]at this;exact this.symm
 rw[e];exact hJ
theorem Ok.fd{K:ad}{Z:Addr->Prop}{m:Mu}{H:Hp}{a:Addr}{xs:List (aL×PyData)}(ok:Ok K Z m H)(h:m a=some (.fd xs)):∃ ob vs,H a=some (.frz ob (.dK vs))/\RKV K Z m H xs vs:=by
 obtain⟨o,h1,h2⟩:=ok.g a _ h
 cases o with
 | frz ob u=>cases u<;>first | exact⟨_,_,h1,h2⟩ | exact h2.elim
 | _=>exact h2.elim
end
def eM{α:Type}(e:Int)(xs:List α):List α:=(sliceRange (sliceBounds none none (some e) xs.length).1 (sliceBounds none none (some e) xs.length).2.1 (sliceBounds none none (some e) xs.length).2.2).filterMap (xs[·]?)
theorem Nt{α β:Type}{R:α->β->Prop}{xs:List α}{ys:List β}(hl:xs.length=ys.length)(h:∀ (i:Nat) x y,xs[i]?=some x->ys[i]?=some y->R x y)(F:List α->List β->Prop)(f0:F [] [])(f1:∀ x y l r,R x y->F l r->F (x::l) (y::r))(e:Int):F (eM e xs) (eM e ys):=by
 unfold eM;rw[<- hl]
 induction sliceRange (sliceBounds none none (some e) xs.length).1 (sliceBounds none none (some e) xs.length).2.1 (sliceBounds none none (some e) xs.length).2.2 with
 | nil=>exact f0
 | cons i L ih =>
  rw[List.filterMap_cons,List.filterMap_cons]
  cases q:xs[i]? with
  | none =>
   have:ys[i]?=none:=List.getElem?_eq_none (by rw[<- hl];exact List.getElem?_eq_none_iff.mp q)
   rw[this];exact ih
  | some x =>
   have lt:=(List.getElem?_eq_some_iff.mp q).1
   have e2:ys[i]?=some (ys[i]'#[0]):=List.getElem?_eq_getElem _
   rw[e2];exact f1 _ _ _ _ (h _ _ _ q e2) ih
theorem Oq(its:List Value)(e:Int):slicePick its.toArray none none (some e)=(eM e its).toArray:=by
 unfold slicePick eM;have:(fun x:Nat=>its.toArray[x]?)=fun x=>its[x]?:=by funext i;simp
 rw[ay,this]
theorem CW(its:List Value)(e:Int):(eM e its).length<=its.length:=by
 have:=slicePick_size_le its.toArray none none (some e)
 rw[Oq,ay,ay]at this;exact this
section
variable {X:Cx}{a e:Expr}{f g:DE}{pos p2:Pos}
@[simp] def vS(f g:DE):DE:=fun d m Q=>f d m fun x m1=>g d m1 fun y m2=>∃ (e:Int) (xs:List PyData),y=.dat (.int e)/\e≠0/\(x=.dat (.list xs)\/∃ c,x=.cel c/\m2 c=some (.l xs))/\Q (.dat (.list (eM e xs))) m2
theorem Q7(ha:PE X a (LE X.K f))(he:PE X e (LE X.K g)):PE X (.Subscript a (.Slice none none (some e) p2) pos) (LE X.K (vS f g)):=by
 intro pins s σ H Q I h;obtain⟨Z,d,m,R,ok,rs,h,kk⟩:=h;refine Subscript_ (aS (ha pins s σ H (fun x H1=>∃ dx m1,RD X.K Z m1 H1 dx x/\(g d m1 fun y m2=>∃ (e:Int) (xs:List PyData),y=.dat (.int e)/\e≠0/\(dx=.dat (.list xs)\/∃ c,dx=.cel c/\m2 c=some (.l xs))/\R (.dat (.list (eM e xs))) m2)/\Ext X.K Z m H m1 H1/\Ok X.K Z m1 H1) I
  ⟨Z,d,m,_,ok,rs,h,fun x m1 v H1 q e1 ok1 rd=>⟨x,m1,rd,q,e1,ok1⟩⟩) fun v s1 ⟨x,H1,I1,r1,dx,m1,rd,q,e1,ok1⟩=>?_)
 refine wpAny_Slice ?_;rw[evalPart_none];refine af (af ?_);rw[evalPart_some];refine aS (he pins s1 σ H1 (fun y H2=>∃ (n:Int) (xs:List PyData) (m2:Mu) (c:Addr) (vs:List V),y=.int n/\n≠0/\x=.ref c/\SqL X.K H2 c vs/\RPs X.K Z m2 H2 xs vs/\R (.dat (.list (eM n xs))) m2/\Ext X.K Z m1 H1 m2 H2/\Ok X.K Z m2 H2) I1
  ⟨Z,d,m1,_,ok1,rs.ext e1,q,fun y m2 w H2 ⟨n,xs,ey,h0,hx,q2⟩ e2 ok2 r2=>?_⟩) fun iv s2 ⟨y,H2,I2,ry,n,xs,m2,c,vs,ey,h0,ex,hsq,rp,q2,e2,ok2⟩=>?_
 ·subst ey;have rx:=rd.ext e2
  rcases hx with rfl | ⟨c,rfl,hm⟩
  ·simp only[RD,RP]at rx;obtain⟨c,vs,rfl,_,h1,h2⟩:=rx;exact⟨n,xs,m2,c,vs,r2.int,h0,rfl,h1,h2,q2,e2,ok2⟩
  ·obtain⟨o,h1,h2⟩:=ok2.g _ _ hm;obtain⟨rfl,_⟩:=rx
   cases o<;>first | exact⟨n,xs,m2,c,_,r2.int,h0,rfl,.inl (.inl h1),h2,q2,e2,ok2⟩ | exact h2.elim
 subst ey;subst ex;obtain⟨tk,rfl⟩:=ry;obtain rfl:v=Value.ref c:=r1;have I4:∀ t,Inv X pins σ H2 {s2 with heap:=s2.heap.push {cls:=.type "slice",data:=.fields #[.none,.none,.int n tk]},toks:=t}:=fun t=>I2.kept fun b ob q=>ah _ q
 obtain⟨its,r,ht,hz⟩:=(I4 s2.toks).list hsq;have hl:=r.length
 have hzz:its.toArray.size<=sizeLine:=by rw[ay];omega
 refine tail_any (ops:=[.ref c,.ref s2.heap.objs.size]) ht.isList.typeIs PySem.F.slot_list_getitem.lookup (wpAny_getItem_list_slice (s:={s2 with heap:=s2.heap.push {cls:=.type "slice",data:=.fields #[.none,.none,.int n tk]}}) ht.isList (Heap.IsSliceOf.new ..) .none .none (.int n tk) #[4,h0] ?_ hzz) (by with_unfolding_all rfl)
 rw[Oq];have hp:=(I4 s2.toks).hok.fresh (ak _)
 have sm:Same H2 (upd H2 (s2.heap.push {cls:=.type "slice",data:=.fields #[.none,.none,.int n tk]}).objs.size (.lst (eM n vs))):=cC hp
 refine⟨.ref _,upd H2 _ (.lst (eM n vs)),(I4 s2.toks).laid (t':=s2.toks) (fun b ob q=>ah _ q) (ak _) ?_,rfl,kk _ m2 _ _ q2 (e1.trans (e2.trans (ok2.ext sm))) (ok2.grow sm) ?_⟩
 ·have hv:Vals (eM n vs) (eM n its):=Nt (Vals.rel r).1 (Vals.rel r).2 (fun l r=>Vals l r) .nil (fun x y l r q1 q2=>.cons q1 q2) n
  exact⟨by rw[hv.length];exact Nat.le_trans (CW its n) #[0],_,0,hv,ai _ rfl⟩
 ·simp only[RD,RP];exact⟨_,_,rfl,eY ok2 hp,.inl (.inl cA),RPs.ext (ok2.ext sm) _ _ (Nt (RPs.rel rp).1 (RPs.rel rp).2 (fun l r=>RPs X.K Z m2 H2 l r) rfl (fun x y l r q1 q2=>⟨_,_,rfl,q1,q2⟩) n)⟩
end
mutual
theorem Ii{h h':Heap}(hk:∀ b o,h.get? b=some o->h'.get? b=some o):∀ (p:PyData) (v:Value) (as:List Addr),L2.isK p=true->Reads h v p as->Reads h' v p as
 | .int _,_,_,_,r=>by cases r;exact .int _ _
 | .str _,_,_,_,r=>by cases r;exact .str _ _
 | .tuple xs,_,_,hi,r=>by
  cases r with
  | tuple h1 h2 h3 h4=>exact .tuple (hk _ _ h1) h2 h3 (readsAll_old hk xs _ _ hi h4)
 | .none,_,_,h,_ | .bool _,_,_,h,_ | .list _,_,_,h,_ | .dict _,_,_,h,_=>by simp[L2.isK]at h
theorem readsAll_old{h h':Heap}(hk:∀ b o,h.get? b=some o->h'.get? b=some o):∀ (ps:List PyData) (vs:List Value) (as:List Addr),L2.isKs ps=true->ReadsAll h vs ps as->ReadsAll h' vs ps as
 | [],_,_,_,r=>by cases r;exact .nil
 | x::xs,_,_,hi,r=>by
  simp only[L2.isKs,Bool.and_eq_true]at hi
  cases r with
  | cons r1 r2=>exact .cons (Ii hk x _ _ hi.1 r1) (readsAll_old hk xs _ _ hi.2 r2)
end
section
variable {prog:Program}{w:World}{A:Around}{E:Value->Shared->Prop}{s:Shared}
theorem i4{h h':Heap}{k:List PyData}{a:Addr}(hk:∀ b o,h.get? b=some o->h'.get? b=some o)(x:(iH prog w).is h k a):(iH prog w).is h' k a:=by
 obtain⟨k1,k2,as,r⟩:=x;exact⟨k1,k2,as,Ii hk _ _ _ k1 r⟩
def Bx(acc r:List (List PyData×Addr×Value)):List (List PyData×Addr×Value):=r.foldl (fun acc kv=>storedH acc kv.1 kv.2.1 kv.2.2) acc
def RawN(prog:Program)(w:World)(hb h:Heap)(d:Addr)(xs:List (List PyData×Addr×Value)):Prop :=
 (∃ o es ep,h.get? d=some o/\o.ExactDict/\o.data=.dict es ep/\es.toList=xs.map (entryOfKey (iH prog w))/\(xs.map (·.1)).Nodup)/\∀ x∈xs,(iH prog w).is hb x.1 x.2.1
theorem RawN.of{hb h:Heap}{d:Addr}{xs:List (List PyData×Addr×Value)}(r:RawN prog w hb h d xs)(hk:∀ b o,hb.get? b=some o->h.get? b=some o):h.DictOfH (iH prog w) d xs:=by
 obtain⟨⟨o,es,ep,h1,h2,h3,h4,h5⟩,h6⟩:=r;exact⟨o,es,ep,h1,h2,h3,h4,fun x hx=>i4 hk (h6 x hx),h5⟩
theorem RawN.at{hb h h':Heap}{d:Addr}{xs:List (List PyData×Addr×Value)}(r:RawN prog w hb h d xs)(hk:∀ o,h.get? d=some o->h'.get? d=some o):RawN prog w hb h' d xs:=by
 obtain⟨⟨o,es,ep,h1,rest⟩,h6⟩:=r;exact⟨⟨o,es,ep,hk _ h1,rest⟩,h6⟩
end
section
variable {K:ad}{Z:Addr->Prop}{m:Mu}{H:Hp}
def Go(acc:List (List PyData×D))(r:List (List PyData×PyData)):List (List PyData×D):=r.foldl (fun acc kv=>rK acc kv.1 (.dat kv.2)) acc
def oQ(acc:List (List PyData×V))(r:List (List PyData×V)):List (List PyData×V):=r.foldl (fun acc kv=>cV acc kv.1 kv.2) acc
abbrev J9(kvs:List (List PyData×PyData)):List (List PyData×D):=kvs.map fun kv=>(kv.1,D.dat kv.2)
theorem RKW.puts:∀ {r:List (List PyData×PyData)} {ws:List (List PyData×V)} {acc:List (List PyData×D)} {aw:List (List PyData×V)},RKW K Z m H acc aw->RKW K Z m H (J9 r) ws->RKW K Z m H (Go acc r) (oQ aw ws)
 | [],ws,acc,aw,ha,hr=>by
  cases (show ws=[] from hr)
  exact ha
 | (k,p)::r,_,acc,aw,ha,⟨v,ws,h1,h2,h3⟩=>by
  subst h1;show RKW K Z m H (Go (rK acc k (.dat p)) r) (oQ (cV aw k v) ws)
  exact RKW.puts (ha.put h2) h3
theorem KN.puts{ws:List (List PyData×V)}{xs:List (List PyData×Addr×Value)}(t:KN K H ws xs):∀ {aw:List (List PyData×V)} {ax:List (List PyData×Addr×Value)},KN K H aw ax->KN K H (oQ aw ws) (Bx ax xs):=by
 induction t with
 | nil=>exact fun ha=>ha
 | @cons p q ps qs h t ih =>
  intro aw ax ha;obtain⟨h1,h2,h3⟩:=h;have:=KN.put ha p.1 (b:=q.2.1) h2 h3
  show KN K H (oQ (cV aw p.1 p.2) ps) (Bx (storedH ax q.1 q.2.1 q.2.2) qs)
  rw[<- h1];exact ih this
end
def gW(z:Int):Nat:=z.toNat%8
def yO(r:Nat):Nat:=(5*r+1)%8
def sl2:List Int->List Nat
 | [a,b]=>if gW a≠gW b then [gW a,gW b] else if gW a<yO (gW a) then [gW a,yO (gW a)] else [yO (gW a),gW a]
 | zs=>zs.map gW
def ok2(a b:Int):Bool:=decide (a≠b)&&(match sl2 [a,b] with | [i,j]=>decide (i<j) | _=>false)
open PySem PySem.W PyProof.Rows
section
variable {α β:Type}{n:Nat}{lt:Nat->Nat->Bool}
def fO(n:Nat)(lt:Nat->Nat->Bool):KasT α->(α->Prop)->Prop
 | .ret a,Q=>Q a
 | .ask i j k,Q=>i<n/\j<n/\fO n lt (k (lt i j)) Q
theorem mQ{f:α->KasT β}{Q:β->Prop}:∀ {t:KasT α},fO n lt t (fun a=>fO n lt (f a) Q)->fO n lt (t.bind f) Q
 | .ret a,h=>h
 | .ask i j k,⟨h1,h2,h⟩=>⟨h1,h2,mQ (t:=k (lt i j)) h⟩
theorem Hj{cmp:Nat->Nat->(Bool->Shared->Prop)->Shared->Prop}{I:Shared->Prop}
  (hc:∀ i j (C:Bool->Shared->Prop) s,i<n->j<n->I s->(∀ s',I s'->C (lt i j) s')->cmp i j C s) {Q:α->Prop} :
  ∀ {t:KasT α} {s:Shared},I s->fO n lt t Q->KasT.kasWp cmp t (fun a s'=>I s'/\Q a) s
 | .ret a,s,hs,h=>⟨hs,h⟩
 | .ask i j k,s,hs,⟨h1,h2,h⟩=>hc i j _ s h1 h2 hs fun s' hs'=>Hj hc (t:=k (lt i j)) hs' h
structure Ord (lt:Nat->Nat->Bool):Prop where
 irr:∀ a,lt a a=false
 tr:∀ {a b c},lt a b=true->lt b c=true->lt a c=true
 neg:∀ {a b c},lt a c=true->lt a b=true\/lt b c=true
theorem Ord.le_tr(O:Ord lt){a b c:Nat}(h1:lt b a=false)(h2:lt c b=false):lt c a=false:=by
 cases e:lt c a with
 | false=>rfl
 | true=>rcases O.neg (b:=b) e with h | h<;>simp_all
theorem Ord.asym(O:Ord lt){a b:Nat}(h:lt a b=true):lt b a=false:=by
 cases e:lt b a with
 | false=>rfl
 | true=>have:=O.tr h e;rw[O.irr]at this;exact this.symm
def Srt(lt:Nat->Nat->Bool)(p:Array Nat)(k:Nat):Prop:=∀ i j,i<j->j<k->lt (p.getD j 0) (p.getD i 0)=false
def Dsc(lt:Nat->Nat->Bool)(p:Array Nat)(k:Nat):Prop:=∀ i j,i<j->j<k->lt (p.getD i 0) (p.getD j 0)=false
def EqR(lt:Nat->Nat->Bool)(p:Array Nat)(m q:Nat):Prop:=∀ i j,m-(q+1)<=i->i<m->m-(q+1)<=j->j<m->lt (p.getD i 0) (p.getD j 0)=false
def Pm(n:Nat)(p:Array Nat):Prop:=p.toList.Perm (List.range n)
theorem Pm.size{p:Array Nat}(h:Pm n p):p.size=n:=by have:=h.length_eq;simpa using this
theorem Pm.at{p:Array Nat}(h:Pm n p)(hn:1<=n)(i:Nat):p.getD i 0<n:=by
 by_cases hi:i<p.size
 ·have:p.getD i 0∈p.toList:=by
   rw[Array.getD,dif_pos hi];exact Array.getElem_mem_toList hi
  exact List.mem_range.mp (h.mem_iff.mp this)
 ·rw[Array.getD,dif_neg hi];omega
theorem nM(p:Array Nat)(k:Nat):p.getD k 0=(p[k]?).getD 0:=by
 by_cases hk:k<p.size
 ·rw[Array.getD,dif_pos hk];simp[hk]
 ·rw[Array.getD,dif_neg hk];simp[hk]
theorem lK{p:Array Nat}{i j:Nat}(h:j<=p.size)(k:Nat):(kas_rev p i j).getD k 0=if i<=k/\k<j then p.getD (i+j-1-k) 0 else p.getD k 0:=by
 rw[nM,kas_rev,getElem?_mirror_all h k]
 by_cases c:i<=k/\k<j
 ·rw[if_pos c,if_pos c,nM]
 ·rw[if_neg c,if_neg c,nM]
theorem Pm.rev{p:Array Nat}(h:Pm n p)(i j:Nat):Pm n (kas_rev p i j):=(Array.perm_iff_toList_perm.mp (mirror_perm p i j _)).trans h
theorem Pm.bub{p:Array Nat}(h:Pm n p)(k d:Nat):Pm n (bubble p k d):=(Array.perm_iff_toList_perm.mp (bubble_perm p k d)).trans h
theorem On{p:Array Nat}{k d:Nat}(h:k<p.size)(hd:d<=k)(i:Nat):(bubble p k d).getD i 0=if i=k-d then p.getD k 0 else if k-d<i/\i<=k then p.getD (i-1) 0 else p.getD i 0:=by
 rw[nM,getElem?_bubble h d hd i];simp only[nM]
 split
 ·rfl
 ·split<;>rfl
variable (O:Ord lt)
include O
theorem Srt.snoc{p:Array Nat}{a:Nat}(h:Srt lt p a)(h1:1<=a)(hl:lt (p.getD a 0) (p.getD (a-1) 0)=false):Srt lt p (a+1):=by
 intro i j hi hj
 by_cases e:j<a
 ·exact h i j hi e
 ·obtain rfl:j=a:=by omega
  by_cases e2:i=j-1
  ·subst e2;exact hl
  ·exact O.le_tr (h i (j-1) #[0] #[0]) hl
theorem xB{p:Array Nat}(hp:∀ i,p.getD i 0<n):∀ (f a:Nat) (Q:Nat->Prop),1<=a->Srt lt p a ->
  (∀ m,a<=m->m<=a+f->Srt lt p m->(m=a+f\/lt (p.getD m 0) (p.getD (m-1) 0)=true)->Q m)->fO n lt (kas_asc p f a) Q
 | 0,a,Q,h1,hs,hq=>hq a (ak _) #[0] hs (.inl rfl)
 | f+1,a,Q,h1,hs,hq=>by
  refine⟨hp _,hp _,?_⟩
  cases c:lt (p.getD a 0) (p.getD (a-1) 0) with
  | true=>exact hq a (ak _) #[0] hs (.inr c)
  | false =>
   simp only[Bool.false_eq_true,if_false];refine xB hp f (a+1) Q #[0] (hs.snoc O h1 c) fun m h2 h3 h4 h5=>hq m #[0] #[0] h4 ?_
   rcases h5 with h5 | h5
   ·exact .inl #[0]
   ·exact .inr h5
theorem Dsc.rev{p:Array Nat}{m q k:Nat}(hd:Dsc lt p k)(he:EqR lt p m q)(hm:m<=p.size)(hq:q+1<=m):Dsc lt (kas_rev p (m-(q+1)) m) k:=by
 intro i j hi hj;rw[lK hm,lK hm]
 by_cases ci:m-(q+1)<=i/\i<m<;>by_cases cj:m-(q+1)<=j/\j<m
 ·rw[if_pos ci,if_pos cj];exact he _ _ #[0] #[0] #[0] #[0]
 ·rw[if_pos ci,if_neg cj];exact hd _ _ #[0] hj
 ·rw[if_neg ci,if_pos cj];have hb:∀ b,m-(q+1)<=b->b<m->lt (p.getD i 0) (p.getD j 0)=false->lt (p.getD i 0) (p.getD b 0)=false:=fun b b1 b2 h=>O.le_tr (he _ _ cj.1 cj.2 b1 b2) h
  exact hb _ #[0] #[0] (hd i j hi hj)
 ·rw[if_neg ci,if_neg cj];exact hd _ _ hi hj
theorem EqR.one{p:Array Nat}{m:Nat}:EqR lt p m 0:=by
 intro i j h1 h2 h3 h4;obtain rfl:i=j:=by omega
 exact O.irr _
theorem oK(hn:1<=n):∀ (f:Nat) (p:Array Nat) (a q:Nat) (Q:Array Nat×Nat×Nat->Prop),Pm n p->a+f<=n->q+1<=a->Dsc lt p a->EqR lt p a q ->
  (∀ p' m q',Pm n p'->a<=m->m<=a+f->q'+1<=m->Dsc lt p' m->EqR lt p' m q'->Q (p',m,q'))->fO n lt (kas_desc f p a q) Q
 | 0,p,a,q,Q,hp,hf,hq1,hd,he,hq=>hq p a q hp (ak _) #[0] hq1 hd he
 | f+1,p,a,q,Q,hp,hf,hq1,hd,he,hq=>by
  refine⟨hp.at hn _,hp.at hn _,?_⟩
  cases c:lt (p.getD a 0) (p.getD (a-1) 0) with
  | true =>
   have hd1:Dsc lt p (a+1):=by
    intro i j hi hj
    by_cases e:j<a
    ·exact hd i j hi e
    ·obtain rfl:j=a:=by omega
     by_cases e2:i=j-1
     ·subst e2;exact O.asym c
     ·exact O.le_tr (O.asym c) (hd i (j-1) #[0] #[0])
   simp only[if_true]
   split
   ·exact oK hn f _ (a+1) 0 Q (hp.rev _ _) #[0] #[0] (hd1.rev O he (by rw[hp.size];omega) hq1) (EqR.one O) fun p' m q' a1 a2 a3 a4 a5 a6=>hq p' m q' a1 #[0] #[0] a4 a5 a6
   ·exact oK hn f _ (a+1) 0 Q hp #[0] #[0] hd1 (EqR.one O) fun p' m q' a1 a2 a3 a4 a5 a6=>hq p' m q' a1 #[0] #[0] a4 a5 a6
  | false =>
   simp only[Bool.false_eq_true,if_false];refine⟨hp.at hn _,hp.at hn _,?_⟩
   cases d:lt (p.getD (a-1) 0) (p.getD a 0) with
   | true=>exact hq p a q hp (ak _) #[0] hq1 hd he
   | false =>
    simp only[Bool.false_eq_true,if_false];refine oK hn f p (a+1) (q+1) Q hp #[0] #[0] ?_ ?_ fun p' m q' a1 a2 a3 a4 a5 a6=>hq p' m q' a1 #[0] #[0] a4 a5 a6
    ·intro i j hi hj
     by_cases e:j<a
     ·exact hd i j hi e
     ·obtain rfl:j=a:=by omega
      by_cases e2:i=j-1
      ·subst e2;exact d
      ·exact O.le_tr d (hd i (j-1) #[0] #[0])
    ·intro i j h1 h2 h3 h4
     by_cases ei:i<a<;>by_cases ej:j<a
     ·exact he i j #[0] ei #[0] ej
     ·obtain rfl:j=a:=by omega
      exact O.le_tr d (he i (j-1) #[0] ei #[0] #[0])
     ·obtain rfl:i=a:=by omega
      exact O.le_tr (he (i-1) j #[0] #[0] #[0] ej) c
     ·obtain rfl:i=a:=by omega
      obtain rfl:j=i:=by omega
      exact O.irr _
theorem Srt.of_dsc{p:Array Nat}{m:Nat}(h:Dsc lt p m)(hm:m<=p.size):Srt lt (kas_rev p 0 m) m:=by
 intro i j hi hj;rw[lK hm,lK hm,if_pos ⟨Nat.zero_le _,hj⟩,if_pos ⟨Nat.zero_le _,by omega⟩]
 exact h _ _ #[0] #[0]
theorem Cm(hn:1<=n){p:Array Nat}{a:Nat}{Q:Nat×Array Nat->Prop}(hp:Pm n p)(h1:1<=a)(ha:a<=n)(hd:Dsc lt p a)
  (hq:∀ m p',Pm n p'->1<=m->m<=n->Srt lt p' m->Q (m,p')):fO n lt (kas_tail3 a n p) Q:=by
 refine mQ (xB O (fun i=>(hp.rev 0 a).at hn i) _ _ _ h1 (Srt.of_dsc O hd (by rw[hp.size];exact ha)) fun m h2 h3 h4 _=>hq m _ (hp.rev 0 a) #[0] #[0] h4)
theorem Cf(hn:1<=n){p:Array Nat}{a:Nat}{Q:Nat×Array Nat->Prop}(hp:Pm n p)(ha:a+1<=n)(hd:Dsc lt p (a+1))
  (hq:∀ m p',Pm n p'->1<=m->m<=n->Srt lt p' m->Q (m,p')):fO n lt (kas_descPart a n p) Q:=by
 refine mQ (oK O hn _ _ _ _ _ hp #[0] #[0] hd (EqR.one O) fun p' m q' h1 h2 h3 h4 h5 h6=>?_)
 simp only
 split
 ·exact Cm O hn (h1.rev _ _) #[0] #[0] (h5.rev O h6 (by rw[h1.size];omega) h4) hq
 ·exact Cm O hn h1 #[0] #[0] h5 hq
theorem y8(hn:1<=n){p:Array Nat}{Q:Nat×Array Nat->Prop}(hp:Pm n p)(hq:∀ m p',Pm n p'->1<=m->m<=n->Srt lt p' m->Q (m,p')):fO n lt (kas_count n p) Q:=by
 refine mQ (xB O (fun i=>hp.at hn i) _ _ _ (ak _) (fun i j hi hj=>by omega) fun m h1 h2 h3 h4=>?_)
 by_cases e:m=n
 ·subst e;simp only[beq_self_eq_true,if_true];exact hq m p hp h1 (ak _) h3
 ·rw[if_neg #[4,e]]
  have hc:lt (p.getD m 0) (p.getD (m-1) 0)=true:=h4.resolve_left #[0]
  by_cases g:m > 1
  ·rw[if_pos g];refine⟨hp.at hn _,hp.at hn _,?_⟩
   cases c:lt (p.getD 0 0) (p.getD (m-1) 0) with
   | true=>exact hq m p hp h1 #[0] h3
   | false =>
    simp only[Bool.false_eq_true,if_false];have le:∀ i j,i<=j->j<m->lt (p.getD j 0) (p.getD i 0)=false:=fun i j a b=>by
     rcases Nat.lt_or_ge i j with h | h
     ·exact h3 i j h b
     ·obtain rfl:i=j:=by omega
      exact O.irr _
    have all:∀ i j,i<m->j<m->lt (p.getD i 0) (p.getD j 0)=false:=fun i j hi hj=>by
     exact O.le_tr (O.le_tr (le j (m-1) #[0] #[0]) c) (le 0 i #[0] hi)
    refine Cf O hn (hp.rev 0 m) #[0] (fun i j hi hj=>?_) hq
    have hz:m<=p.size:=by rw[hp.size];omega
    rw[lK hz,lK hz]
    by_cases ej:j<m
    ·rw[if_pos ⟨Nat.zero_le _,by omega⟩,if_pos ⟨Nat.zero_le _,ej⟩];exact all _ _ #[0] #[0]
    ·obtain rfl:j=m:=by omega
     rw[if_pos ⟨Nat.zero_le _,hi⟩,if_neg #[0]]
     exact O.le_tr (O.asym hc) (all _ _ #[0] #[0])
  ·rw[if_neg g];obtain rfl:m=1:=by omega
   refine Cf O hn hp #[0] (fun i j hi hj=>?_) hq
   obtain rfl:j=1:=by omega
   obtain rfl:i=0:=by omega
   exact O.asym hc
theorem vV(hn:1<=n){p:Array Nat}{k:Nat}(hp:Pm n p)(hs:Srt lt p k){Q:Nat->Prop}
  (hq:∀ l,l<=k->(∀ i,i<l->lt (p.getD k 0) (p.getD i 0)=false)->(∀ i,l<=i->i<k->lt (p.getD k 0) (p.getD i 0)=true)->Q l) :
  ∀ f l r,l<=r->r<=k->r-l<=f->(∀ i,i<l->lt (p.getD k 0) (p.getD i 0)=false)->(∀ i,r<=i->i<k->lt (p.getD k 0) (p.getD i 0)=true)->fO n lt (kas_place p k f l r) Q
 | 0,l,r,h1,h2,h3,a,b=>by
  obtain rfl:l=r:=by omega
  exact hq l h2 a b
 | f+1,l,r,h1,h2,h3,a,b=>by
  show fO n lt (if l ≥ r then KasT.ret l else _) Q
  split
  ·obtain rfl:l=r:=by omega
   exact hq l h2 a b
  ·refine⟨hp.at hn _,hp.at hn _,?_⟩;have le:∀ i j,i<=j->j<k->lt (p.getD j 0) (p.getD i 0)=false:=fun i j a b=>by
    rcases Nat.lt_or_ge i j with h | h
    ·exact hs i j h b
    ·obtain rfl:i=j:=by omega
     exact O.irr _
   cases c:lt (p.getD k 0) (p.getD ((l+r) / 2) 0) with
   | true =>
    simp only[if_true];refine vV hn hp hs hq f l _ #[0] #[0] #[0] a fun i hi hk=>?_
    rcases O.neg (b:=p.getD i 0) c with h | h
    ·exact h
    ·rw[le _ _ hi hk]at h;cases h
   | false =>
    simp only[Bool.false_eq_true,if_false];exact vV hn hp hs hq f _ r #[0] h2 #[0] (fun i hi=>O.le_tr (le i _ #[0] #[0]) c) b
theorem Rh(hn:1<=n):∀ (f:Nat) (p:Array Nat) (k:Nat) (Q:Array Nat->Prop),Pm n p->k+f<=n->Srt lt p k->(∀ p',Pm n p'->Srt lt p' (k+f)->Q p')->fO n lt (kas_bin f p k) Q
 | 0,p,k,Q,hp,hk,hs,hq=>hq p hp hs
 | f+1,p,k,Q,hp,hk,hs,hq=>by
  refine mQ (vV O hn hp hs (fun l hl a b=>?_) k 0 k (Nat.zero_le _) (ak _) #[0] (fun i hi=>by omega) (fun i h1 h2=>by omega))
  have hz:k<p.size:=by rw[hp.size];omega
  refine Rh hn f _ (k+1) Q (hp.bub _ _) #[0] (fun i j hi hj=>?_) fun p' h1 h2=>hq p' h1 (by rw[show k+(f+1)=k+1+f by omega];exact h2)
  rw[On hz #[0],On hz #[0],show k-(k-l)=l by omega]
  by_cases i1:i=l
  ·subst i1;rw[if_neg (by omega:¬ j=i),if_pos ⟨hi,by omega⟩,if_pos rfl]
   exact O.asym (b (j-1) #[0] #[0])
  ·rw[if_neg i1]
   by_cases i2:i<l
   ·rw[if_neg (by omega:¬ (l<i/\i<=k))]
    by_cases j1:j=l
    ·rw[if_pos j1];exact a i i2
    ·rw[if_neg j1]
     by_cases j2:l<j/\j<=k
     ·rw[if_pos j2];rcases Nat.lt_or_ge i (j-1) with h | h
      ·exact hs i (j-1) h #[0]
      ·omega
     ·rw[if_neg j2];exact hs i j hi #[0]
   ·rw[if_neg (by omega:¬ j=l),if_pos ⟨by omega,by omega⟩,if_pos ⟨by omega,by omega⟩]
    exact hs (i-1) (j-1) #[0] #[0]
theorem S7(hn:1<=n):fO n lt (kas_sort n) fun p=>Pm n p/\Srt lt p n:=by
 refine mQ (y8 O hn (p:=(List.range n).toArray) (by simp[Pm]) fun m p' h1 h2 h3 h4=>?_)
 simp only
 split
 ·have e:max m 1=m:=by omega
  rw[e];exact Rh O hn _ _ _ _ h1 #[0] h4 fun p2 a b=>⟨a,by rw[show m+(n-m)=n by omega]at b;exact b⟩
 ·obtain rfl:m=n:=by omega
  exact⟨h1,h4⟩
end
def jI(h:Heap)(v:Value)(z:Str×Str):Prop:=∃ b o t u n,v=.ref b/\h.get? b=some o/\o.cls=.type "tuple"/\o.data=.seq #[.str z.1 t,.str z.2 u] n
def gP(zs:List (Str×Str))(i j:Nat):Bool:=decide ((zs.getD i ("","")).1.cps.toList<(zs.getD j ("","")).1.cps.toList)
theorem EH(zs:List (Str×Str)):DL.Ord (gP zs) where
 irr:=fun a=>by unfold gP;simpa using List.lt_irrefl _
 tr:=fun {a b c} h1 h2=>by unfold gP at *;simp only[decide_eq_true_eq]at *;exact List.lt_trans h1 h2
 neg:=fun {a b c} h=>by
  unfold gP at *;simp only[decide_eq_true_eq]at *
  by_cases hab:(zs.getD a ("","")).1.cps.toList<(zs.getD b ("","")).1.cps.toList
  ·exact .inl hab
  ·exact .inr (List.lt_of_le_of_lt (List.not_lt.mp hab) h)
section
variable {P:Program}{w:World}{A:Around}{E:Value->Shared->Prop}{s:Shared}
theorem Xg{x y:Value}{z1 z2:Str×Str}{C:Bool->Shared->Prop}(hx:jI s.heap x z1)(hy:jI s.heap y z2)(he:z1.1=z2.1->z1.2=z2.2)(h:C (decide (z1.1.cps.toList<z2.1.cps.toList)) s) :
  wpAny (model P w) A (keyLt' (tuples' true) x y) C (fun _ _=>False) s:=by
 obtain⟨b1,o1,t1,u1,n1,rfl,g1,c1,d1⟩:=hx;obtain⟨b2,o2,t2,u2,n2,rfl,g2,c2,d2⟩:=hy;refine PySem.W.kat_lt g1 d1 g2 d2 ?_;show PySem.W.KatLex P w A true _ C [(Value.str z1.1 t1,Value.str z2.1 t2),(Value.str z1.2 u1,Value.str z2.2 u2)] 0 s
 refine PySem.W.kat_cons (eqBool_str (PySem.W.kat_go (fun e=>PySem.W.kat_yes (PySem.W.kat_cons (eqBool_str (PySem.W.kat_go (fun e2=>PySem.W.kat_yes (PySem.W.kat_nil ?_)) fun e2=>?_)))) fun e=>PySem.W.kat_no (oneLt_str h)))
 ·have:z1.1=z2.1:=by simpa using e
  rw[this,show decide (z2.1.cps.toList<z2.1.cps.toList)=false by simpa using List.lt_irrefl _]at h
  exact h
 ·have:z1.1=z2.1:=by simpa using e
  rw[he this]at e2;simp at e2
theorem Ko{h:Heap}:∀ {vs:List Value} {zs:List (Str×Str)},Paired (fun v z=>jI h v z) vs zs->∃ fs,PySem.W.KatTups h vs fs/\fs.length=vs.length/\∀ v∈fs,∃ x t,v=Value.str x t
 | _,_,.nil=>⟨[],PySem.W.KatTups.nil,rfl,fun _ h=>nomatch h⟩
 | _,_,.cons hq r=>by
  obtain⟨fs,f1,f2,f3⟩:=Ko r;obtain⟨b,o,t,u,n,rfl,g,c,d⟩:=hq;refine⟨_::fs,PySem.W.KatTups.cons g c d rfl f1,by simp[f2],fun v hv=>?_⟩
  rcases List.mem_cons.mp hv with rfl | hv
  ·exact⟨_,_,rfl⟩
  ·exact f3 v hv
theorem M3{h:Heap}{vs:List Value}{zs:List (Str×Str)}(r:Paired (fun v z=>jI h v z) vs zs):vs.length=zs.length/\∀ i,i<vs.length->jI h (vs.getD i Value.none) (zs.getD i ("","")):=by
 induction r with
 | nil=>exact⟨rfl,fun i hi=>absurd hi (Nat.not_lt_zero _)⟩
 | cons hq r ih =>
  refine⟨by simp[ih.1],fun i hi=>?_⟩
  cases i with
  | zero=>simpa using hq
  | succ i=>simpa using ih.2 i #[4,hi]
theorem yX{zs:List (Str×Str)}(nd:(zs.map (·.1)).Nodup){i j:Nat}(hi:i<zs.length)(hj:j<zs.length)(e:(zs.getD i ("","")).1=(zs.getD j ("","")).1):i=j:=by
 have nd:=List.pairwise_iff_getElem.mp nd
 have e:zs[i].1=zs[j].1:=by simpa[hi,hj] using e
 rcases Nat.lt_trichotomy i j with h | h | h
 ·exact absurd e (by have:=nd i j #[4,hi] #[4,hj] h;rwa [List.getElem_map,List.getElem_map]at this)
 ·exact h
 ·exact absurd e.symm (by have:=nd j i #[4,hj] #[4,hi] h;rwa [List.getElem_map,List.getElem_map]at this)
theorem Uu{a:Addr}{vs:List Value}{zs:List (Str×Str)}{n:Nat}{Pf:Fin->Shared->Prop}(ho:s.heap.get? a=some (seqObj "list" vs.toArray n))(ht:Paired (fun v z=>jI s.heap v z) vs zs)(nd:(zs.map (·.1)).Nodup)(h64:vs.length<64)
  (h:∀ p:Array Nat,Pm vs.length p->Srt (gP zs) p vs.length->Pf (.done (.ret .none)) {s with heap:=sortedHeap s.heap a vs (p.toList.map fun i=>vs.getD i Value.none).toArray}) :
  wpAny (model P w) A (Builtin.«list.sort» ⟨[.ref a],[]⟩) Pf E s:=by
 rw[list_sort_plain];have ha:a<s.heap.objs.size:=ag ho
 refine ae (listItems_at ho rfl ?_);refine ae (listUpdate_at ho rfl ?_);obtain⟨e1,ho1⟩:∃ e1,(s.heap.update a (Obj.mapSeq fun _=>#[])).get? a=some (seqObj "list" #[] e1):=⟨_,get?_update_seq ho (fun _=>#[])⟩;refine ae (seqEpoch_at ho1 rfl ?_);refine ae (wpAny_newTuple ?_);refine ae (wpAny_newList ?_);refine wpAny_holding ?_;obtain⟨h3,eh3⟩:∃ h3,h3=((s.heap.update a (Obj.mapSeq fun _=>#[])).push (seqObj "tuple" vs.toArray 0)).push (seqObj "list" #[] 0):=⟨_,rfl⟩;have ho6:h3.get? a=some (seqObj "list" #[] e1):=by
  rw[eh3,Heap.get?_push_ne _ _ _ (by rw[size_push',Heap.size_update];exact ao (Nat.lt_succ_of_lt ha)),Heap.get?_push_ne _ _ _ (by rw[Heap.size_update];exact ao ha)]
  exact ho1
 have old:∀ b o,b≠a->s.heap.get? b=some o->h3.get? b=some o:=fun b o hb e=>by
  rw[eh3];refine ah _ (ah _ ?_);rw[Heap.get?_update_other _ _ (Ne.symm hb)];exact e
 show wpAny (model P w) A _ Pf E {s with heap:=((s.heap.update a (Obj.mapSeq fun _=>#[])).push (seqObj "tuple" vs.toArray 0)).push (seqObj "list" #[] 0)}
 rw[<- eh3];dsimp only;have hsz:vs.toArray.size=vs.length:=by simp
 have fin:∀ p:Array Nat,Pm vs.length p->Srt (gP zs) p vs.length->Pf (.done (.ret .none)) {s with heap:=h3.update a (Obj.mapSeq fun _=>(p.toList.map fun i=>vs.getD i Value.none).toArray)}:=fun p q1 q2=>by rw[eh3];exact h p q1 q2
 by_cases h2:vs.toArray.size<2
 ·rw[if_pos h2,if_pos h2];refine ae (af ?_);rw[StateT.run_pure];refine ae (af ?_);dsimp only;refine ae (seqEpoch_at ho6 rfl ?_);refine ae (listUpdate_at ho6 rfl ?_ (hsz2:=by rw[Array.size_map];show(pairsOf vs).size<=_;rw[pairsOf_size,sizeLine_eq];omega))
  simp only[bne_self_eq_false,Bool.false_eq_true,if_false];have e0:(arrOf (SortSt.mk' general' (vs.toArray.zip vs.toArray) #[] 7 none)).map (·.2)=((List.range vs.length).toArray.toList.map fun i=>vs.getD i Value.none).toArray:=by
   show(vs.toArray.zip vs.toArray).map (·.2)=_
   apply Array.toList_inj.mp
   rw[Array.toList_map,Array.toList_zip];refine List.ext_getElem #[2] fun i i1 i2=>?_
   have:i<vs.length:=by simpa using i1
   simp[this]
  have q:=fin (List.range vs.length).toArray (by simp[Pm]) (fun i j hij hj=>by omega)
  rw[<- e0]at q;exact af q
 ·rw[if_neg h2,if_neg h2];have h2':2<=vs.length:=by omega
  have ht3:Paired (fun v z=>jI h3 v z) vs zs:=Paired.mapP ht fun v z hq=>by
   obtain⟨b,o,t,u,n',rfl,g,c,d⟩:=hq;refine⟨b,o,t,u,n',rfl,old b o ?_ g,c,d⟩;rintro rfl;rw[ho]at g
   cases g
   exact absurd c (by simp[seqObj])
  obtain⟨fs,f1,f2,f3⟩:=Ko ht3;obtain⟨l1,l2⟩:=M3 ht3;refine ae (PySem.W.kat_kind (s:={s with heap:=h3}) (T:=.type "str") f1 #[0] (fun v hv=>?_) #[1] ?_)
  ·obtain⟨x,t,rfl⟩:=f3 v hv;exact PySem.W.Looks.now
  show wpAny _ _ _ _ _ {s with heap:=h3}
  refine ae (wpAny_mono (PySem.W.kat_run (κ:=tuples' true) (ks:=vs) (vs:=vs) (E:=E) (Q:=fun st' s'=>s'={s with heap:=h3}/\∃ p:Array Nat,arrOf st'=p.map (PySem.W.kas_item (vs.toArray.zip vs.toArray))/\failedOf st'=none/\Pm vs.length p/\Srt (gP zs) p vs.length) (G:=fun p s'=>s'={s with heap:=h3}/\Pm vs.length p/\Srt (gP zs) p vs.length)
   rfl h2' h64 (fun p' st' s' a1 a2 a3 a4=>⟨a4.1,p',a2,a3,a4.2⟩) ?_) ?_ fun _ _ e=>e)
  ·refine Hj (n:=vs.length) (lt:=gP zs) (I:=fun s'=>s'={s with heap:=h3}) (fun i j C s' hi hj hs hC=>?_) rfl (S7 (EH zs) #[0])
   subst hs;show wpAny _ _ (keyLt' (tuples' true) (vs.getD i Value.none) (vs.getD j Value.none)) _ _ _
   refine Xg (l2 i hi) (l2 j hj) (fun e=>?_) (hC _ rfl);rw[yX nd #[0] #[0] e]
  ·rintro⟨⟨⟩,st'⟩ s' ⟨rfl,p,har,hf,q1,q2⟩;dsimp only;have hout:=PySem.W.kat_snds rfl har
   rw[hout];have hs2:((p.toList.map fun i=>vs.getD i Value.none).toArray).size=vs.length:=by simp[q1.size]
   refine ae (seqEpoch_at ho6 rfl ?_);refine ae (listUpdate_at ho6 rfl ?_ (hsz2:=Nat.le_trans (Nat.le_of_eq hs2) (by rw[sizeLine_eq];omega)))
   rw[hf];simp only[bne_self_eq_false,Bool.false_eq_true,if_false];exact af (fin p q1 q2)
end
theorem Og{K:ad}{Z:Addr->Prop}{m:Mu}{H:Hp}{ps:List PyData}{vs:List V}(h:RPs K Z m H ps vs):∀ p:List Nat,(∀ i∈p,i<ps.length)->RPs K Z m H (p.map fun i=>ps.getD i .none) (p.map fun i=>vs.getD i .non)
 | [],_=>by simp[RPs]
 | i::p,hp=>by
  have hi:=hp i List.mem_cons_self
  obtain⟨v,h1,h2⟩:=h.get (List.getElem?_eq_getElem hi);simp only[au,RPs];refine⟨_,_,rfl,?_,Og h p fun j hj=>hp j (aq _ hj)⟩;rw[List.getD_eq_getElem?_getD,List.getD_eq_getElem?_getD,h1,List.getElem?_eq_getElem hi];exact h2
theorem Ln{vs:List V}{us:List Value}(h:Vals vs us):∀ p:List Nat,(∀ i∈p,i<vs.length)->Vals (p.map fun i=>vs.getD i .non) (p.map fun i=>us.getD i Value.none)
 | [],_=>.nil
 | i::p,hp=>by
  have hi:=hp i List.mem_cons_self
  obtain⟨v,h1,h2⟩:=Vals.get h (List.getElem?_eq_getElem hi);refine .cons ?_ (Ln h p fun j hj=>hp j (aq _ hj));show RelV (vs.getD i .non) (us.getD i Value.none)
  rw[List.getD_eq_getElem?_getD,List.getD_eq_getElem?_getD,h1,List.getElem?_eq_getElem hi];exact h2
abbrev fJ(z:Str×Str):PyData:=.tuple [.str z.1,.str z.2]
theorem Kz{X:Cx}{pins:List (Addr×Obj)}{σ:L2.St}{H:Hp}{s:Shared}{Z:Addr->Prop}{m:Mu}(I:Inv X pins σ H s):∀ {zs:List (Str×Str)} {vs:List V} {us:List Value},RPs X.K Z m H (zs.map fJ) vs->Vals vs us->Paired (fun v z=>jI s.heap v z) us zs
 | [],_,_,h,r=>by
  simp only[List.map_nil,RPs]at h;subst h
  cases r
  exact .nil
 | z::zs,_,_,h,r=>by
  simp only[au,RPs]at h;obtain⟨v,vr,rfl,h1,h2⟩:=h
  cases r with
  | cons rv r =>
   refine .cons ?_ (Kz I h2 r);simp only[RP]at h1;obtain⟨a,ws,rfl,hs,w1,r1,rfl,e1,w2,r2,rfl,e2,e3⟩:=h1;subst e1 e2 e3
   cases rv
   obtain⟨its,rs,⟨o,g1,g2,n,g3⟩,_⟩:=I.tuple hs
   cases rs with
   | cons q1 rs =>
    cases rs with
    | cons q2 rs =>
     cases rs
     obtain⟨t1,rfl⟩:=q1;obtain⟨t2,rfl⟩:=q2;exact⟨a,o,t1,t2,n,rfl,g1,g2,g3⟩
theorem l4{zs:List (Str×Str)}{i:Nat}(hi:i<zs.length):(zs.map fJ).getD i .none=fJ (zs.getD i ("","")):=by simp[hi]
section
variable {X:Cx}
@[simp] def rO:DC
 | [.dat (.list ps)],m,Q=>∃ zs:List (Str×Str),ps=zs.map fJ/\zs.length<64/\(zs.map (·.1)).Nodup/\∀ ys:List (Str×Str),ys.Perm zs->ys.Pairwise (fun a b=>a.1.cps.toList<b.1.cps.toList)->Q (.dat (.list (ys.map fJ))) m
 | _,_,_=>False
theorem Xm:CallD X (.builtin "sorted") rO:=by
 intro pins s σ H Z m xs ds us R Q I ok rv rd h k;unfold rO at h
 split at h
 ·obtain⟨v,rfl,r1⟩:=rd.one;obtain⟨zs,rfl,hl,nd,hh⟩:=h;simp only[RD,RP]at r1;obtain⟨a,vs,rfl,h0,h1,h2⟩:=r1;obtain⟨u,rfl,ru⟩:=eR rv
  cases ru
  obtain⟨its,r',⟨o,n,ho,hc,hdn,hd⟩,hz⟩:=I.list h1;have hlen:=r'.length
  have hlen2:vs.length=zs.length:=by have:=h2.length;simpa using this
  have vl:its.length<64:=by omega
  refine Calls.call_function_entry kind_sorted plain_sorted entry_sorted (args_sorted1 _) ?_;unfold Builtin.«sorted»;refine ae (m:=checkCount "sorted" 1 1 _) (af ?_);refine ae (wpAny_collect_seq a (.inl rfl) ho hc hd (fun h1 k1=>?_) (by rw[ay,sizeLine_eq];omega))
  rw[List.toList_toArray];refine ae (wpAny_newList ?_);have I1:Inv X pins σ H {s with heap:=h1,toks:=s.toks}:=I.kept k1
  obtain⟨hp2,eh2⟩:∃ hp2,hp2=h1.push (seqObj "list" its.toArray 0):=⟨_,rfl⟩;have hoL:hp2.get? h1.objs.size=some (seqObj "list" its.toArray 0):=by rw[eh2];exact ai _ rfl
  have hp:Paired (fun v z=>jI hp2 v z) its zs:=Paired.mapP (Kz I1 h2 r') fun v z hq=>by
   obtain⟨b,o,t,u,n',rfl,g,c,d⟩:=hq;exact⟨b,o,t,u,n',rfl,by rw[eh2];exact ah _ g,c,d⟩
  show wpAny _ _ _ _ _ {s with heap:=h1.push (seqObj "list" its.toArray 0)}
  rw[<- eh2];refine ae (wpAny_holding (wpAny_call_entry slot_list_sort ⟨_,hoL,rfl⟩ entry_list_sort (Uu (s:={s with heap:=hp2}) hoL hp nd vl fun p q1 q2=>⟨_,rfl,?_⟩) (args_list_sort _)));obtain⟨e',he⟩:=sortedHeap_at (h:=hp2) (a:=h1.objs.size) (vs:=its) (n:=0) (out:=(p.toList.map fun i=>its.getD i Value.none).toArray) hoL;refine af ⟨_,rfl,?_⟩;have pin:∀ i∈p.toList,i<its.length:=fun i hi=>List.mem_range.mp (q1.mem_iff.mp hi)
  have hv:=Ln r' p.toList fun i hi=>by have:=pin i hi;omega
  have hrp:=Og h2 p.toList fun i hi=>by have:=pin i hi;simp;omega
  have hf:H h1.objs.size=none:=I1.hok.fresh (ak _)
  have pl:p.toList.length=its.length:=by have:=q1.size;simpa using this
  have I2:=I1.laid (t':=s.toks) (h':=sortedHeap hp2 h1.objs.size its (p.toList.map fun i=>its.getD i Value.none).toArray) (a:=h1.objs.size) (o:=.lst (p.toList.map fun i=>vs.getD i .non)) (fun b ob hb=>by
   have lb:b<h1.objs.size:=ag hb
   rw[sortedHeap_old (ao lb) (by rw[eh2,Heap.size_push];exact Nat.lt_succ_of_lt lb),eh2]
   exact ah _ hb) (ak _) ⟨by rw[av,pl,sizeLine_eq];omega,_,e',hv,he⟩
  have sm:Same H (upd H h1.objs.size (.lst (p.toList.map fun i=>vs.getD i .non))):=cC hf
  have ey:(p.toList.map fun i=>(zs.map fJ).getD i .none)=(p.toList.map fun i=>zs.getD i ("","")).map fJ:=by
   rw[List.map_map];exact List.map_congr_left fun i hi=>l4 (by have:=pin i hi;omega)
  have pm:(p.toList.map fun i=>zs.getD i ("","")).Perm zs:=by
   have e1:(List.range its.length).map (fun i=>zs.getD i ("",""))=zs:=by
    refine List.ext_getElem (by simp;omega) fun i i1 i2=>?_
    simp[i2]
   have:=List.Perm.map (fun i=>zs.getD i ("","")) q1
   rw[e1]at this;exact this
  have pw:(p.toList.map fun i=>zs.getD i ("","")).Pairwise (fun a b=>a.1.cps.toList<b.1.cps.toList):=by
   have nd2:p.toList.Nodup:=q1.nodup_iff.mpr List.nodup_range
   rw[List.pairwise_map];refine List.pairwise_iff_getElem.mpr fun i j hi hj hij=>?_;have w:=q2 i j hij #[0]
   have g1:p.getD i 0=p.toList[i]:=by simp[Array.getD,show i<p.size by simpa using hi]
   have g2:p.getD j 0=p.toList[j]:=by simp[Array.getD,show j<p.size by simpa using hj]
   rw[g1,g2]at w;unfold gP at w;have w:=List.not_lt.mp (of_decide_eq_false w)
   have ne:p.toList[i]≠p.toList[j]:=List.pairwise_iff_getElem.mp nd2 i j hi hj hij
   rcases Classical.em ((zs.getD p.toList[i] ("","")).1.cps.toList<(zs.getD p.toList[j] ("","")).1.cps.toList) with c | c
   ·exact c
   ·have:=List.le_antisymm w (List.not_lt.mp c)
    refine absurd (yX nd (by have:=pin _ (List.getElem_mem hi);omega) (by have:=pin _ (List.getElem_mem hj);omega) ?_) ne
    generalize (zs.getD p.toList[i] ("","")).1=x at this
    generalize (zs.getD p.toList[j] ("","")).1=y at this
    obtain⟨⟨x⟩⟩:=x;obtain⟨⟨y⟩⟩:=y;simp only at this;rw[this]
  refine⟨.ref _,_,I2,rfl,k _ m _ _ (hh _ pm pw) (ok.ext sm) (ok.grow sm) ?_⟩;simp only[RD,RP];refine⟨_,_,rfl,eY ok hf,.inl (.inl cA),?_⟩;rw[<- ey];exact RPs.ext (ok.ext sm) _ _ hrp
 ·exact h.elim
end
theorem D5:isSubtype (.type "dict") (.type "dict")=pure true:=by first | exact PySem.F.sub_dict_dict | decide +kernel | rfl
theorem Yc:isSubtype (.type "dict_values") (.type "dict_values")=pure true:=by first | decide +kernel | rfl
section
variable {P:Program}{w:World}{A:Around}{E:Value->Shared->Prop}{s:Shared}
theorem Sa{S:Addr}{T:String}{Q:Bool->Shared->Prop}(hTT:T="dict"\/T="dict_values")(hT:s.TypeIs (.ref S) T)(h:Q false s):wpAny (model P w) A (Builtin.List.listLengthHint (.ref S)) Q E s:=by
 unfold Builtin.List.listLengthHint;rcases hTT with rfl | rfl
 ·refine ae (wpAny_specialOf hT PySem.F.slot_dict_len.lookup ?_);dsimp only;rw[show splitId "dict.__len__"=some ("dict","__len__") by decide +kernel]
  dsimp only;refine ae (wpAny_isInstance (b:=true) hT D5 ?_);rw[if_neg #[2],if_pos #[3]]
  refine ae (wpAny_typeOf hT ?_);exact af h
 ·refine ae (wpAny_specialOf hT PySem.F.slot_dict_values_len.lookup ?_);dsimp only;rw[show splitId "dict_values.__len__"=some ("dict_values","__len__") by decide +kernel]
  dsimp only;refine ae (wpAny_isInstance (b:=true) hT Yc ?_);rw[if_neg #[2],if_pos #[3]]
  refine ae (wpAny_typeOf hT ?_);exact af h
theorem zS{S D:Addr}{T:String}{oS oD iobj:Obj}{n:Nat}{Pv:Nat->Value->Prop}{St:Addr->Nat->Heap->Prop}{Q:List Value->Shared->Prop}(hh:A.handled=none)(hoS:s.heap.get? S=some oS)(hcS:oS.cls=.type T)(hTT:T="dict"\/T="dict_values")(hoD:s.heap.get? D=some oD)(hfr:iobj.isFreed=false)(hn:n<=sizeLine)
  (it:∀ (h1:Heap) (B:Around) (E':Value->Shared->Prop) (Q:Value->Shared->Prop),(∀ b ob,s.heap.get? b=some ob->h1.get? b=some ob)->Q (.ref h1.objs.size) {s with heap:=h1.push iobj}->wpAny (model P w) B (pyIter (.ref S)) Q E' {s with heap:=h1})
  (walk:∀ (B:Around) (I:Addr),B.handled=none->D≠I->Walks P w B I [I,D] [I] n Pv (St I)) (st0:∀ (h:Heap) (I:Addr),h.get? I=some iobj->h.get? D=some oD->St I 0 h)
  (h:∀ s' acc,ItemsOf Pv acc n->(∀ b ob,s.heap.get? b=some ob->s'.heap.get? b=some ob)->s.heap.objs.size<s'.heap.objs.size->s'.gens=s.gens->s'.os=s.os->Q acc.toList s'):wpAny (model P w) A (collect (.ref S)) Q E s:=by
 have gP:S<s.heap.objs.size:=ag hoS
 have ltD:D<s.heap.objs.size:=ag hoD
 have neL:s.heap.objs.size≠S:=Nat.ne_of_gt gP
 unfold collect;refine ae (wpAny_runValue (codeAny_builtin PySem.F.entry_proto_collect ?_));rw[Around.under_plainId PySem.F.plain_proto_collect _];show wpAny _ A.in1 (newList []>>=fun l=>again (.builtin "list.__iadd__" ⟨[l,.ref S],[]⟩)) _ _ s
 refine ae (wpAny_newObj_type ?_);refine af ⟨plainId_quiet PySem.F.plain_list_iadd _,codeAny_builtin PySem.F.entry_list_iadd ?_⟩;rw[Around.under_plainId PySem.F.plain_list_iadd _];obtain⟨h1,eh1⟩:∃ h1,h1=s.heap.push {cls:=.type "list",data:=.seq ([]:List Value).toArray}:=⟨_,rfl⟩;rw[<- eh1];have k1:∀ b ob,s.heap.get? b=some ob->h1.get? b=some ob:=fun b ob e=>by rw[eh1];exact ah _ e
 have hL1:h1.get? s.heap.objs.size=some {cls:=.type "list",data:=.seq ([]:List Value).toArray}:=by rw[eh1];exact ai _ rfl
 have sz1:h1.objs.size=s.heap.objs.size+1:=by rw[eh1,Heap.size_push]
 have hT1:Shared.TypeIs {s with heap:=h1} (.ref S) T:=⟨oS,k1 S oS hoS,hcS⟩
 show wpAny _ A.in1 (Builtin.List.listExtendWith (.ref s.heap.objs.size) (.ref S) (.ref s.heap.objs.size)) _ _ _
 unfold Builtin.List.listExtendWith;refine ae (wpAny_typeOf hT1 ?_);have c1:Builtin.List.listSameRef (.ref s.heap.objs.size) (.ref S)=false:=by simp[Builtin.List.listSameRef,neL]
 have c2:(Builtin.List.listSameRef (.ref s.heap.objs.size) (.ref S)||Value.type T==Value.type "list" || Value.type T==Value.type "tuple")=false:=by
  rw[c1];rcases hTT with rfl | rfl<;>decide
 rw[c2,if_neg #[1]]
 refine ae (it h1 _ _ _ k1 ?_);have eI:∀ b ob,h1.get? b=some ob->(h1.push iobj).get? b=some ob:=fun b ob e=>ah _ e
 have hT2:Shared.TypeIs {s with heap:=h1.push iobj} (.ref S) T:=⟨oS,eI S oS (k1 S oS hoS),hcS⟩
 refine ae (wpAny_holding (Sa hTT hT2 ?_));rw[if_pos (by rcases hTT with rfl | rfl<;>decide +kernel)]
 refine ae (wpAny_rule ?_);have hL2:(h1.push iobj).get? s.heap.objs.size=some {cls:=.type "list",data:=.seq ([]:List Value).toArray}:=eI _ _ hL1
 refine ae ?_;show wpAny _ A.in1 (updateSeq s.heap.objs.size (·.push .none)>>=fun _=>updateSeq s.heap.objs.size (·.pop)) _ _ _
 refine ae (wpAny_updateSeq hL2 rfl ?_);have hL3:=Heap.get?_update_self (Obj.mapSeq (·.push Value.none)) hL2 rfl
 refine wpAny_updateSeq hL3 rfl ?_;have hL4:=Heap.get?_update_self (Obj.mapSeq (·.pop)) hL3 rfl
 have nI:D≠h1.objs.size:=by rw[sz1];exact ao (Nat.lt_succ_of_lt ltD)
 have nf:s.heap.objs.size∉[h1.objs.size,D]:=by
  simp only[List.mem_cons,List.not_mem_nil,or_false,not_or,sz1];exact⟨ao (Nat.lt_succ_self _),Nat.ne_of_gt ltD⟩
 have oth:∀ b ob,b≠s.heap.objs.size->(h1.push iobj).get? b=some ob->(((h1.push iobj).update s.heap.objs.size (Obj.mapSeq (·.push Value.none))).update s.heap.objs.size (Obj.mapSeq (·.pop))).get? b=some ob:=fun b ob hb e=>(Heap.get?_update_other _ _ (Ne.symm hb)).trans ((Heap.get?_update_other _ _ (Ne.symm hb)).trans e)
 have WS:=(walk A.in1 h1.objs.size (by simp[hh]) nI).toS
 have st2:=st0 _ h1.objs.size (oth _ _ (by rw[sz1];exact Nat.ne_of_gt (Nat.lt_succ_self _)) (ai _ hfr)) (oth D oD (ao ltD) (eI D oD (k1 D oD hoD)))
 refine af ⟨plainId_quiet PySem.F.plain_extend_loop _,codeAny_extend_loopS WS hn _ nf _ n 0 _ _ _ rfl (Nat.zero_le _) st2 hL4 (ItemsOf.nil Pv) fun s' acc' c' hm hS' hacc=>?_⟩;show wpAny _ A (load s.heap.objs.size>>=_) _ _ s'
 refine ae (wpAny_load hS' ?_);refine af (h s' acc' hacc (fun b ob e=>hm.heap b ob ?_ (oth b ob ?_ (eI b ob (k1 b ob e)))) (ag hS') hm.gens hm.os)
 ·have lb:=ag e
  simp only[List.mem_cons,List.not_mem_nil,or_false,not_or,sz1];exact⟨ao lb,ao (Nat.lt_succ_of_lt lb)⟩
 ·exact ao (ag e)
theorem Qv{S:Addr}{zs:List Str}{Q:Value->Shared->Prop}(hz:zs.length<64)
  (hc:∀ (B:Around) (Q:List Value->Shared->Prop),B.handled=A.handled->(∀ s' vs,StrsAre vs zs->(∀ b ob,s.heap.get? b=some ob->s'.heap.get? b=some ob)->s.heap.objs.size<s'.heap.objs.size->s'.gens=s.gens->s'.os=s.os->Q vs s')->∀ E',wpAny (model P w) B (collect (.ref S)) Q E' s)
  (h:∀ (s':Shared) (vs:List Value) (ss:List Str) (e:Nat) (L:Addr),StrsAre vs ss->ss.Perm zs->sortedS ss=true->s.heap.objs.size<=L->s'.heap.get? L=some (seqObj "list" vs.toArray e)->(∀ b ob,s.heap.get? b=some ob->s'.heap.get? b=some ob)->s'.gens=s.gens->s'.os=s.os->Q (.ref L) s') :
  wpAny (model P w) A (call (.builtin "sorted") [.ref S]) Q E s:=by
 refine Calls.call_function_entry kind_sorted plain_sorted entry_sorted (args_sorted1 _) ?_;unfold Builtin.«sorted»;refine ae (m:=checkCount "sorted" 1 1 _) (af ?_);refine ae (hc _ _ #[2] (fun s1 vs hS k1 z1 g1 o1=>?_) _)
 have vl:vs.length<64:=by
  have q1:=congrArg List.length hS.strs
  simp at q1;omega
 refine ae (wpAny_newList ?_);obtain⟨h2,eh2⟩:∃ h2,h2=s1.heap.push (seqObj "list" vs.toArray 0):=⟨_,rfl⟩;have hoL:h2.get? s1.heap.objs.size=some (seqObj "list" vs.toArray 0):=by rw[eh2];exact ai _ rfl
 show wpAny _ _ _ _ _ {s1 with heap:=s1.heap.push (seqObj "list" vs.toArray 0)}
 rw[<- eh2];refine ae (wpAny_holding (wpAny_call_entry slot_list_sort ⟨_,hoL,rfl⟩ entry_list_sort (list_sort_treeK strKind_oneLt (s:={s1 with heap:=h2}) hoL hS.keysOf (fun v₁ v₂ rest e=>keyKind_strs (by rw[<- e];exact hS)) vl fun st' a1 a2=>⟨_,rfl,?_⟩) (args_list_sort _)))
 obtain⟨ss',b1,b2,b3⟩:=sorted_out_str hS a1 a2;obtain⟨e,he⟩:=sortedHeap_at (h:=h2) (a:=s1.heap.objs.size) (vs:=vs) (n:=0) (out:=(arrOf st').map (·.2)) hoL;refine af ⟨_,rfl,h _ _ ss' e s1.heap.objs.size b1 b2 b3 (Nat.le_of_lt z1) (by rw[Array.toArray_toList];exact he) (fun b ob hb=>?_) g1 o1⟩
 have lb:b<s1.heap.objs.size:=ag (k1 b ob hb)
 show(sortedHeap h2 _ _ _).get? b=_
 rw[sortedHeap_old (ao lb) (by rw[eh2,Heap.size_push];exact Nat.lt_succ_of_lt lb),eh2]
 exact ah _ (k1 b ob hb)
theorem Gm:∀ (vs:List Value) (zs:List Str),vs.length=zs.length->(∀ (i:Nat) (v:Value),vs[i]?=some v->∃ z t,zs[i]?=some z/\v=Value.str z t)->StrsAre vs zs
 | [],[],_,_=>.nil
 | [],_::_,e,_=>nomatch e
 | _::_,[],e,_=>nomatch e
 | v::vs,z::zs,e,h=>by
  obtain⟨z',t,e1,e2⟩:=h 0 v rfl
  cases e1
  subst e2;exact .cons _ _ (Gm vs zs #[4,e] fun i v hv=>by simpa using h (i+1) v #[4,hv])
theorem Ct{acc:Array Value}{zs:List Str}(h:ItemsOf (fun i v=>∃ z t,zs[i]?=some z/\v=Value.str z t) acc zs.length):StrsAre acc.toList zs :=
 Gm _ _ #[4,h.1] fun i v hv=>h.2 i v #[4,hv]
end
abbrev dC(z:Str×Str):PyData×PyData:=(.str z.1,.str z.2)
abbrev gO(z:Str×Str):aL×V:=(.inr z.1,.str z.2)
section
variable {K:ad}{Z:Addr->Prop}{m:Mu}{H:Hp}
theorem Kr:∀ {zs:List (Str×Str)} {vs:List (PyData×V)},RPd K Z m H (zs.map dC) vs->vs=zs.map fun z=>(PyData.str z.1,V.str z.2)
 | [],_,h=>by simpa[RPd] using h
 | z::zs,_,h=>by
  simp only[au,RPd]at h;obtain⟨v,r,rfl,h2,h3⟩:=h;simp only[RP]at h2;subst h2;rw[Kr h3];rfl
theorem Nr:∀ {ws:List (aL×V)} {zs:List (Str×Str)},(ws.map fun kv=>(cT kv.1,kv.2))=zs.map (fun z=>(PyData.str z.1,V.str z.2))->ws=zs.map gO
 | [],[],_=>rfl
 | [],_::_,e=>nomatch e
 | _::_,[],e=>nomatch e
 | (k,v)::ws,z::zs,e=>by
  simp only[au,List.cons.injEq,Prod.mk.injEq]at e;obtain⟨⟨e1,e2⟩,e3⟩:=e;rw[Nr e3]
  cases k with
  | inl i=>simp at e1
  | inr x =>
   simp only[cT,PyData.str.injEq]at e1;subst e1 e2;rfl
theorem uP{zs:List (Str×Str)}{v:V}(h:RP K Z m H (eO (zs.map dC)) v)(hz:zs≠[]):∃ a o,v=.ref a/\H a=some (.frz o (.dK (zs.map gO))):=by
 obtain⟨a,o,u,vs,rfl,g1,g2,g3⟩:=rV h;have e:=Kr g3
 obtain⟨z,zr,rfl⟩:∃ z zr,zs=z::zr:=by
  cases zs with
  | nil=>exact absurd rfl hz
  | cons z zr=>exact⟨z,zr,rfl⟩
 cases u with
 | dK ws =>
  cases (show vs=_ from g2)
  rw[Nr e]at g1;exact⟨a,o,rfl,g1⟩
 | dT ws =>
  cases (show vs=_ from g2)
  cases ws with
  | nil=>simp at e
  | cons p ws=>simp at e
 | dN K' ws =>
  obtain⟨_,g2⟩:=(show K'=K/\vs=_ from g2)
  subst g2
  cases ws with
  | nil=>simp at e
  | cons p ws=>simp at e
 | _=>exact g2.elim
theorem oP:∀ {zs:List (Str×Str)} {us:List (aL×Value)},KV (zs.map gO) us->us.length=zs.length/\∀ (i:Nat) (k:aL) (v:Value),us[i]?=some (k,v)->∃ z t,zs[i]?=some z/\k=.inr z.1/\v=.str z.2 t
 | [],_,h=>by
  cases h
  exact⟨rfl,fun i k v e=>by simp at e⟩
 | z::zs,_,h=>by
  cases h with
  | @cons p q ps qs hq r =>
   obtain⟨h1,h2⟩:=oP r;refine⟨by simp[h1],fun i k v e=>?_⟩
   cases i with
   | zero =>
    simp only[List.getElem?_cons_zero,Option.some.injEq]at e;subst e;obtain⟨e1,t,e2⟩:=hq;exact⟨z,t,rfl,e1.symm,e2⟩
   | succ i=>simpa using h2 i k v #[4,e]
end
section
variable {P:Program}{w:World}{A:Around}{E:Value->Shared->Prop}{s:Shared}
theorem Ly{κ:Type}:∀ {vs:List (κ×V)} {us:List (κ×Value)},KV vs us->us.map (·.1)=vs.map (·.1)
 | _,_,.nil=>rfl
 | _,_,.cons hq r=>by rw[au,au,Ly r,hq.1]
theorem FP{a:Addr}{us:List (aL×Value)}{zs:List Str}{Q:Value->Shared->Prop}(hh:A.handled=none)(hs:(a==sysModules)=false)(dd:s.heap.DictOf (bX P w) a us)(hk:us.map (·.1)=zs.map Sum.inr)(hz:zs.length<64)
  (h:∀ (s':Shared) (vs:List Value) (ss:List Str) (e:Nat) (L:Addr),StrsAre vs ss->ss.Perm zs->sortedS ss=true->s.heap.objs.size<=L->s'.heap.get? L=some (seqObj "list" vs.toArray e)->(∀ b ob,s.heap.get? b=some ob->s'.heap.get? b=some ob)->s'.gens=s.gens->s'.os=s.os->Q (.ref L) s') :
  wpAny (model P w) A (call (.builtin "sorted") [.ref a]) Q E s:=by
 obtain⟨o,es,ep,ho,hx,hd,hko,hp,nd⟩:=dd;have hl:us.length=zs.length:=by simpa using congrArg List.length hk
 refine Qv hz (fun B Q hB k E'=>?_) h;refine zS (S:=a) (D:=a) (T:="dict") (iobj:={cls:=.type "dict_keyiterator",data:=.fields #[.ref a,.int 0 0,.int us.length 0,.int ep 0]}) (St:=fun I i h=>h.IsKeyIter I a i us.length ep/\h.DictAt (bX P w) a us ep) (Pv:=fun i v=>∃ k x,us[i]?=some (k,x)/\(bX P w).is k v=true)
  (hB.trans hh) ho hx.1 (.inl rfl) ho rfl (by rw[hl,sizeLine_eq];omega) (fun h1 B E' Q kk q=>wpAny_pyIter_dict (s:={s with heap:=h1}) hs ⟨o,es,kk a o ho,hx,hd,hko,hp,nd⟩ q) (fun B I hB hne=>Walks.dictKeys hB I a hne us ep) (fun h I e1 e2=>⟨⟨_,e1,rfl,rfl⟩,o,es,e2,hx,hd,hko,hp,nd⟩)
  (fun s' acc hacc kk zz g os=>k s' acc.toList (Ct ⟨by rw[hacc.1,hl],fun i v hv=>?_⟩) kk zz g os)
 obtain⟨kx,x,e1,e2⟩:=hacc.2 i v hv;have e3:(us.map (·.1))[i]?=some kx:=by rw[List.getElem?_map,e1];rfl
 rw[hk,List.getElem?_map]at e3;obtain⟨z,hz1,hz2⟩:=Option.map_eq_some_iff.mp e3;subst hz2;have e2:iI (.inr z) v=true:=e2
 rcases gA e2 with⟨_,_,q,_⟩ | ⟨x',t,q,rfl⟩
 ·cases q
 ·cases q
  exact⟨z,t,hz1,rfl⟩
theorem GC{a:Addr}{us:List (aL×Value)}{zs:List Str}{Q:Value->Shared->Prop}(hh:A.handled=none)(dd:s.heap.DictOf (bX P w) a us)(hl:us.length=zs.length)(hv:∀ (i:Nat) (k:aL) (v:Value),us[i]?=some (k,v)->∃ z t,zs[i]?=some z/\v=.str z t)(hz:zs.length<64){V:Addr}(hV:s.heap.IsValuesView V a)
  (h:∀ (s':Shared) (vs:List Value) (ss:List Str) (e:Nat) (L:Addr),StrsAre vs ss->ss.Perm zs->sortedS ss=true->s.heap.objs.size<=L->s'.heap.get? L=some (seqObj "list" vs.toArray e)->(∀ b ob,s.heap.get? b=some ob->s'.heap.get? b=some ob)->s'.gens=s.gens->s'.os=s.os->Q (.ref L) s') :
  wpAny (model P w) A (call (.builtin "sorted") [.ref V]) Q E s:=by
 obtain⟨o,es,ep,ho,hx,hd,hko,hp,nd⟩:=dd;obtain⟨oV,hoV,hcV,hdV⟩:=hV;refine Qv hz (fun B Q hB k E'=>?_) h;refine zS (S:=V) (D:=a) (T:="dict_values") (iobj:={cls:=.type "dict_valueiterator",data:=.fields #[.ref a,.int 0 0,.int us.length 0,.int ep 0]}) (St:=fun I i h=>h.IsValIter I a i us.length ep/\h.DictAt (bX P w) a us ep) (Pv:=fun i v=>∃ k,us[i]?=some (k,v))
  (hB.trans hh) hoV hcV (.inr rfl) ho rfl (by rw[hl,sizeLine_eq];omega) (fun h1 B E' Q kk q=>wpAny_pyIter_values (knd:=bX P w) (s:={s with heap:=h1}) ⟨oV,kk V oV hoV,hcV,hdV⟩ ⟨o,es,kk a o ho,hx,hd,hko,hp,nd⟩ q) (fun B I hB hne=>Walks.dictValues hB I a hne us ep) (fun h I e1 e2=>⟨⟨_,e1,rfl,rfl⟩,o,es,e2,hx,hd,hko,hp,nd⟩)
  (fun s' acc hacc kk zz g os=>k s' acc.toList (Ct ⟨by rw[hacc.1,hl],fun i v hv'=>?_⟩) kk zz g os)
 obtain⟨kx,e1⟩:=hacc.2 i v hv';exact hv i kx v e1
end
section
variable {X:Cx}{pins:List (Addr×Obj)}{σ:L2.St}{H:Hp}{s:Shared}{Z:Addr->Prop}{m:Mu}
theorem Fc{s1 s':Shared}{H1:Hp}{m1:Mu}{vs':List Value}{ys zs:List Str}{e':Nat}{L:Addr}{Q:VK}{R:DK}(I1:Inv X pins σ H1 s1)(ok1:Ok X.K Z m1 H1)(hz:zs.length<64)(hS:StrsAre vs' ys)(hp:ys.Perm zs)(hle:s1.heap.objs.size<=L)(hL:s'.heap.get? L=some (seqObj "list" vs'.toArray e'))
  (kk:∀ b ob,s1.heap.get? b=some ob->s'.heap.get? b=some ob) (g2:s'.gens=s1.gens) (o2:s'.os=s1.os) (q:R (.dat (.list (ys.map .str))) m1)
  (k:∀ d m' v' H',R d m'->Ext X.K Z m1 H1 m' H'->Ok X.K Z m' H'->RD X.K Z m' H' d v'->Q v' H'):EP X pins σ Q (.ref L) s':=by
 have hv:=Bo hS
 have hpl:=hp.length_eq
 have hf:H1 L=none:=I1.hok.fresh hle
 have I2:=I1.laid (t':=s'.toks) (h':=s'.heap) (a:=L) (o:=.lst (ys.map V.str)) kk hle ⟨by rw[av,sizeLine_eq];omega,vs',e',hv,hL⟩
 have I3:Inv X pins σ (upd H1 L (.lst (ys.map V.str))) s':=CH I2 rfl g2 o2
 have sm:Same H1 (upd H1 L (.lst (ys.map V.str))):=cC hf
 refine⟨.ref L,_,I3,rfl,k _ m1 _ _ q (ok1.ext sm) (ok1.grow sm) ?_⟩;simp only[RD,RP];exact⟨L,_,rfl,eY ok1 hf,.inl (.inl cA),pF ys⟩
@[simp] def pC:DC
 | [.cel c],m,Q=>∃ kvs:List (Str×PyData),m c=some (.d (kvs.map fun kv=>(Sum.inr kv.1,kv.2)))/\kvs.length<64/\∀ ys:List Str,ys.Perm (kvs.map (·.1))->sortedS ys=true->Q (.dat (.list (ys.map .str))) m
 | _,_,_=>False
theorem Qh(hc:X.calm=true):CallD X (.builtin "sorted") pC:=by
 intro pins s σ H Z m xs ds us R Q I ok rv rd h k;unfold pC at h
 split at h
 ·obtain⟨kvs,hm,hl,hh⟩:=h;obtain⟨v,rfl,r1⟩:=rd.one;obtain⟨rfl,_⟩:=r1;obtain⟨u,rfl,ru⟩:=eR rv
  cases ru
  obtain⟨vs,g1,g2⟩:=ok.d hm;obtain⟨z,hs,us,rel,dd⟩:=xY I.hok g1;have ek:us.map (·.1)=(kvs.map (·.1)).map Sum.inr:=by
   have e1:us.map (·.1)=vs.map (·.1):=Ly rel
   have e2:=g2.keyAt
   rw[e1];rw[List.map_map]at e2 ⊢;exact e2
  refine FP (I.ok.hd hc) hs dd ek #[4,hl] fun s' vs' ys e' L hS hp hs' hle hL kk g o=>?_
  exact Fc I ok #[4,hl] hS hp hle hL kk g o (hh ys hp hs') fun d m' v' H' q1 q2 q3 q4=>k d m' v' H' q1 q2 q3 q4
 ·exact h.elim
end
section
variable {X:Cx}{o:Expr}{fo:DE}{pos p cpos apos:Pos}
@[simp] def pI(fo:DE):DE:=fun d m Q=>fo d m fun x m1=>∃ zs:List (Str×Str),x=.dat (eO (zs.map dC))/\zs≠[]/\zs.length<64/\∀ ys:List Str,ys.Perm (zs.map (·.2))->sortedS ys=true->Q (.dat (.list (ys.map .str))) m1
theorem BM(hc:X.calm=true)(hg:Gl X "sorted")(hm:X.mg "sorted"=none)(ho:PE X o (LE X.K fo))(hb:attributeBase o "values" X.env (eval o X.env)=eval o X.env:=by rfl)(hln:(apos.endLine==cpos.line)=true:=by rfl)
  (hs2:starEach [.Call (.Attribute o "values" apos) [] [] cpos] X.env=[(false,eval (.Call (.Attribute o "values" apos) [] [] cpos) X.env)]:=by rfl):PE X (.Call (.Name "sorted" p) [.Call (.Attribute o "values" apos) [] [] cpos] [] pos) (LE X.K (pI fo)):=by
 intro pins s σ H Q I h;obtain⟨Z,d,m,R,ok,rs,h,k⟩:=h;refine Call_ (gU I hg hm oY (PyProof.Rows.callWith_builtin1 ?_ hs2 rfl));rw[hs2];show wpAny _ _ (spliced ((false,eval (.Call (.Attribute o "values" apos) [] [] cpos) X.env)::[])) _ _ s
 refine Calls.spliced_cons ?_;refine wpAny_Call_method (T:="dict") (id:="dict.values") hb rfl hln PySem.F.plainAttrs_dict PySem.F.slot_dict_values PySem.F.type_dict_values (aS (ho pins s σ H (fun x H1=>∃ (zs:List (Str×Str)) (m1:Mu) (a:Addr) (ob:Obj),x=.ref a/\H1 a=some (.frz ob (.dK (zs.map gO)))/\zs.length<64/\(∀ ys:List Str,ys.Perm (zs.map (·.2))->sortedS ys=true->R (.dat (.list (ys.map .str))) m1)/\Ext X.K Z m H m1 H1/\Ok X.K Z m1 H1) I
  ⟨Z,d,m,_,ok,rs,h,fun x m1 v H1 ⟨zs,ex,hn,hl,q⟩ e1 ok1 rd=>by
   subst ex;obtain⟨a,ob,rfl,g1⟩:=uP rd hn;exact⟨zs,m1,a,ob,rfl,g1,hl,q,e1,ok1⟩⟩) fun u s1 ⟨x,H1,I1,rx,zs,m1,a,ob,ex,g1,hl,q,e1,ok1⟩=>?_)
 subst ex;obtain rfl:u=Value.ref a:=rx;obtain⟨zz,hs,us,rel,dd⟩:=lL I1.hok (.inr ⟨ob,g1⟩:Rd H1 a (.dK (zs.map gO)));obtain⟨l1,l2⟩:=oP rel;refine⟨dd.typeIs,dd.mapOf.noDict,?_⟩;show wpAny _ _ (callWith cpos (.builtin "dict.values") [.ref a] [] []) _ _ s1
 refine method_meetsIn PySem.F.slot_dict_values PySem.F.entry_dict_values rfl (PySem.evalArgs_none ⟨rfl,dd.typeIs,PySem.F.args_dict_values_1 _,_,meets_dict_values (bX X.prog X.w) a hs,⟨us,dd⟩,?_⟩);refine Calls.spliced_nil ?_;obtain⟨h2,eh2⟩:∃ h2,h2=s1.heap.push {cls:=.type "dict_values",data:=.fields #[.ref a]}:=⟨_,rfl⟩;have k2:∀ b o',s1.heap.get? b=some o'->h2.get? b=some o':=fun b o' e=>by rw[eh2];exact ah _ e
 have I2:Inv X pins σ H1 {s1 with heap:=h2,toks:=s1.toks}:=I1.kept k2
 rw[<- eh2];refine GC (s:={s1 with heap:=h2}) (us:=us) (zs:=zs.map (·.2)) (a:=a) (I1.ok.hd hc) ?_ #[4,l1] (fun i kx v e=>?_) #[4,hl] ⟨_,by rw[eh2];exact ai _ rfl,rfl,rfl⟩ fun s' vs' ys e' L hS hp hs' hle hL kk g o=>?_
 ·obtain⟨o',es,ep,ho,r⟩:=dd;exact⟨o',es,ep,k2 a o' ho,r⟩
 ·obtain⟨z,t,q1,_,q3⟩:=l2 i kx v e;exact⟨z.2,t,by rw[List.getElem?_map,q1];rfl,q3⟩
 ·exact Fc I2 ok1 #[4,hl] hS hp hle hL kk g o (q ys hp hs') fun d m' v' H' q1 q2 q3 q4=>k d m' v' H' q1 (e1.trans q2) q3 q4
end
theorem K2:entryFor table "dict_itemiterator.__iter__"=some Builtin.«dict_keyiterator.__iter__» :=
 entryFor_alias (id':="dict_keyiterator.__iter__") (by kernel_rfl) rfl #[3] (by kernel_rfl)
theorem Vx{P:Program}{w:World}{A:Around}{E:Value->Shared->Prop}{s:Shared}{it d:Addr}{i n ep:Nat}{ok ov:Value}{Q:Value->Shared->Prop}(hit:IsItemIter s.heap it d i n ep ok ov)(h:Q (.ref it) s):wpAny (model P w) A (pyIter (.ref it)) Q E s:=by
 have hT:s.TypeIs (.ref it) "dict_itemiterator":=⟨_,hit,rfl⟩
 refine wpAny_pyIter_slot hT PySem.F.slot_dict_itemiterator_iter (wpAny_call_entry PySem.F.slot_dict_itemiterator_iter hT K2 ?_ (PySem.F.args_dict_itemiterator_iter_1 _));show wpAny _ _ (ret (.ref it)) _ _ s
 exact af ⟨_,rfl,"dict_itemiterator",_,hT,PySem.F.slot_dict_itemiterator_next.lookup,h⟩
def Xb(c:Addr)(o:Obj)(zs:List (Str×Str)):It :=
 ⟨fun i H=>i<zs.length/\H c=some (.frz o (.dK (zs.map gO))),fun i H v H'=>∃ p z,v=.ref p/\H p=none/\H'=upd H p (.tup [.str z.1,.str z.2])/\zs[i]?=some z,
  fun i H=>i=zs.length/\H c=some (.frz o (.dK (zs.map gO)))⟩
theorem F1{P:Program}{w:World}{K:ad}{elts:List Expr}{j:Nat}{pos:Pos}{it c:Addr}{o:Obj}{zs:List (Str×Str)}{us:List (aL×Value)}{ep:Nat}(rel:KV (zs.map gO) us)(hci:c≠it)(hda:∀ h:Heap,h.get? c=some o->h.DictAt (bX P w) c us ep) :
  Turn P w K (.Tuple elts j pos) (Xb c o zs) [it] it (fun i h=>∃ ok ov,IsItemIter h it c i us.length ep ok ov) where
 mem:=by simp
 obj:=fun i h st b hb=>by
  obtain⟨ok,ov,h1⟩:=st;have e:b=it:=by simpa using hb
  subst e;exact⟨_,h1,fun v q=>nomatch q⟩
 keep:=fun i h h' st k=>by
  obtain⟨ok,ov,h1⟩:=st;exact⟨ok,ov,k it #[2] _ h1⟩
 item:=by
  intro X hP hw hK hc i pins s σ H E I hf st hg;subst hP hw hK;obtain⟨hi,g1⟩:=hg;obtain⟨l1,l2⟩:=oP rel;obtain⟨ho,_⟩:=nD I g1;obtain⟨ok,ov,he⟩:=st;obtain⟨⟨kx,vx⟩,hx⟩:∃ p,us[i]?=some p:=⟨us[i]'#[0],List.getElem?_eq_getElem #[0]⟩
  obtain⟨z,t,q1,q2,q3⟩:=l2 i kx vx hx;subst q2 q3;have hp:H s.heap.objs.size=none:=I.hok.fresh (ak _)
  refine wpAny_pyNext_items_item he (hda _ ho) hx fun key h' hkey hout hT hsz k=>?_;refine⟨_,rfl,?_⟩;refine wpAny_letOwnedTupleGo_items (s:={s with heap:=h'}) hout fun h2 z2 c2=>?_;have hkey:iI (.inr z.1) key=true:=hkey
  obtain⟨tk,rfl⟩:∃ tk,key=.str z.1 tk:=by
   rcases gA hkey with⟨_,_,q,_⟩ | ⟨x',tk,q,rfl⟩
   ·cases q
   ·cases q
    exact⟨tk,rfl⟩
  have I1:Inv X pins σ (upd H s.heap.objs.size (.tup [_,_])) {s with heap:=s.heap.push {cls:=.type "tuple",data:=.seq #[.str z.1 tk,.str z.2 t]}} :=
   I.laid (t':=s.toks) (fun b o e=>ah _ e) (ak _) (show ObjOk X.prog X.w _ _ _ (.tup [.str z.1,.str z.2]) from⟨⟨by show 2<=sizeLine;rw[sizeLine_eq];decide,NoD.new _ _ _⟩,[.str z.1 tk,.str z.2 t],.cons ⟨_,rfl⟩ (.cons ⟨_,rfl⟩ .nil),IsTup.new _ _⟩)
  have lt:∀ {c o},s.heap.get? c=some o->c≠s.heap.objs.size:=fun e=>ao (ag e)
  have hf':∀ b∈[it],cK X pins (upd H s.heap.objs.size (.tup [.str z.1,.str z.2])) b:=fun b hb=>by
   obtain⟨f0,f1,f2,f3,f4,f5⟩:=hf b hb;refine⟨?_,f1,f2,f3,f4,f5⟩;rw[bF]
   ·exact f0
   ·have e:b=it:=by simpa using hb
    subst e;exact lt he
  have kk:∀ b o,b∉[it]->(s.heap.push {cls:=.type "tuple",data:=.seq #[.str z.1 tk,.str z.2 t]}).get? b=some o->h2.get? b=some o:=fun b o hb q=>by
   have hb:b≠it:=by simpa using hb
   refine c2.extBut _ _ hb ?_;rcases Heap.get?_push_cases q with⟨rfl,rfl⟩ | q
   ·exact hT
   ·exact k b o hb q
  have I2:=jX (s:={s with heap:=s.heap.push {cls:=.type "tuple",data:=.seq #[.str z.1 tk,.str z.2 t]}}) (h':=h2) (t':=s.toks) (ch:=[it]) I1 kk hf'
  exact⟨.ref s.heap.objs.size,upd H s.heap.objs.size (.tup [.str z.1,.str z.2]),I2,rfl,⟨_,z,rfl,hp,rfl,q1⟩,⟨_,_,z2⟩,fun b hb=>(hf' b hb).1⟩
 done:=by
  intro X hP hw hK hc i pins s σ H E I hf st hg;subst hP hw hK;obtain⟨hi,g1⟩:=hg;obtain⟨l1,_⟩:=oP rel;obtain⟨ho,_⟩:=nD I g1;obtain⟨ok,ov,he⟩:=st;refine wpAny_pyNext_items_end (I.ok.hd hc) he (hda _ ho) (by rw[List.getElem?_eq_none];omega) fun h' k=>?_
  exact⟨rfl,jX (t':=s.toks) (ch:=[it]) I (fun b o hb q=>k b o #[4,hb] q) hf⟩
 self:=fun _ _ _ _ _ st h=>by
  obtain⟨ok,ov,he⟩:=st;exact Vx he h
section
variable {X:Cx}{o:Expr}{elts:List Expr}{j:Nat}{fo:DE}{pos p2 apos:Pos}
@[simp] def qG(f:DE):DI:=fun d m Q=>f d m fun x m1=>∃ zs:List (Str×Str),x=.dat (eO (zs.map dC))/\zs≠[]/\Q (zs.map fun z=>.dat (fJ z)) m1
theorem i8(ho:PE X o (LE X.K fo))(hb:attributeBase o "items" X.env (eval o X.env)=eval o X.env:=by rfl)(hln:(apos.endLine==pos.line)=true:=by rfl) :
  PI X (.Tuple elts j p2) (.Call (.Attribute o "items" apos) [] [] pos) (LI X.K (qG fo)):=by
 intro pins s σ H R I h;obtain⟨Z,d,m,ZZ,ok,rs,h,k⟩:=h;refine wpAny_Call_method (T:="dict") (id:="dict.items") hb rfl hln PySem.F.plainAttrs_dict PySem.F.slot_dict_items PySem.F.type_dict_items (aS (ho pins s σ H (fun x H1=>∃ (zs:List (Str×Str)) (m1:Mu) (a:Addr) (ob:Obj),x=.ref a/\H1 a=some (.frz ob (.dK (zs.map gO)))/\ZZ (zs.map fun z=>.dat (fJ z)) m1/\Ext X.K Z m H m1 H1/\Ok X.K Z m1 H1) I
  ⟨Z,d,m,_,ok,rs,h,fun x m1 v H1 ⟨zs,ex,hn,q⟩ e1 ok1 rd=>by
   subst ex;obtain⟨a,ob,rfl,g1⟩:=uP rd hn;exact⟨zs,m1,a,ob,rfl,g1,q,e1,ok1⟩⟩) fun u s1 ⟨x,H1,I1,rx,zs,m1,a,ob,ex,g1,q,e1,ok1⟩=>?_)
 subst ex;obtain rfl:u=Value.ref a:=rx;obtain⟨zz,hs,us,rel,dd⟩:=lL I1.hok (.inr ⟨ob,g1⟩:Rd H1 a (.dK (zs.map gO)));refine⟨dd.typeIs,dd.mapOf.noDict,?_⟩;show wpAny _ _ (callWith pos (.builtin "dict.items") [.ref a] [] []) _ _ s1
 refine method_meetsIn PySem.F.slot_dict_items PySem.F.entry_dict_items rfl (PySem.evalArgs_none ⟨rfl,dd.typeIs,PySem.F.args_dict_items_1 _,_,meets_dict_items (bX X.prog X.w) a hs,⟨us,dd⟩,?_⟩);obtain⟨h2,eh2⟩:∃ h2,h2=s1.heap.push {cls:=.type "dict_items",data:=.fields #[.ref a]}:=⟨_,rfl⟩;have k2:∀ b o',s1.heap.get? b=some o'->h2.get? b=some o':=fun b o' e=>by rw[eh2];exact ah _ e
 rw[<- eh2];obtain⟨oa,es,ep,hoa,r⟩:=dd;obtain⟨hoa',_⟩:=nD I1 g1;obtain rfl:oa=ob:=Option.some.inj (hoa.symm.trans hoa');have I2:Inv X pins σ H1 {s1 with heap:=h2,toks:=s1.toks}:=I1.kept k2
 show wpAny _ _ (pyIter (.ref s1.heap.objs.size)) _ _ _
 refine wpAny_pyIter_items (knd:=bX X.prog X.w) (s:={s1 with heap:=h2}) (v:=s1.heap.objs.size) (d:=a) (ep:=ep) ⟨_,by rw[eh2];exact ai _ rfl,rfl,rfl⟩ ⟨oa,es,k2 a oa hoa,r⟩ ?_
 refine⟨h2.objs.size,[h2.objs.size],_,_,H1,rfl,I2.kept (t':=s1.toks) fun b o e=>ah _ e,F1 (c:=a) (o:=oa) (zs:=zs) (us:=us) (ep:=ep) rel (ao (ag (k2 a oa hoa))) (fun h' e=>⟨oa,es,e,r⟩),⟨_,_,ai _ rfl⟩,fun c hc=>?_,k _ m1 H1 _ q e1 ok1 ?_⟩
 ·have e:c=h2.objs.size:=by simpa using hc
  subst e;exact I2.fpOk (ak _) (I2.hok.fresh (ak _))
 ·intro m2 H2 e2;have g3:=e2.fz a oa _ g1
  refine⟨fun i x hx=>⟨⟨?_,g3⟩,fun v H3 ⟨pp,z,ev,hp,eH,al⟩=>?_⟩,by simp,g3⟩
  ·have:=(List.getElem?_eq_some_iff.mp hx).1
   simpa using this
  ·rw[List.getElem?_map,al]at hx
   cases hx
   refine .inr ⟨pp,[.str z.1,.str z.2],[_,_],rfl,ev,hp,eH,?_⟩;simp only[RPs];exact⟨_,_,rfl,by simp only[RP],_,_,rfl,by simp only[RP],rfl⟩
end
section
variable {X:Cx}{pins:List (Addr×Obj)}{σ:L2.St}
theorem W1{H:Hp}{s:Shared}{S:Addr}{o:HO}(I:Inv X pins σ H s)(hf:cK X pins H S)(new:ObjOk X.prog X.w (upd H S o) s.heap S o):Inv X pins σ (upd H S o) s:=by
 obtain⟨f0,f1,f2,f3,f4,f5⟩:=hf;have nS:∀ b u,H b=some u->b≠S:=fun b u e z=>by rw[z,f0]at e;cases e
 have r:=I.step (g':=s.gens) (d':=s.drawn) (t':=s.toks) (h':=s.heap) (H':=upd H S o) (ch:=[S]) (fun b hb=>by
   have e:b=S:=by simpa using hb
   subst e;exact⟨f3,f1,f4,f5⟩) (fun b ob _ _ _ e _=>e) (fun b ob _ _ _ e _=>⟨ob.slots,e⟩) (fun b ob hc e n=>by rw[bF (fun z=>hc (by simp[z]))];exact n) (fun b ob hc e=>⟨ob,e⟩)
  (fun b xs e=>by rw[bF (nS b _ e)];exact e) (fun b ob u e=>by rw[bF (nS b _ e)];exact e) (fun b ps e=>⟨#[],by rw[bF (nS b _ e),e];simp⟩) (fun m hm=>hm) (fun b u e=>by
   by_cases hb:b=S
   ·subst hb;rw[cA]at e;cases e;exact new
   ·rw[bF hb]at e;exact(I.hok b u e).stay (fun c v _ q=>q) (fun c q=>by rw[bF (nS c _ q)];exact q) (fun c xs q=>by rw[bF (nS c _ q)];exact q) fun c ob u q=>by rw[bF (nS c _ q)];exact q) I.bare
 exact r
theorem GB{prog:Program}{w:World}{A:Around}{R:Result->Shared->Prop}{H:Hp}{s:Shared}{z TI TO i1 i2 l1 l2 S:Addr}{c0:Nat}{res:Value}{xs ys:List V}(hh:A.handled=none)(N:ZNew X pins σ H s z TI TO i1 i2 l1 l2 xs ys)
  (hS:s.heap.get? S=some {cls:=.type "list",data:=.seq #[] c0}) (nS:∀ b∈[z,TI,TO,i1,i2],S≠b) (fS:cK X pins H S)
  (hQ:∀ s' H' (acc:Array Value) c' ps',Inv X pins σ H' s'->Same H H'->s'.heap.get? S=some {cls:=.type "list",data:=.seq acc c'}->acc.toList=ps'.map .ref->ps'.length=xs.length->PairsH H' xs ys ps'->H' S=none->R (.ok (.ret res)) s') :
  wpAny (model prog w) A.in1 (Builtin.List.listExtendWith (.ref S) (.ref z) res) (fun fin s'=>match fin with | .done f=>R (.ok f) s' | .again c'=>c'.quiet=true/\codeAny (model prog w) A c' R s') (fun e s'=>R (.error e) s') s:=by
 obtain⟨D,hl,hsz,h0,I,hf,hz,hTI,hTO,h1,hb2,g1,g2⟩:=N;unfold Builtin.List.listExtendWith;refine ae (wpAny_typeOf (T:="zip") ⟨_,hz,rfl⟩ ?_);have nz:S≠z:=nS z #[2]
 rw[if_neg (by simp[Builtin.List.listSameRef,nz])]
 refine ae (wpAny_pyIter_zip hz ?_);refine ae (wpAny_holding (J2 ⟨_,hz,rfl⟩ ?_));rw[Bool.true_or,if_pos rfl];refine ae (wpAny_rule (ae ?_));unfold Builtin.List.listTouch;refine ae (listUpdate_at hS rfl ?_ #[2] #[2])
 have hS1:(s.heap.update S (Obj.mapSeq fun x=>x.push .none)).get? S=some {cls:=.type "list",data:=.seq #[.none] (c0+1)}:=by
  rw[Heap.get?_update_self _ hS rfl];simp[Obj.mapSeq]
 refine listUpdate_at hS1 rfl ?_ (by simp;rw[sizeLine_eq];decide) #[2]
 obtain⟨h2,eh2⟩:∃ h2,h2=(s.heap.update S (Obj.mapSeq fun x=>x.push .none)).update S (Obj.mapSeq fun x=>x.pop):=⟨_,rfl⟩;have hS2:h2.get? S=some {cls:=.type "list",data:=.seq #[] (c0+2)}:=by
  rw[eh2,Heap.get?_update_self _ hS1 rfl];simp[Obj.mapSeq]
 have kp:∀ b o,b≠S->s.heap.get? b=some o->h2.get? b=some o:=fun b o hb e=>by
  rw[eh2];exact(Heap.SameBut.update ..).extBut _ _ hb ((Heap.SameBut.update ..).extBut _ _ hb e)
 show wpAny _ A.in1 (again _) _ _ {s with heap:=_}
 rw[<- eh2];refine af ⟨plainId_quiet F.plain_extend_loop _,?_⟩;obtain⟨f0,f1,f2,f3,f4,f5⟩:=id fS;have I2:Inv X pins σ H {s with heap:=h2}:=I.turned (t':=s.toks) (it:=S) (fun b o hb e=>kp b o hb e) f0 f1 f3 f4 f5
 exact x9 (X:=X) (pins:=pins) (σ:=σ) (s:={s with heap:=h2}) hh D nz (nS i1 #[2]) (nS i2 #[2]) (nS TI #[2]) (nS TO #[2]) hl hsz h0 I2 (fun b hb=>by
   rcases List.mem_append.mp (show b∈[z,TI,TO,i1,i2]++[S] from hb) with q | q
   ·exact hf b q
   ·rw[List.mem_singleton.mp q];exact fS) (kp _ _ (Ne.symm nz) hz) (kp _ _ (Ne.symm (nS TI #[2])) hTI) (kp _ _ (Ne.symm (nS TO #[2])) hTO) (h1.at fun o e=>kp _ _ (Ne.symm (nS i1 #[2])) e) (hb2.at fun o e=>kp _ _ (Ne.symm (nS i2 #[2])) e) g1 g2 hS2 fun s' H' acc' c' ps' a1 a2 a3 a4 a5 a6 a7=>hQ s' H' acc' c' ps' a1 a2 a3 a4 a5 a6 a7
theorem W9{A:Around}{E:Value->Shared->Prop}{prog:Program}{w:World}{H:Hp}{s:Shared}{z TI TO i1 i2 l1 l2:Addr}{xs ys:List V}{Q:Value->Shared->Prop}(hh:A.handled=none)(N:ZNew X pins σ H s z TI TO i1 i2 l1 l2 xs ys)
  (h:∀ (s':Shared) (H':Hp) (acc:Array Value) (c':Nat) (ps':List Addr),Inv X pins σ H' s'->Same H H'->s'.heap.get? s.heap.objs.size=some {cls:=.type "list",data:=.seq acc c'}->acc.toList=ps'.map .ref->ps'.length=xs.length->PairsH H' xs ys ps'->H' s.heap.objs.size=none->Q (.ref s.heap.objs.size) s') :
  wpAny (model prog w) A (call (.type "list") [.ref z]) Q E s:=by
 refine callType_codes (Q₁:=fun obj s₁=>obj=.ref s.heap.objs.size/\s₁={s with heap:=s.heap.push {cls:=.type "list",data:=.seq #[]}}) F.called_list (F.typeCall_list_1 _) F.entry_list_init
  (code_list_new _ ⟨rfl,rfl⟩) fun obj s₁ h₁=>?_
 obtain⟨rfl,rfl⟩:=h₁;have hS:(s.heap.push {cls:=.type "list",data:=.seq #[]}).get? s.heap.objs.size=some {cls:=.type "list",data:=.seq #[]}:=ai _ rfl
 refine⟨⟨_,hS,rfl⟩,F.args_list_init_2 _ _,?_⟩;obtain⟨D,hl,hsz,h0,I,hf,hz,hTI,hTO,h1,hb2,g1,g2⟩:=N;obtain⟨o4,e4,r4⟩:=id h1;obtain⟨o5,e5,r5⟩:=id hb2;have lt:∀ {c o},s.heap.get? c=some o->s.heap.objs.size≠c:=fun e=>Ne.symm (ao (ag e))
 show wpAny _ _ (do let old <- Builtin.List.listItems (.ref s.heap.objs.size);Builtin.List.listUpdate (.ref s.heap.objs.size) (fun _=>#[]);letGo old.toList.reverse;Builtin.List.listExtendWith (.ref s.heap.objs.size) (.ref z) .none) _ _ _
 refine ae (listItems_at hS rfl ?_);refine ae (listUpdate_at hS rfl ?_);obtain⟨c1,hS1⟩:∃ c1,((s.heap.push {cls:=.type "list",data:=.seq #[]}).update s.heap.objs.size (Obj.mapSeq fun _=>#[])).get? s.heap.objs.size=some {cls:=.type "list",data:=.seq #[] c1}:=⟨_,get?_update_seq hS (fun _=>#[])⟩;refine ae (wpAny_letGo ?_);obtain⟨h2,eh2⟩:∃ h2,h2=(s.heap.push {cls:=.type "list",data:=.seq #[]}).update s.heap.objs.size (Obj.mapSeq fun _=>#[]):=⟨_,rfl⟩;rw[<- eh2]at hS1;have kp:∀ b o,s.heap.get? b=some o->h2.get? b=some o:=fun b o e=>by
  rw[eh2];exact(Heap.SameBut.update ..).extBut _ _ (Ne.symm (lt e)) (ah _ e)
 show wpAny _ _ _ _ _ {s with heap:=(s.heap.push {cls:=.type "list",data:=.seq #[]}).update s.heap.objs.size (Obj.mapSeq fun _=>#[])}
 rw[<- eh2];refine GB (X:=X) (pins:=pins) (σ:=σ) (H:=H) (s:={s with heap:=h2}) (A:=A.in1) hh ⟨D,hl,hsz,h0,I.kept (t':=s.toks) kp,hf,kp _ _ hz,kp _ _ hTI,kp _ _ hTO,⟨o4,kp _ _ e4,r4⟩,⟨o5,kp _ _ e5,r5⟩,g1,g2⟩ hS1 (fun b hb=>?_) (I.fpOk (ak _) (I.hok.fresh (ak _))) fun s' H' acc c' ps' a1 a2 a3 a4 a5 a6 a7=>⟨rfl,h s' H' acc c' ps' a1 a2 a3 a4 a5 a6 a7⟩;simp only[List.mem_cons,List.not_mem_nil,or_false]at hb;rcases hb with rfl | rfl | rfl | rfl | rfl
 ·exact lt hz
 ·exact lt hTI
 ·exact lt hTO
 ·exact lt e4
 ·exact lt e5
end
section
variable {X:Cx}{a b:Expr}{f g:DE}{pos p p2 pos2:Pos}
@[simp] def sN(f g:DE):DE:=fun d m Q=>f d m fun x m1=>g d m1 fun y m2=>∃ qs rs,x=.dat (.list qs)/\y=.dat (.list rs)/\qs.length<=rs.length/\0<qs.length/\qs.length<=1000/\Q (.dat (.list ((qs.zip rs).map fun z=>.tuple [z.1,z.2]))) m2
theorem W6(hc:X.calm=true)(hg:Gl X "list")(hm:X.mg "list"=none)(hg2:Gl X "zip")(hm2:X.mg "zip"=none)(ha:PE X a (LE X.K f))(hb:PE X b (LE X.K g))(hs:starEach [a,b] X.env=[(false,eval a X.env),(false,eval b X.env)]:=by rfl)(hs2:starEach [b] X.env=[(false,eval b X.env)]:=by rfl)
  (hs3:starEach [.Call (.Name "zip" p2) [a,b] [] pos2] X.env=[(false,eval (.Call (.Name "zip" p2) [a,b] [] pos2) X.env)]:=by rfl):PE X (.Call (.Name "list" p) [.Call (.Name "zip" p2) [a,b] [] pos2] [] pos) (LE X.K (sN f g)):=by
 intro pins s σ H Q I h;obtain⟨Z,d,m,R,ok,rs,h,k⟩:=h;have hA:=mM (X:=X) ha (mM hb pP (by rw[hs2];rfl)) (by rw[hs,hs2]) pos2 pins s σ H (fun vs H1=>∃ a1 a2 xs ys qs rs m1,vs=[.ref a1,.ref a2]/\SqL X.K H1 a1 xs/\SqL X.K H1 a2 ys/\RPs X.K Z m1 H1 qs xs/\RPs X.K Z m1 H1 rs ys/\qs.length<=rs.length/\0<qs.length/\qs.length<=1000 /\
   R (.dat (.list ((qs.zip rs).map fun z=>.tuple [z.1,z.2]))) m1/\Ext X.K Z m H m1 H1/\Ok X.K Z m1 H1) I ⟨Z,d,m,fun ds m1=>match ds with | [x,y]=>∃ qs rs,x=.dat (.list qs)/\y=.dat (.list rs)/\qs.length<=rs.length/\0<qs.length/\qs.length<=1000/\R (.dat (.list ((qs.zip rs).map fun z=>.tuple [z.1,z.2]))) m1 | _=>False,ok,rs,h,fun xs m1 vs H1 q e1 ok1 rd=>?_⟩
 ·refine Call_ (gU I hg hm Rw (PyProof.Rows.callWith_type1 ?_ hs3 rfl));rw[hs3];show wpAny _ _ (spliced ((false,eval (.Call (.Name "zip" p2) [a,b] [] pos2) X.env)::[])) _ _ s
  refine Calls.spliced_cons (Call_ (gU I hg2 hm2 zH (PyProof.Rows.callWith_type1 (aS hA fun us s1 ⟨vs,H1,I1,r1,q1⟩=>?_) (by rw[hs,hs2]) (by rw[hs2];rfl))))
  obtain⟨a1,a2,xs,ys,qs,rs,m1,e,h1,h2,rp,rq,n1,n2,n3,q,e1,ok1⟩:=q1;subst e;obtain⟨u1,u2,rfl,ru1,ru2⟩:=Py r1
  cases ru1
  cases ru2
  obtain⟨its1,rv1,pt1,l1⟩:=I1.list h1;obtain⟨its2,rv2,pt2,l2⟩:=I1.list h2;refine call_zip_2 pt1.isList pt2.isList fun h' b1 b2 b3 b4 b5 hsize kp=>?_;refine Calls.spliced_nil ?_;obtain⟨n,hn⟩:∃ n,n=s1.heap.objs.size:=⟨_,rfl⟩;rw[<- hn]at b1 b2 b3 b4 b5 ⊢;have D:ZipApart (n+4) (n+2) (n+3) n (n+1) a1 a2:=zF n a1 a2 (by obtain⟨o,ho,_⟩:=pt1.isList;rw[hn];exact ag ho) (by obtain⟨o,ho,_⟩:=pt2.isList;rw[hn];exact ag ho)
  have lx:=rp.length
  have ly:=rq.length
  have I1':Inv X pins σ H1 {s1 with heap:=h',toks:=s1.toks}:=I1.kept kp
  have N:ZNew X pins σ H1 {s1 with heap:=h'} (n+4) (n+2) (n+3) n (n+1) a1 a2 xs ys:=by
   refine⟨D,by omega,by omega,by omega,I1.kept (t':=s1.toks) kp,fun c hc=>?_,b1,b2,b3,b4,b5,h1,h2⟩
   have hle:s1.heap.objs.size<=c:=by
    simp only[List.mem_cons,List.not_mem_nil,or_false]at hc;subst hn;rcases hc with rfl | rfl | rfl | rfl | rfl
    ·exact Nat.le_add_right _ 4
    ·exact Nat.le_add_right _ 2
    ·exact Nat.le_add_right _ 3
    ·exact ak _
    ·exact Nat.le_add_right _ 1
   exact I1.fpOk hle (I1.hok.fresh hle)
  refine W9 (I1.ok.hd hc) N fun s' H' acc c' ps' c1 c2 c3 c4 c5 c6 c7=>?_;have hf1:H1 h'.objs.size=none:=I1'.hok.fresh (ak _)
  have hfp:cK X pins H' h'.objs.size:=⟨c7,(I1'.fpOk (H':=H') (ak _) c7).2⟩
  have hv:Vals (ps'.map V.ref) acc.toList:=by
   rw[c4];clear c3 c4 c5 c6
   induction ps' with
   | nil=>exact .nil
   | cons p ps ih=>exact .cons rfl ih
  have I3:=W1 (o:=.lst (ps'.map V.ref)) c1 hfp ⟨by rw[av,c5,sizeLine_eq];omega,acc.toList,c',hv,by rw[Array.toArray_toList];exact c3⟩
  have sm:Same H' (upd H' h'.objs.size (.lst (ps'.map V.ref))):=cC c7
  have sm1:Same H1 (upd H' h'.objs.size (.lst (ps'.map V.ref))):=fun b o e=>sm _ _ (c2 b o e)
  refine⟨.ref h'.objs.size,_,I3,rfl,k _ m1 _ _ q (e1.trans (ok1.ext sm1)) (ok1.grow sm1) ?_⟩;simp only[RD,RP];exact⟨_,_,rfl,eY ok1 hf1,.inl (.inl cA),Rc (ok1.ext sm1) rp rq n1 #[0] (c6.same sm)⟩
 ·match xs,q,rd with
  | [],q,_=>exact q.elim
  | [_],q,_=>exact q.elim
  | _::_::_::_,q,_=>exact q.elim
  | [x,y],q,rd =>
  obtain⟨qs,rs,rfl,rfl,n1,n2,n3,q⟩:=q;obtain⟨v,w,rfl,g1,g2⟩:=rd.two;simp only[RD,RP]at g1 g2;obtain⟨a1,xs,rfl,_,h1,h2⟩:=g1;obtain⟨a2,ys,rfl,_,h3,h4⟩:=g2;exact⟨a1,a2,xs,ys,qs,rs,m1,rfl,h1,h3,h2,h4,n1,n2,n3,q,e1,ok1⟩
end
mutual
def iL:PyData->Bool
 | .list _=>false
 | .dict _=>false
 | .tuple xs=>noLs xs
 | _=>true
def noLs:List PyData->Bool
 | []=>true
 | x::xs=>iL x&&noLs xs
end
mutual
theorem Lo{h:Heap}:∀ (p:PyData) (v:Value) (as:List Addr),iL p=true->Reads h v p as->as=[]
 | .none,_,_,_,r=>by cases r;rfl
 | .bool _,_,_,_,r=>by cases r;rfl
 | .int _,_,_,_,r=>by cases r;rfl
 | .str _,_,_,_,r=>by cases r;rfl
 | .list _,_,_,n,_=>by simp[iL]at n
 | .dict _,_,_,n,_=>by simp[iL]at n
 | .tuple xs,_,_,n,r=>by
  cases r with
  | tuple _ _ _ q=>exact readsAll_noL xs _ _ (by simpa[iL] using n) q
theorem readsAll_noL{h:Heap}:∀ (ps:List PyData) (vs:List Value) (as:List Addr),noLs ps=true->ReadsAll h vs ps as->as=[]
 | [],_,_,_,r=>by cases r;rfl
 | p::ps,_,_,n,r=>by
  simp only[noLs,Bool.and_eq_true]at n
  cases r with
  | cons r1 r2=>rw[Lo p _ _ n.1 r1,readsAll_noL ps _ _ n.2 r2];rfl
end
theorem Ib{P:Program}{w:World}{h:Heap}:∀ {zs:List (Str×Str)} {us:List (aL×Value)} {l:List DictEntry},KV (zs.map gO) us->Pairs (bX P w) l us->ReadsAll h (l.map (·.key)) ((zs.map dC).map (·.1)) []/\ReadsAll h (l.map (·.val)) ((zs.map dC).map (·.2)) []
 | [],_,_,r,pr=>by
  cases r
  cases pr
  exact⟨.nil,.nil⟩
 | z::zs,_,_,r,pr=>by
  cases r with
  | @cons p q ps qs hq r =>
   cases pr with
   | @cons en kv es' _ k1 k2 pr =>
    obtain⟨i1,i2⟩:=Ib (h:=h) r pr;obtain⟨e1,t,e2⟩:=hq;have k1:iI q.1 en.key=true:=k1
    rw[<- e1]at k1;obtain⟨tk,e3⟩:∃ tk,en.key=.str z.1 tk:=by
     rcases gA k1 with⟨_,_,q,_⟩ | ⟨x',tk,q,e⟩
     ·cases q
     ·cases q
      exact⟨tk,e⟩
    simp only[au];rw[e3,k2,e2];exact⟨.cons (as:=[]) (.str _ _) i1,.cons (as:=[]) (.str _ _) i2⟩
section
variable {X:Cx}
theorem sU:∀ zs:List (Str×Str),PyData.showableKv (zs.map dC)=true
 | []=>rfl
 | z::zs=>by simp[PyData.showableKv,PyData.showable,sU zs]
theorem rX:∀ zs:List (Str×Str),(PyData.dict (zs.map dC)).depth<=3
 | []=>by decide
 | z::zs=>by
  have:=rX zs
  simp only[au,PyData.depth,PyData.depthKv]at *;omega
@[simp] def lW:DC
 | [.dat (.tuple [p,.dict kvs])],m,Q=>∃ zs:List (Str×Str),.dict kvs=eO (zs.map dC)/\zs≠[]/\iL p=true/\p.showable=true/\(PyData.tuple [p,.dict (zs.map dC)]).shown.length<=sizeLine/\p.depth<=50/\Q (.dat (.str (PyData.tuple [p,.dict (zs.map dC)]).shown)) m
 | _,_,_=>False
theorem Ny(hu:X.A.units+200<cLine)(hg:X.A.guards=some []):CallD X (.builtin "repr") lW:=by
 intro pins s σ H Z m xs ds us R Q I ok rv rd h k;unfold lW at h
 split at h
 ·rename_i p kvs;obtain⟨v,rfl,r1⟩:=rd.one;obtain⟨u,rfl,ru⟩:=eR rv;obtain⟨zs,ek,hz,nl,hs,hsz,hd,q⟩:=h;rw[ek]at r1;have r1:RP X.K Z m H (.tuple [p,eO (zs.map dC)]) v:=r1
  unfold RP at r1;obtain⟨a,vs,rfl,hs1,h2⟩:=r1;simp only[RPs]at h2;obtain⟨v1,r',rfl,g1,v2,r'',rfl,g2,rfl⟩:=h2
  cases ru
  obtain⟨b,o,rfl,g3⟩:=uP g2 hz;obtain⟨its,rs,⟨ot,t1,t2,n,t3⟩,_⟩:=I.tuple hs1
  cases rs with
  | cons w1 rs =>
   cases rs with
   | cons w2 rs =>
    cases rs
    obtain rfl:=(show _=Value.ref b from w2)
    have ndp:=RP.noDict X.K p v1 g1 hs
    obtain⟨as,ra⟩:=RP.reads I p v1 _ g1 w1;have ea:=Lo p _ _ nl ra
    subst ea;obtain⟨zz,hsm,us,rel,o',es,ep,ho,hx,hdat,hko,hp,nd⟩:=lL I.hok (.inr ⟨o,g3⟩:Rd H b (.dK (zs.map gO)));obtain⟨i1,i2⟩:=Ib (h:=s.heap) rel hp;have rD:Reads s.heap (.ref b) (.dict (zs.map dC)) (b::[]++[]):=.dict ho hx.1 hdat i1 i2
    have rT:Reads s.heap (.ref a) (.tuple [p,.dict (zs.map dC)]) ([]++((b::[]++[])++[])):=.tuple t1 t2 t3 (by simpa using ReadsAll.cons ra (ReadsAll.cons rD ReadsAll.nil))
    refine repr_of_reads' rT ?_ (fun _=>?_) hg ?_ (fun _ _ e=>e) (fun h' u tk kp=>⟨.str _,H,I.kept kp,⟨_,rfl⟩,k _ m _ H q Ext.refl ok .ofStr⟩) hsz
    ·simp[PyData.showable,PyData.showableAll,hs,sU]
    ·simp only[List.nil_append,List.append_nil,List.mem_singleton];intro e;rw[e]at hsm;simp at hsm
    ·have:=rX zs
     simp only[PyData.depth,PyData.depthAll];simp only[PyData.depth]at this;omega
 ·exact h.elim
end
section
variable {P:Program}{w:World}{A:Around}{E:Value->Shared->Prop}{s:Shared}
theorem Hn{it t:Addr}{items:Array Value}(hne:t≠it):∀ (n i:Nat) (s:Shared) (Q:List Value->Shared->Prop),s.heap.IsListIter it t i->s.heap.IsList t items->i+n<=items.size ->
  (∀ h',h'.IsListIter it t (i+n)->Heap.SameBut it s.heap h'->Q ((items.toList.drop i).take n) {s with heap:=h'})->wpAny (model P w) A (draw (.ref it) n) Q E s
 | 0,i,s,Q,hit,_,_,hQ=>by
  show wpAny _ _ (pure []) Q E s
  exact af (by simpa using hQ s.heap hit (Heap.SameBut.refl ..))
 | n+1,i,s,Q,hit,ht,hle,hQ=>by
  have hlt:i<items.size:=by omega
  show wpAny _ _ (pyNext (.ref it)>>=_) Q E s
  refine ae (wpAny_pyNext_list_item hit ht (x:=items[i]) (by simp[hlt]) fun h₁ hit₁ hs₁=>?_)
  refine ae (wpAny_holding (Hn hne n (i+1) _ _ hit₁ (ht.at fun o e=>hs₁.extBut _ _ hne e) #[0] fun h₂ hit₂ hs₂=>af ?_))
  have hd:items.toList.drop i=items[i]::items.toList.drop (i+1):=by simp[List.drop_eq_getElem_cons,hlt]
  have:=hQ h₂ (by rw[show i+(n+1)=i+1+n by omega];exact hit₂) (hs₁.trans hs₂)
  rw[hd,List.take_succ_cons]at this;exact this
theorem BH{t:Addr}{items:Array Value}{Q:List Value->Shared->Prop}(hh:A.handled=none)(ht:s.heap.IsList t items)
  (hQ:∀ h',Heap.ExtBut s.heap.objs.size s.heap h'->Q items.toList {s with heap:=h'}):wpAny (model P w) A (unpackItems (.ref t) items.size none) Q E s:=by
 have hlt:t≠s.heap.objs.size:=by obtain⟨o,ho,_⟩:=ht;exact ao (ag ho)
 have hT:s.TypeIs (.ref t) "list":=by obtain⟨o,ho,hc,_⟩:=ht;exact⟨o,ho,hc⟩
 unfold unpackItems;refine ae ?_;unfold notIterableAtAll;refine ae (wpAny_specialOf hT PySem.F.slot_list_iter.lookup ?_);refine af ?_;simp only[Bool.false_eq_true,if_false];refine ae (wpAny_holding (wpAny_pyIter_list ht ?_));refine ae (wpAny_holding (Hn hlt items.size 0 _ _ ⟨_,ai _ rfl,rfl,rfl⟩ (ht.push _) #[0] fun h₁ hit₁ hs₁=>?_))
 have hall:List.take items.size (List.drop 0 items.toList)=items.toList:=by
  rw[List.drop_zero];exact List.take_of_length_le #[2]
 rw[hall];rw[if_neg #[2]]
 have ht₁:h₁.IsList t items:=(ht.push _).at fun o e=>hs₁.extBut _ _ hlt e
 refine ae (wpAny_holding (wpAny_pyNext_list_end hh hit₁ ht₁ #[2] fun h₂ he₂=>?_))
 simp only[Option.isSome_none,Bool.false_eq_true,if_false];exact af (hQ h₂ fun b o hb e=>he₂ b o hb (hs₁.extBut b o hb (ah _ e)))
theorem Xf{env:Env}{elts:List Expr}{x1}{pos:Pos}{t:Addr}{items:Array Value}{Q:Unit->Shared->Prop}(hh:A.handled=none)(ht:s.heap.IsList t items)
  (hn:(assignEach elts env).length=items.size) (hstar:(assignEach elts env).findIdx? (·.1)=none)
  (h:∀ h',Heap.ExtBut s.heap.objs.size s.heap h'->wpAny (model P w) A (assignInOrder ((assignEach elts env).map (·.2)) items.toList) Q E {s with heap:=h'}) :
  wpAny (model P w) A (assign (.Tuple elts x1 pos) env (.ref t)) Q E s:=by
 rw[assign_Tuple];refine ae (wpAny_standAt ?_);unfold unpack;rw[hn,hstar];exact ae (wpAny_holding (BH hh ht h))
end
section
variable {X:Cx}{pos:Pos}
@[simp] def gL(n:Nat)(g:gK):DG:=fun x d m Q=>∃ ps,x=.dat (.list ps)/\ps.length=n/\g ps d m Q
theorem EZ{es:List Expr}{j n:Nat}{g:gK}(hc:X.calm=true)(h:PGs X es (iF X.K g))(hn:(assignEach es X.env).length=n:=by rfl)(hst:(assignEach es X.env).findIdx? (·.1)=none:=by rfl) :
  PG X (.Tuple es j pos) (LG X.K (gL n g)):=by
 intro pins s σ H v u Q I r hw;obtain⟨Z,x,d,m,R,ok,rs,rd,⟨ps,rfl,hl,hg⟩,k⟩:=hw;simp only[RD,RP]at rd;obtain⟨a,vs,rfl,_,h1,h2⟩:=rd
 cases r
 obtain⟨its,rv,pl,hz⟩:=I.list h1;have e1:=h2.length
 have e2:=rv.length
 refine Xf (I.ok.hd hc) pl.isList (by simp[hn];omega) hst fun h' hx=>?_
 have I1:Inv X pins σ H {s with heap:=h'}:=I.kept (t':=s.toks) fun b o e=>hx b o (ao (ag e)) e
 exact h pins _ σ H vs _ Q I1 #[4,rv] ⟨Z,ps,d,m,R,ok,rs,h2,hg,k⟩
end
structure QE (X:Cx) (e:Expr) (t:TE):Prop where
 pe:PE X e t
structure QA (X:Cx) (e:List Expr) (t:TA):Prop where
 pe:PA X e t
structure QT (X:Cx) (e:Expr) (t:TT):Prop where
 pe:PT X e t
structure QW (X:Cx) (e:Expr) (t:TT):Prop where
 pe:PW X e t
structure QS (X:Cx) (e:Stmt) (t:TS):Prop where
 pe:PS X e t
structure QSs (X:Cx) (e:List Stmt) (t:TS):Prop where
 pe:PSs X e t
structure QG (X:Cx) (e:Expr) (t:TG):Prop where
 pe:PG X e t
structure QGs (X:Cx) (e:List Expr) (t:iK):Prop where
 pe:PGs X e t
structure QO (X:Cx) (e:Option Expr) (t:TO):Prop where
 pe:PO X e t
structure QF (X:Cx) (e:List Expr) (t:TT):Prop where
 pe:PF X e t
structure QI (X:Cx) (tg e:Expr) (t:TI):Prop where
 pe:PI X tg e t
theorem QW.pt{X:Cx}{e:Expr}{t:TT}(h:QW X e t):QT X e t:=⟨h.pe.pt⟩
section
variable {X:Cx}{pos:Pos}
theorem aC(i:Nat){x:Str}(hN:X.N[i]?=some x:=by rfl)(hv:gX X.env.scope x:=by first | exact Or.inl rfl | exact Or.inr (Or.inl rfl) | exact Or.inr (Or.inr rfl))(hd:(x==("__debug__" : Str))=false:=by decide)(hcd:(x==("__classdict__" : Str))=false:=by decide):QE X (.Name x pos) (LE X.K (aA i)):=⟨l8 (i:=i) (hN:=hN) (hv:=hv) (hd:=hd) (hcd:=hcd)⟩
theorem aK{i:Int}{j:Nat}:QE X (.Constant (.int i) j pos) (LE X.K (aE (.int i))):=⟨x5 ⟩
theorem jQ{b:Bool}{j:Nat}:QE X (.Constant (.bool b) j pos) (LE X.K (aE (.bool b))):=⟨BU ⟩
theorem Yh{j:Nat}:QE X (.Constant .none j pos) (LE X.K (aE .none)):=⟨Tk ⟩
theorem aM{x:Str}{j:Nat}:QE X (.Constant (.str x) j pos) (LE X.K (aE (.str x))):=⟨Wx ⟩
end
section
variable {X:Cx}{a b c:Expr}{f g:DE}{pos:Pos}
theorem bA{op:Operator}{r:D2}(ho:dZ X (binaryOp op) r)(ha:QE X a (LE X.K f))(hb:QE X b (LE X.K g)):QE X (.BinOp a op b pos) (LE X.K (aF r f g)):=⟨Tt (ho:=ho) (ha:=ha.pe) (hb:=hb.pe)⟩
theorem jC{op:CmpOp}{r:D2}(ho:dZ X (compareOp op) r)(ha:QE X a (LE X.K f))(hb:QE X b (LE X.K g))(hm:behindInMarks op b=false:=by exact pZ _):QE X (.Compare a [op] [b] pos) (LE X.K (aF r f g)):=⟨AV (ho:=ho) (ha:=ha.pe) (hb:=hb.pe) (hm:=hm)⟩
theorem bR{op:CmpOp}{r:D2}(ho:dZ X (compareOp op) r)(ha:QE X a (LE X.K f))(hb:QE X b (LE X.K g))(hm:behindInMarks op b=false:=by exact pZ _):QT X (.Compare a [op] [b] pos) (LT X.K (bL (aF r f g))):=⟨GJ (ho:=ho) (ha:=ha.pe) (hb:=hb.pe) (hm:=hm)⟩
theorem EV(h:QE X a (LE X.K f))(he:∀ whole,isTrue a X.env whole=(do let v <- whole;standAt a.pos;holding [v] (truthy v)):=by intro _;rfl):QT X a (LT X.K (bL f)):=⟨Q9 (h:=h.pe) (he:=he)⟩
end
section
variable {X:Cx}{a b c:Expr}{rest:List Expr}{f g:DE}{t u:DT}{pos:Pos}
theorem lX(ha:QT X a (LT X.K t)):QW X (.BoolOp .And [a] pos) (LT X.K t):=⟨CK (ha:=ha.pe)⟩
theorem nT(ha:QT X a (LT X.K t)):QW X (.BoolOp .Or [a] pos) (LT X.K t):=⟨D7 (ha:=ha.pe)⟩
theorem kU(ha:QT X a (LT X.K t))(hb:QW X (.BoolOp .And (b::rest) pos) (LT X.K u)):QW X (.BoolOp .And (a::b::rest) pos) (LT X.K (jL t u)):=⟨EF (ha:=ha.pe) (hb:=hb.pe)⟩
theorem mZ(ha:QT X a (LT X.K t))(hb:QW X (.BoolOp .Or (b::rest) pos) (LT X.K u)):QW X (.BoolOp .Or (a::b::rest) pos) (LT X.K (lB t u)):=⟨J5 (ha:=ha.pe) (hb:=hb.pe)⟩
theorem Ks{op:BoolOp}(h:QE X a (LE X.K f)):QE X (.BoolOp op [a] pos) (LE X.K f):=⟨K5 (h:=h.pe)⟩
theorem CB(ha:QE X a (LE X.K f))(hb:QE X (.BoolOp .And (b::rest) pos) (LE X.K g)):QE X (.BoolOp .And (a::b::rest) pos) (LE X.K (sO f g)):=⟨R0 (ha:=ha.pe) (hb:=hb.pe)⟩
theorem Vv(ha:QE X a (LE X.K f))(hb:QE X (.BoolOp .Or (b::rest) pos) (LE X.K g)):QE X (.BoolOp .Or (a::b::rest) pos) (LE X.K (sP f g)):=⟨j4 (ha:=ha.pe) (hb:=hb.pe)⟩
theorem ES(ha:QE X a (LE X.K f)):QE X (.UnaryOp .Not a pos) (LE X.K (tI f)):=⟨v8 (ha:=ha.pe)⟩
theorem V3(hc:QT X c (LT X.K t))(ha:QE X a (LE X.K f))(hb:QE X b (LE X.K g)):QE X (.IfExp c a b pos) (LE X.K (sR t f g)):=⟨T5 (hc:=hc.pe) (ha:=ha.pe) (hb:=hb.pe)⟩
end
section
variable {X:Cx}{e:Expr}{es:List Expr}{f:DE}{g:DA}{pos:Pos}
theorem aH  : QA X [] (LA X.K aG):=⟨pP ⟩
theorem aD(ha:QE X e (LE X.K f))(hr:QA X es (LA X.K g))(hs:starEach (e::es) X.env=(false,eval e X.env)::starEach es X.env:=by rfl):QA X (e::es) (LA X.K (aB f g)):=⟨mM (ha:=ha.pe) (hr:=hr.pe) (hs:=hs)⟩
theorem bZ{j:Nat}(h:QA X es (LA X.K g)):QE X (.Tuple es j pos) (LE X.K (bQ g)):=⟨Xz (h:=h.pe)⟩
theorem cL(h:QA X es (LA X.K g)):QE X (.List es pos) (LE X.K (cI g)):=⟨AL (h:=h.pe)⟩
theorem iT(h:QA X es (LA X.K g)):QE X (.List es pos) (LE X.K (gV g)):=⟨ER (h:=h.pe)⟩
end
section
variable {X:Cx}{a b c e:Expr}{es:List Expr}{f g:DE}{ga:DA}{pos p2 p:Pos}
theorem Iz(ha:QE X a (LE X.K f)):QE X (.UnaryOp .USub a pos) (LE X.K (qT f)):=⟨O4 (ha:=ha.pe)⟩
theorem aP(ha:QE X a (LE X.K f))(hb:QE X b (LE X.K g))(hs:uX b:=by exact fun _ _=>rfl):QE X (.Subscript a b pos) (LE X.K (aF aN f g)):=⟨B8 (ha:=ha.pe) (hb:=hb.pe) (hs:=hs)⟩
theorem iS  : QO X none (LO X.K fH):=⟨FJ ⟩
theorem eC(ha:QE X a (LE X.K f)):QO X (some a) (LO X.K (cY f)):=⟨A9 (ha:=ha.pe)⟩
theorem bY{x:Str}{id:String}{r:DC}(hc:CallD X (.builtin id) r)(hg:Gl X x)(hm:X.mg x=none)(hv:bootBuiltins x=some (.builtin id))(ha:QA X (e::es) (LA X.K ga))(hn:x≠"__name__":=by decide)(hdb:(x==("__debug__" : Str))=false:=by decide)(he:starEach (e::es) X.env=(false,eval e X.env)::starEach es X.env:=by rfl)(hpl:(backTo pos (starEach es X.env)).any (·.1)=false:=by rfl):QE X (.Call (.Name x p) (e::es) [] pos) (LE X.K (bD r ga)):=⟨CS (hc:=hc) (hg:=hg) (hm:=hm) (hv:=hv) (ha:=ha.pe) (hn:=hn) (hdb:=hdb) (he:=he) (hpl:=hpl)⟩
theorem dH{x:Str}{T:String}{r:DC}(hc:CallD X (.type T) r)(hg:Gl X x)(hm:X.mg x=none)(hv:bootBuiltins x=some (.type T))(ha:QA X (e::es) (LA X.K ga))(hn:x≠"__name__":=by decide)(hdb:(x==("__debug__" : Str))=false:=by decide)(he:starEach (e::es) X.env=(false,eval e X.env)::starEach es X.env:=by rfl)(hpl:(backTo pos (starEach es X.env)).any (·.1)=false:=by rfl):QE X (.Call (.Name x p) (e::es) [] pos) (LE X.K (bD r ga)):=⟨Yw (hc:=hc) (hg:=hg) (hm:=hm) (hv:=hv) (ha:=ha.pe) (hn:=hn) (hdb:=hdb) (he:=he) (hpl:=hpl)⟩
end
section
variable {X:Cx}{st:Stmt}{rest body orelse:List Stmt}{t u b:DS}{e c tg iter:Expr}{f:DE}{tc:DT}{pos:Pos}
theorem aR  : QSs X [] (LS X.K aQ):=⟨A8 ⟩
theorem aJ(h1:QS X st (LS X.K t))(h2:QSs X rest (LS X.K u)):QSs X (st::rest) (LS X.K (aI t u)):=⟨AE (h1:=h1.pe) (h2:=h2.pe)⟩
theorem fV(he:QE X e (LE X.K f))(hs:swapsWith e none pos.line X.env=pure false:=by rfl):QS X (.Expr e pos) (LS X.K (eW f)):=⟨C5 (he:=he.pe) (hs:=hs)⟩
theorem bJ(he:QE X e (LE X.K f)):QS X (.Return (some e) pos) (LS X.K (bG f)):=⟨p8 (he:=he.pe)⟩
theorem cS(hc:QT X c (LT X.K tc))(h1:QSs X body (LS X.K t))(h2:QSs X orelse (LS X.K u)):QS X (.If c body orelse pos) (LS X.K (cO tc t u)):=⟨E4 (hc:=hc.pe) (h1:=h1.pe) (h2:=h2.pe)⟩
theorem bB(i:Nat){x:Str}{pos':Pos}(hN:X.N.Nodup)(he:QE X e (LE X.K f))(hi:X.N[i]?=some x:=by rfl)(hx:hU X.env.scope x:=by first | exact Or.inl rfl | exact Or.inr rfl)(hs:swapsWith e (some (.Name x pos')) pos.line X.env=pure false:=by rfl)(hf:X.fn x=true\/X.env.scope.names.lookup x=some .local:=by first | exact .inl rfl | exact .inr rfl):QS X (.Assign [.Name x pos'] e pos) (LS X.K (aZ i f)):=⟨Ux (i:=i) (hN:=hN) (he:=he.pe) (hi:=hi) (hx:=hx) (hs:=hs) (hf:=hf)⟩
theorem bH(i:Nat){x:Str}(hN:X.N.Nodup)(hi:X.N[i]?=some x:=by rfl)(hx:hU X.env.scope x:=by first | exact Or.inl rfl | exact Or.inr rfl)(hf:X.fn x=true\/X.env.scope.names.lookup x=some .local:=by first | exact .inl rfl | exact .inr rfl):QG X (.Name x pos) (LG X.K (gN i)):=⟨Y3 (i:=i) (hN:=hN) (hi:=hi) (hx:=hx) (hf:=hf)⟩
theorem eE  : QGs X [] (iF X.K cG):=⟨C2 ⟩
theorem bS{es:List Expr}{g:DG}{r:gK}(h1:QG X e (LG X.K g))(h2:QGs X es (iF X.K r))(hs:(assignEach (e::es) X.env).map (·.2)=assign e X.env::(assignEach es X.env).map (·.2):=by rfl):QGs X (e::es) (iF X.K (bC g r)):=⟨Yd (h1:=h1.pe) (h2:=h2.pe) (hs:=hs)⟩
theorem eS{es:List Expr}{j n:Nat}{g:gK}(hc:X.calm=true)(h:QGs X es (iF X.K g))(hn:(assignEach es X.env).length=n:=by rfl)(hst:(assignEach es X.env).findIdx? (·.1)=none:=by rfl):QG X (.Tuple es j pos) (LG X.K (gT n g)):=⟨C1 (hc:=hc) (h:=h.pe) (hn:=hn) (hst:=hst)⟩
theorem nN{g:DG}(he:QE X e (LE X.K f))(hg:QG X tg (LG X.K g))(hs:swapsWithSole [tg] e pos.line X.env=pure false:=by rfl)(hw:swappedStores [tg] e X.env=pure none:=by rfl)(h1:(assignEach [tg] X.env).map (·.2)=[assign tg X.env]:=by rfl):QS X (.Assign [tg] e pos) (LS X.K (lG f g)):=⟨GL (he:=he.pe) (hg:=hg.pe) (hs:=hs) (hw:=hw) (h1:=h1)⟩
theorem kP(i j:Nat){x y:Str}{a b:Expr}{g:DA}{px py pt:Pos}{kt k2 pt2}(hc:X.calm=true)(hN:X.N.Nodup)(ha:QA X [a,b] (LA X.K g))(hi:X.N[i]?=some x:=by rfl)(hj:X.N[j]?=some y:=by rfl)(hij:i≠j:=by decide)(hx:X.env.scope.names.lookup x=some .local:=by rfl)(hy:X.env.scope.names.lookup y=some .local:=by rfl)(hw:swappedStores [.Tuple [.Name x px,.Name y py] kt pt] (.Tuple [a,b] k2 pt2) X.env=pure (some [x,y]):=by rfl)(hs:swapsWithSole [.Tuple [.Name x px,.Name y py] kt pt] (.Tuple [a,b] k2 pt2) pos.line X.env=pure false:=by rfl):QS X (.Assign [.Tuple [.Name x px,.Name y py] kt pt] (.Tuple [a,b] k2 pt2) pos) (LS X.K (iQ i j g)):=⟨EM (i:=i) (j:=j) (hc:=hc) (hN:=hN) (ha:=ha.pe) (hi:=hi) (hj:=hj) (hij:=hij) (hx:=hx) (hy:=hy) (hw:=hw) (hs:=hs)⟩
theorem tT{o i:Expr}{fo fi:DE}{tpos:Pos}(he:QE X e (LE X.K f))(ho:QE X o (LE X.K fo))(hi:QE X i (LE X.K fi))(ha:∀ v,assign (.Subscript o i tpos) X.env v=(do
   let ov <- holding [v] (eval o X.env)
   let iv <- holding [v,ov] (eval i X.env)
   standAt tpos
   holding [v,ov,iv] (setItem ov iv v)
   release [v,ov,iv] []):=by intro _;rfl) (hs:swapsWithSole [.Subscript o i tpos] e pos.line X.env=pure false:=by rfl) (hw:swappedStores [.Subscript o i tpos] e X.env=pure none:=by rfl) (h1:(assignEach [.Subscript o i tpos] X.env).map (·.2)=[assign (.Subscript o i tpos) X.env]:=by rfl):QS X (.Assign [.Subscript o i tpos] e pos) (LS X.K (nP fo fi f)):=⟨k6 (he:=he.pe) (ho:=ho.pe) (hi:=hi.pe) (ha:=ha) (hs:=hs) (hw:=hw) (h1:=h1)⟩
theorem E3(hp:PassesOwn (model X.prog X.w) X.A X.env X.xe)(hc:QT X c (LT X.K tc))(hb:QSs X body (LS X.K b)):QS X (.While c body [] pos) (LS X.K (wO tc b)):=⟨E9 (hp:=hp) (hc:=hc.pe) (hb:=hb.pe)⟩
theorem dL(ha:QE X e (LE X.K f)):QI X tg e (LI X.K (cJ f)):=⟨Sn (ha:=ha.pe)⟩
theorem mJ{p:Pos}(hg:Gl X "range")(hm:X.mg "range"=none)(ha:QE X e (LE X.K f))(hs:starEach [e] X.env=[(false,eval e X.env)]:=by rfl):QI X tg (.Call (.Name "range" p) [e] [] pos) (LI X.K (jT f)):=⟨Z9 (hg:=hg) (hm:=hm) (ha:=ha.pe) (hs:=hs)⟩
theorem eT{fi:DI}{g:DG}(hp:PassesOwn (model X.prog X.w) X.A X.env X.xe)(hc:X.calm=true)(hi:QI X tg iter (LI X.K fi))(hg:QG X tg (LG X.K g))(hb:QSs X body (LS X.K b))(hs:∀ x,foldedSetIterable iter X.env x=pure x:=by intro _;rfl):QS X (.For tg iter body [] pos) (LS X.K (dQ fi g b)):=⟨Vy (hp:=hp) (hc:=hc) (hi:=hi.pe) (hg:=hg.pe) (hb:=hb.pe) (hs:=hs)⟩
end
section
variable {X:Cx}{a e:Expr}{es:List Expr}{f:DE}{ga:DA}{pos p p1 p2 p3 p4:Pos}
theorem u8{k n:Nat}{fa:Addr}{fd:FuncData}{ps:List Str}{sp:DC}{x:Str}(F:FnOk X.prog X.w X.K X.mg X.base eD k fa fd ps (LSp X.K n sp))(hr:Room k X.A)(hm:X.mg x=some (.ref fa))(hk:PySem.W.keepIn X.K (.ref fa)=true)(hb:Binds X.K fd ps [])(hx:X.xe=fun _ _=>False)(ha:QA X (e::es) (LA X.K ga))(hg:Gl X x:=by rfl)(hdb:(x==("__debug__" : Str))=false:=by decide)(he:starEach (e::es) X.env=(false,eval e X.env)::starEach es X.env:=by rfl)(hpl:(backTo pos (starEach es X.env)).any (·.1)=false:=by rfl):QE X (.Call (.Name x p) (e::es) [] pos) (LE X.K (aT n sp ga)):=⟨P6 (F:=F) (hr:=hr) (hm:=hm) (hk:=hk) (hb:=hb) (hx:=hx) (ha:=ha.pe) (hg:=hg) (hdb:=hdb) (he:=he) (hpl:=hpl)⟩
end
section
theorem fR{Y:Cx}:QF Y [] (LT Y.K cX):=⟨u5 ⟩
theorem pX{Y:Cx}{c:Expr}{t:TT}(h:QT Y c t):QF Y [c] t:=⟨BB (h:=h.pe)⟩
end
section
variable {X:Cx}{a e o:Expr}{es:List Expr}{f g:DE}{ga:DA}{pos p p1 p2:Pos}
theorem Vr{x:Str}{c:Addr}{zs:List Str}(hg:Gl X x)(hm:X.mg x=some (.ref c))(hk:KT X.K c zs)(hd:(x==("__debug__" : Str))=false:=by decide):QE X (.Name x pos) (LE X.K (aE (.tuple (zs.map .str)))):=⟨Rz (hg:=hg) (hm:=hm) (hk:=hk) (hd:=hd)⟩
theorem FW{x:Str}{c:Addr}{zs:List Str}{apos cpos:Pos}(hg:Gl X x)(hm:X.mg x=some (.ref c))(hk:KT X.K c zs)(he:QE X e (LE X.K g))(hd:(x==("__debug__" : Str))=false:=by decide)(hbase:attributeBase (.Name x p) "index" X.env (eval (.Name x p) X.env)=eval (.Name x p) X.env:=by rfl)(hfew:((backTo cpos (starEach [e] X.env)).all (fun x=>!x.1)&&(backToKw cpos (keywordEach [] X.env)).all (fun x=>x.1.isSome)&&decide ([e].length+([]:List Keyword).length+(if ([]:List Keyword).isEmpty then 0 else 1)<30))=true:=by rfl)(hline:(apos.endLine==cpos.line)=true:=by rfl)(hs:starEach [e] X.env=(false,eval e X.env)::starEach [] X.env:=by rfl):QE X (.Call (.Attribute (.Name x p) "index" apos) [e] [] cpos) (LE X.K (oN zs g)):=⟨i6 (hg:=hg) (hm:=hm) (hk:=hk) (he:=he.pe) (hd:=hd) (hbase:=hbase) (hfew:=hfew) (hline:=hline) (hs:=hs)⟩
theorem C7{tg:Expr}(hg:Gl X "reversed")(hm:X.mg "reversed"=none)(ha:QE X e (LE X.K f))(hs:starEach [e] X.env=[(false,eval e X.env)]:=by rfl):QI X tg (.Call (.Name "reversed" p) [e] [] pos) (LI X.K (rA f)):=⟨L9 (hg:=hg) (hm:=hm) (ha:=ha.pe) (hs:=hs)⟩
end
section
variable {X:Cx}{tg iter elt:Expr}{ifs:List Expr}{scope:Scope}{fi:DI}{g:DG}{t:DT}{f:DE}{pos:Pos}
theorem fZ(NC:List Str)(src:List (Option Nat))(hc:X.calm=true)(hi:QI X tg iter (LI X.K fi))(hg:∀ cl C s2 H2 pins fp,QG (aX X scope cl C NC s2 H2 pins fp) tg (LG X.K g))(ht:∀ cl C s2 H2 pins fp,QF (aX X scope cl C NC s2 H2 pins fp) ifs (LT X.K t))(he:∀ cl C s2 H2 pins fp,QE (aX X scope cl C NC s2 H2 pins fp) elt (LE X.K f))(hkind:scope.kind=.function:=by rfl)(hB:chkB scope X.env=true:=by rfl)(hS:chkS X.N scope X.env NC src=true:=by rfl)(hs:∀ x,foldedSetIterable iter X.env x=pure x:=by intro _;rfl):QE X (.ListComp elt [⟨tg,iter,ifs,0⟩] scope pos) (LE X.K (cW src fi g t f)):=⟨Xu (NC:=NC) (src:=src) (hc:=hc) (hi:=hi.pe) (hg:=fun cl C s2 H2 pins fp=>(hg cl C s2 H2 pins fp).pe) (ht:=fun cl C s2 H2 pins fp=>(ht cl C s2 H2 pins fp).pe) (he:=fun cl C s2 H2 pins fp=>(he cl C s2 H2 pins fp).pe) (hkind:=hkind) (hB:=hB) (hS:=hS) (hs:=hs)⟩
theorem Hm(i:Nat){y:Str}{py spos:Pos}(NC:List Str)(src:List (Option Nat))(hc:X.calm=true)(hN:X.N.Nodup)(hi:QI X tg iter (LI X.K fi))(hg:∀ cl C s2 H2 pins fp,QG (aX X scope cl C NC s2 H2 pins fp) tg (LG X.K g))(ht:∀ cl C s2 H2 pins fp,QF (aX X scope cl C NC s2 H2 pins fp) ifs (LT X.K t))(he:∀ cl C s2 H2 pins fp,QE (aX X scope cl C NC s2 H2 pins fp) elt (LE X.K f))(hkind:scope.kind=.function:=by rfl)(hB:chkB scope X.env=true:=by rfl)(hS:chkS X.N scope X.env NC src=true:=by rfl)(hi2:X.N[i]?=some y:=by rfl)(hx:hU X.env.scope y:=by first | exact Or.inl rfl | exact Or.inr rfl)(hf:X.fn y=true\/X.env.scope.names.lookup y=some .local:=by first | exact .inl rfl | exact .inr rfl)(hsw:swapsWith (.ListComp elt [⟨tg,iter,ifs,0⟩] scope pos) (some (.Name y py)) spos.line X.env=pure true:=by rfl)(hs:∀ x,foldedSetIterable iter X.env x=pure x:=by intro _;rfl):QS X (.Assign [.Name y py] (.ListComp elt [⟨tg,iter,ifs,0⟩] scope pos) spos) (LS X.K (aZ i (cW src fi g t f))):=⟨b9 (i:=i) (NC:=NC) (src:=src) (hc:=hc) (hN:=hN) (hi:=hi.pe) (hg:=fun cl C s2 H2 pins fp=>(hg cl C s2 H2 pins fp).pe) (ht:=fun cl C s2 H2 pins fp=>(ht cl C s2 H2 pins fp).pe) (he:=fun cl C s2 H2 pins fp=>(he cl C s2 H2 pins fp).pe) (hkind:=hkind) (hB:=hB) (hS:=hS) (hi2:=hi2) (hx:=hx) (hf:=hf) (hsw:=hsw) (hs:=hs)⟩
end
section
variable {X:Cx}{a b:Expr}{elts:List Expr}{j:Nat}{f g:DE}{pos p p2:Pos}
theorem E5(hg:Gl X "zip")(hm:X.mg "zip"=none)(ha:QE X a (LE X.K f))(hb:QE X b (LE X.K g))(hs:starEach [a,b] X.env=[(false,eval a X.env),(false,eval b X.env)]:=by rfl)(hs2:starEach [b] X.env=[(false,eval b X.env)]:=by rfl):QI X (.Tuple elts j p2) (.Call (.Name "zip" p) [a,b] [] pos) (LI X.K (uA f g)):=⟨So (hg:=hg) (hm:=hm) (ha:=ha.pe) (hb:=hb.pe) (hs:=hs) (hs2:=hs2)⟩
end
section
variable {X:Cx}{a e o:Expr}{es:List Expr}{f g:DE}{ga:DA}{pos p p1 p2:Pos}
theorem fX{apos cpos:Pos}(ho:QE X o (LE X.K f))(he:QE X e (LE X.K g))(hbase:attributeBase o "append" X.env (eval o X.env)=eval o X.env:=by rfl)(hfew:((backTo cpos (starEach [e] X.env)).all (fun x=>!x.1)&&(backToKw cpos (keywordEach [] X.env)).all (fun x=>x.1.isSome)&&decide ([e].length+([]:List Keyword).length+(if ([]:List Keyword).isEmpty then 0 else 1)<30))=true:=by rfl)(hline:(apos.endLine==cpos.line)=true:=by rfl)(hs:starEach [e] X.env=(false,eval e X.env)::starEach [] X.env:=by rfl):QE X (.Call (.Attribute o "append" apos) [e] [] cpos) (LE X.K (fF f g)):=⟨H0 (ho:=ho.pe) (he:=he.pe) (hbase:=hbase) (hfew:=hfew) (hline:=hline) (hs:=hs)⟩
theorem fP{lo hi:Option Expr}{tl th:DO}(ha:QE X a (LE X.K f))(hl:QO X lo (LO X.K tl))(hu:QO X hi (LO X.K th)):QE X (.Subscript a (.Slice lo hi none p2) pos) (LE X.K (dG f tl th)):=⟨a8 (ha:=ha.pe) (hl:=hl.pe) (hu:=hu.pe)⟩
end
section
variable {X:Cx}{o i e:Expr}{fo fi f:DE}{pos tpos:Pos}
theorem pB  : QE X (.Dict [] [] pos) (LE X.K mI):=⟨S5 ⟩
theorem pV(hu:X.A.units+100<cLine)(he:QE X e (LE X.K f))(ho:QE X o (LE X.K fo))(hi:QE X i (LE X.K fi))(hs:swapsWith e (some (.Subscript o i tpos)) pos.line X.env=pure false:=by rfl):QS X (.Assign [.Subscript o i tpos] e pos) (LS X.K (kI fo fi f)):=⟨Tj (hu:=hu) (he:=he.pe) (ho:=ho.pe) (hi:=hi.pe) (hs:=hs)⟩
theorem kF(hu:X.A.units+100<cLine)(ho:QE X o (LE X.K fo))(hi:QE X i (LE X.K fi))(hs:jU i:=by exact fun _ _=>rfl):QE X (.Subscript o i pos) (LE X.K (iX fo fi)):=⟨BP (hu:=hu) (ho:=ho.pe) (hi:=hi.pe) (hs:=hs)⟩
end
section
variable {X:Cx}{e g:Expr}{f fg:DE}{tg:Expr}{pos:Pos}
theorem Pu{p:Pos}(hg:Gl X "range")(hm:X.mg "range"=none)(ha:QE X e (LE X.K f))(hb:QE X g (LE X.K fg))(hs:starEach [e,g] X.env=[(false,eval e X.env),(false,eval g X.env)]:=by rfl)(hs2:starEach [g] X.env=[(false,eval g X.env)]:=by rfl):QI X tg (.Call (.Name "range" p) [e,g] [] pos) (LI X.K (rG f fg)):=⟨U7 (hg:=hg) (hm:=hm) (ha:=ha.pe) (hb:=hb.pe) (hs:=hs) (hs2:=hs2)⟩
end
section
variable {X:Cx}{o i e:Expr}{es:List Expr}{fo f:DE}{fa:DA}{pos tpos ipos:Pos}{j:Nat}
theorem Xq  : QE X (.Dict [] [] pos) (LE X.K rY):=⟨Up ⟩
theorem Qt(hu:X.A.units+100<cLine)(he:QE X e (LE X.K f))(ho:QE X o (LE X.K fo))(ha:QA X es (LA X.K fa))(hs:swapsWith e (some (.Subscript o (.Tuple es j ipos) tpos)) pos.line X.env=pure false:=by rfl):QS X (.Assign [.Subscript o (.Tuple es j ipos) tpos] e pos) (LS X.K (mU fo fa f)):=⟨FY (hu:=hu) (he:=he.pe) (ho:=ho.pe) (ha:=ha.pe) (hs:=hs)⟩
theorem L3(hu:X.A.units+100<cLine)(ho:QE X o (LE X.K fo))(ha:QA X es (LA X.K fa))(hs:jU (.Tuple es j ipos):=by exact fun _ _=>rfl):QE X (.Subscript o (.Tuple es j ipos) pos) (LE X.K (pA fo fa)):=⟨A6 (hu:=hu) (ho:=ho.pe) (ha:=ha.pe) (hs:=hs)⟩
end
section
variable {X:Cx}{tg iter tg2 iter2 elt:Expr}{ifs ifs2:List Expr}{scope:Scope}{NC:List Str}{fi fi2:DI}{g g2:DG}{t t2:DT}{f:DE}{pos:Pos}
theorem e6{k n:Nat}{fa:Addr}{fd:FuncData}{ps:List Str}{sp:DC}{x:Str}{p:Pos}(F:FnOk X.prog X.w X.K X.mg X.base eD k fa fd ps (LSp X.K n sp))(hr:Room k X.A)(hm:X.mg x=some (.ref fa))(hk:PySem.W.keepIn X.K (.ref fa)=true)(hb:Binds X.K fd ps [])(hx:X.xe=fun _ _=>False)(hg:Gl X x:=by rfl)(hdb:(x==("__debug__" : Str))=false:=by decide):QE X (.Call (.Name x p) [] [] pos) (LE X.K (aT n sp aG)):=⟨Zl (F:=F) (hr:=hr) (hm:=hm) (hk:=hk) (hb:=hb) (hx:=hx) (hg:=hg) (hdb:=hdb)⟩
theorem C9(NC:List Str)(src:List (Option Nat))(hc:X.calm=true)(hi:QI X tg iter (LI X.K fi))(hg:∀ cl C s2 H2 pins fp,QG (aX X scope cl C NC s2 H2 pins fp) tg (LG X.K g))(ht:∀ cl C s2 H2 pins fp,QF (aX X scope cl C NC s2 H2 pins fp) ifs (LT X.K t))(hi2:∀ cl C s2 H2 pins fp,QI (aX X scope cl C NC s2 H2 pins fp) tg2 iter2 (LI X.K fi2))(hg2:∀ cl C s2 H2 pins fp,QG (aX X scope cl C NC s2 H2 pins fp) tg2 (LG X.K g2))(ht2:∀ cl C s2 H2 pins fp,QF (aX X scope cl C NC s2 H2 pins fp) ifs2 (LT X.K t2))(he:∀ cl C s2 H2 pins fp,QE (aX X scope cl C NC s2 H2 pins fp) elt (LE X.K f))(hkind:scope.kind=.function:=by rfl)(hB:chkB scope X.env=true:=by rfl)(hS:chkS X.N scope X.env NC src=true:=by rfl)(hs2:∀ cl C x,foldedSetIterable iter2 (compEnvC scope cl C X.env) x=pure x:=by intro _ _ _;rfl)(hs:∀ x,foldedSetIterable iter X.env x=pure x:=by intro _;rfl):QE X (.ListComp elt [⟨tg,iter,ifs,0⟩,⟨tg2,iter2,ifs2,0⟩] scope pos) (LE X.K (rE src fi g t fi2 g2 t2 f)):=⟨Vs (NC:=NC) (src:=src) (hc:=hc) (hi:=hi.pe) (hg:=fun cl C s2 H2 pins fp=>(hg cl C s2 H2 pins fp).pe) (ht:=fun cl C s2 H2 pins fp=>(ht cl C s2 H2 pins fp).pe) (hi2:=fun cl C s2 H2 pins fp=>(hi2 cl C s2 H2 pins fp).pe) (hg2:=fun cl C s2 H2 pins fp=>(hg2 cl C s2 H2 pins fp).pe) (ht2:=fun cl C s2 H2 pins fp=>(ht2 cl C s2 H2 pins fp).pe) (he:=fun cl C s2 H2 pins fp=>(he cl C s2 H2 pins fp).pe) (hkind:=hkind) (hB:=hB) (hS:=hS) (hs2:=hs2) (hs:=hs)⟩
end
section
variable {X:Cx}{o e:Expr}{f g:DE}{apos cpos:Pos}
theorem zK(ho:QE X o (LE X.K f))(he:QE X e (LE X.K g))(hbase:attributeBase o "index" X.env (eval o X.env)=eval o X.env:=by rfl)(hfew:((backTo cpos (starEach [e] X.env)).all (fun x=>!x.1)&&(backToKw cpos (keywordEach [] X.env)).all (fun x=>x.1.isSome)&&decide ([e].length+([]:List Keyword).length+(if ([]:List Keyword).isEmpty then 0 else 1)<30))=true:=by rfl)(hline:(apos.endLine==cpos.line)=true:=by rfl)(hs:backTo cpos (starEach [e] X.env)=[(false,eval e X.env)]:=by rfl):QE X (.Call (.Attribute o "index" apos) [e] [] cpos) (LE X.K (pH f g)):=⟨G7 (ho:=ho.pe) (he:=he.pe) (hbase:=hbase) (hfew:=hfew) (hline:=hline) (hs:=hs)⟩
end
section
variable {X:Cx}{a:Expr}{elts:List Expr}{j:Nat}{f:DE}{pos p p2:Pos}
theorem K8(hg:Gl X "enumerate")(hm:X.mg "enumerate"=none)(ha:QE X a (LE X.K f))(hs:starEach [a] X.env=[(false,eval a X.env)]:=by rfl):QI X (.Tuple elts j p2) (.Call (.Name "enumerate" p) [a] [] pos) (LI X.K (wZ f)):=⟨AJ (hg:=hg) (hm:=hm) (ha:=ha.pe) (hs:=hs)⟩
end
section
variable {X:Cx}{e:Expr}{f:DE}{pos p:Pos}
theorem Ud(hc:X.calm=true)(hg:Gl X "dict")(hm:X.mg "dict"=none)(he:QE X e (LE X.K f))(hs:starEach [e] X.env=[(false,eval e X.env)]:=by rfl):QE X (.Call (.Name "dict" p) [e] [] pos) (LE X.K (vP f)):=⟨y6 (hc:=hc) (hg:=hg) (hm:=hm) (he:=he.pe) (hs:=hs)⟩
end
section
variable {X:Cx}{ek ev tg iter:Expr}{ifs:List Expr}{scope:Scope}{NC:List Str}{fi:DI}{g:DG}{t:DT}{fk fv:DE}{pos:Pos}
theorem y7(NC:List Str)(src:List (Option Nat))(hc:X.calm=true)(hi:QI X tg iter (LI X.K fi))(hg:∀ cl C s2 H2 pins fp,QG (aX X scope cl C NC s2 H2 pins fp) tg (LG X.K g))(ht:∀ cl C s2 H2 pins fp,QF (aX X scope cl C NC s2 H2 pins fp) ifs (LT X.K t))(hk:∀ cl C s2 H2 pins fp,QE (aX X scope cl C NC s2 H2 pins fp) ek (LE X.K fk))(hv:∀ cl C s2 H2 pins fp,QE (aX X scope cl C NC s2 H2 pins fp) ev (LE X.K fv))(hkind:scope.kind=.function:=by rfl)(hB:chkB scope X.env=true:=by rfl)(hS:chkS X.N scope X.env NC src=true:=by rfl)(hs:∀ x,foldedSetIterable iter X.env x=pure x:=by intro _;rfl):QE X (.DictComp ek ev [⟨tg,iter,ifs,0⟩] scope pos) (LE X.K (nF src fi g t fk fv)):=⟨K6 (NC:=NC) (src:=src) (hc:=hc) (hi:=hi.pe) (hg:=fun cl C s2 H2 pins fp=>(hg cl C s2 H2 pins fp).pe) (ht:=fun cl C s2 H2 pins fp=>(ht cl C s2 H2 pins fp).pe) (hk:=fun cl C s2 H2 pins fp=>(hk cl C s2 H2 pins fp).pe) (hv:=fun cl C s2 H2 pins fp=>(hv cl C s2 H2 pins fp).pe) (hkind:=hkind) (hB:=hB) (hS:=hS) (hs:=hs)⟩
end
section
variable {X:Cx}{o i a tg:Expr}{fo fi f:DE}{pos:Pos}
theorem eJ(hu:X.A.units+100<cLine)(ho:QE X o (LE X.K fo))(hi:QE X i (LE X.K fi))(hs:jU i:=by exact fun _ _=>rfl):QE X (.Subscript o i pos) (LE X.K (dW fo fi)):=⟨U4 (hu:=hu) (ho:=ho.pe) (hi:=hi.pe) (hs:=hs)⟩
theorem oJ{e:Expr}(he:QE X e (LE X.K f)):QE X e (LE X.K (lH f)):=⟨Q4 (he:=he.pe)⟩
end
section
variable {X:Cx}{a tg:Expr}{f:DE}
theorem ED(ha:QE X a (LE X.K f)):QI X tg a (LI X.K (rC f)):=⟨FI (ha:=ha.pe)⟩
end
section
variable {X:Cx}{a e:Expr}{f g:DE}{pos p2:Pos}
theorem Wo(ha:QE X a (LE X.K f))(he:QE X e (LE X.K g)):QE X (.Subscript a (.Slice none none (some e) p2) pos) (LE X.K (vS f g)):=⟨Q7 (ha:=ha.pe) (he:=he.pe)⟩
end
section
variable {X:Cx}{o:Expr}{fo:DE}{pos p cpos apos:Pos}
theorem X9(hc:X.calm=true)(hg:Gl X "sorted")(hm:X.mg "sorted"=none)(ho:QE X o (LE X.K fo))(hb:attributeBase o "values" X.env (eval o X.env)=eval o X.env:=by rfl)(hln:(apos.endLine==cpos.line)=true:=by rfl)(hs2:starEach [.Call (.Attribute o "values" apos) [] [] cpos] X.env=[(false,eval (.Call (.Attribute o "values" apos) [] [] cpos) X.env)]:=by rfl):QE X (.Call (.Name "sorted" p) [.Call (.Attribute o "values" apos) [] [] cpos] [] pos) (LE X.K (pI fo)):=⟨BM (hc:=hc) (hg:=hg) (hm:=hm) (ho:=ho.pe) (hb:=hb) (hln:=hln) (hs2:=hs2)⟩
end
section
variable {X:Cx}{o:Expr}{elts:List Expr}{j:Nat}{fo:DE}{pos p2 apos:Pos}
theorem v6(ho:QE X o (LE X.K fo))(hb:attributeBase o "items" X.env (eval o X.env)=eval o X.env:=by rfl)(hln:(apos.endLine==pos.line)=true:=by rfl):QI X (.Tuple elts j p2) (.Call (.Attribute o "items" apos) [] [] pos) (LI X.K (qG fo)):=⟨i8 (ho:=ho.pe) (hb:=hb) (hln:=hln)⟩
end
section
variable {X:Cx}{a b:Expr}{f g:DE}{pos p p2 pos2:Pos}
theorem FG(hc:X.calm=true)(hg:Gl X "list")(hm:X.mg "list"=none)(hg2:Gl X "zip")(hm2:X.mg "zip"=none)(ha:QE X a (LE X.K f))(hb:QE X b (LE X.K g))(hs:starEach [a,b] X.env=[(false,eval a X.env),(false,eval b X.env)]:=by rfl)(hs2:starEach [b] X.env=[(false,eval b X.env)]:=by rfl)(hs3:starEach [.Call (.Name "zip" p2) [a,b] [] pos2] X.env=[(false,eval (.Call (.Name "zip" p2) [a,b] [] pos2) X.env)]:=by rfl):QE X (.Call (.Name "list" p) [.Call (.Name "zip" p2) [a,b] [] pos2] [] pos) (LE X.K (sN f g)):=⟨W6 (hc:=hc) (hg:=hg) (hm:=hm) (hg2:=hg2) (hm2:=hm2) (ha:=ha.pe) (hb:=hb.pe) (hs:=hs) (hs2:=hs2) (hs3:=hs3)⟩
end
section
variable {X:Cx}{pos:Pos}
theorem Sq{es:List Expr}{j n:Nat}{g:gK}(hc:X.calm=true)(h:QGs X es (iF X.K g))(hn:(assignEach es X.env).length=n:=by rfl)(hst:(assignEach es X.env).findIdx? (·.1)=none:=by rfl):QG X (.Tuple es j pos) (LG X.K (gL n g)):=⟨EZ (hc:=hc) (h:=h.pe) (hn:=hn) (hst:=hst)⟩
end
section
variable {P:Program}{w:World}{K:ad}{mg:Str->Option Value}{base:Heap}
theorem Q6{x qual:Str}{st:Stmt}{fa:Addr}{fd:FuncData}{N ps:List Str}{k:Nat}{sp:DC}{body:DS}(F:Fun K x qual st fa fd)(S:FnScope N ps (dS st))
  (hb:∀ (cdv:Value) (A:Around) (outer:List Env) (s:Shared) (H:Hp) (E:XK),Room k (A.deeper (envOfC qual (dS st) s.heap.objs.size fa cdv))->QSs (iB eD P w K mg base N qual (dS st) fa cdv A outer s H E).nox (gR st) (LS K body))
  (hv:∀ ds m R,ds.length=ps.length->sp ds m R->body {nx:=fun _ m=>R (.dat .none) m,rt:=R} (bN N ds) m):FnOk P w K mg base eD (k+1) fa fd ps (LSp K ps.length sp):=FQ F S (fun cdv A outer s H E hr=>(hb cdv A outer s H E hr).pe) hv
def Df(K:ad)(mg:Str->Option Value)(nm:Str)(st:Stmt)(a:Addr):Prop:=∃ fd,Fun K nm nm st a fd/\mg nm=some (.ref a)
structure Cal (P:Program) (w:World) (K:ad) (mg:Str->Option Value) (base:Heap) (nm:Str) (st:Stmt) (a:Addr) (ps:List Str) (k:Nat) (sp:DC):Prop where
 ex:∃ fd,Fun K nm nm st a fd/\Binds K fd ps []/\mg nm=some (.ref a)/\FnOk P w K mg base eD k a fd ps (LSp K ps.length sp)
abbrev Eu(ps N:List Str)(sp:DC)(b:DS):Prop:=∀ ds m R,ds.length=ps.length->sp ds m R->b {nx:=fun _ m=>R (.dat .none) m,rt:=R} (bN N ds) m
abbrev wB(nm:Str)(st:Stmt)(ps:List Str):Prop:=∀ (kV doc pm:Value) (an:Option Addr) (cdv ct:Value) (us:List Value),us.length=ps.length->bindArgs (PySem.W.fnOf nm nm (mG st) (gR st) (dS st) .none kV doc pm an cdv ct) ⟨us,[]⟩=pure (ps.zip us)
theorem Zv{nm:Str}{st:Stmt}{a:Addr}{N ps:List Str}{k:Nat}{sp:DC}{body:DS}(D:Df K mg nm st a)(hb:wB nm st ps)(S:FnScope N ps (dS st))
  (hq:∀ (cdv:Value) (A:Around) (outer:List Env) (s:Shared) (H:Hp) (E:XK),Room k (A.deeper (envOfC nm (dS st) s.heap.objs.size a cdv))->N.Nodup->QSs (iB eD P w K mg base N nm (dS st) a cdv A outer s H E).nox (gR st) (LS K body))
  (hv:Eu ps N sp body):Cal P w K mg base nm st a ps (k+1) sp:=by
 obtain⟨fd,F,M⟩:=D;exact⟨⟨fd,F,F.binds hb,M,Q6 F S (fun cdv A outer s H E hr=>hq cdv A outer s H E hr S.nd) hv⟩⟩
theorem W2{fd:FuncData}{ps:List Str}(h:bindArgs fd {pos:=[]}=pure (ps.zip [])):∀ us:List Value,us.length=0->bindArgs fd {pos:=us}=pure (ps.zip us)
 | [],_=>h
theorem Kg{fd:FuncData}{ps:List Str}(h:∀ a0,bindArgs fd {pos:=[a0]}=pure (ps.zip [a0])):∀ us:List Value,us.length=1->bindArgs fd {pos:=us}=pure (ps.zip us)
 | [a0],_=>h a0
theorem Zw{fd:FuncData}{ps:List Str}(h:∀ a0 a1,bindArgs fd {pos:=[a0,a1]}=pure (ps.zip [a0,a1])):∀ us:List Value,us.length=2->bindArgs fd {pos:=us}=pure (ps.zip us)
 | [a0,a1],_=>h a0 a1
theorem Xd{fd:FuncData}{ps:List Str}(h:∀ a0 a1 a2,bindArgs fd {pos:=[a0,a1,a2]}=pure (ps.zip [a0,a1,a2])):∀ us:List Value,us.length=3->bindArgs fd {pos:=us}=pure (ps.zip us)
 | [a0,a1,a2],_=>h a0 a1 a2
theorem L0{fd:FuncData}{ps:List Str}(h:∀ a0 a1 a2 a3,bindArgs fd {pos:=[a0,a1,a2,a3]}=pure (ps.zip [a0,a1,a2,a3])):∀ us:List Value,us.length=4->bindArgs fd {pos:=us}=pure (ps.zip us)
 | [a0,a1,a2,a3],_=>h a0 a1 a2 a3
theorem EW{fd:FuncData}{ps:List Str}(h:∀ a0 a1 a2 a3 a4,bindArgs fd {pos:=[a0,a1,a2,a3,a4]}=pure (ps.zip [a0,a1,a2,a3,a4])):∀ us:List Value,us.length=5->bindArgs fd {pos:=us}=pure (ps.zip us)
 | [a0,a1,a2,a3,a4],_=>h a0 a1 a2 a3 a4
theorem c9{fd:FuncData}{ps:List Str}(h:∀ a0 a1 a2 a3 a4 a5,bindArgs fd {pos:=[a0,a1,a2,a3,a4,a5]}=pure (ps.zip [a0,a1,a2,a3,a4,a5])):∀ us:List Value,us.length=6->bindArgs fd {pos:=us}=pure (ps.zip us)
 | [a0,a1,a2,a3,a4,a5],_=>h a0 a1 a2 a3 a4 a5
theorem bV(P:Program)(w:World)(K:ad)(mg:Str->Option Value)(base:Heap)(k:Nat)(N:List Str)(body:DS){nm:Str}{st:Stmt}{a:Addr}{ps:List Str}{sp:DC}(D:Df K mg nm st a)(hv:Eu ps N sp body)
  (hq:∀ (cdv:Value) (A:Around) (outer:List Env) (s:Shared) (H:Hp) (E:XK),Room k (A.deeper (envOfC nm (dS st) s.heap.objs.size a cdv))->N.Nodup->QSs (iB eD P w K mg base N nm (dS st) a cdv A outer s H E).nox (gR st) (LS K body))
  (hb:wB nm st ps:=by first | exact fun _ _ _ _ _ _=>Kg (by intros;rfl) | exact fun _ _ _ _ _ _=>Zw (by intros;rfl) | exact fun _ _ _ _ _ _=>Xd (by intros;rfl) | exact fun _ _ _ _ _ _=>L0 (by intros;rfl) | exact fun _ _ _ _ _ _=>EW (by intros;rfl) | exact fun _ _ _ _ _ _=>c9 (by intros;rfl) | exact fun _ _ _ _ _ _=>W2 (by intros;rfl))
  (S:FnScope N ps (dS st):=by exact⟨rfl,rfl,rfl,by decide +kernel,rfl,by decide +kernel,by decide +kernel⟩):Cal P w K mg base nm st a ps (k+1) sp:=Zv D hb S hq hv
end
section
variable {X:Cx}{pos p:Pos}{nm:Str}{st:Stmt}{a:Addr}{ps:List Str}{k:Nat}{sp:DC}
theorem U8{n:Nat}{e:Expr}{es:List Expr}{ga:DA}(C:Cal X.prog X.w X.K X.mg X.base nm st a ps k sp)(hr:Room k X.A)(hx:X.xe=fun _ _=>False)(ha:QA X (e::es) (LA X.K ga))(hg:Gl X nm:=by rfl)(hdb:(nm==("__debug__" : Str))=false:=by decide)(he:starEach (e::es) X.env=(false,eval e X.env)::starEach es X.env:=by rfl)(hpl:(backTo pos (starEach es X.env)).any (·.1)=false:=by rfl)(hn:ps.length=n:=by rfl) :
  QE X (.Call (.Name nm p) (e::es) [] pos) (LE X.K (aT n sp ga)):=by
 subst hn;obtain⟨fd,F,B,M,C⟩:=C.ex;exact u8 C hr M F.kp B hx ha hg hdb he hpl
theorem M8(C:Cal X.prog X.w X.K X.mg X.base nm st a ps k sp)(hr:Room k X.A)(hx:X.xe=fun _ _=>False)(hg:Gl X nm:=by rfl)(hdb:(nm==("__debug__" : Str))=false:=by decide):QE X (.Call (.Name nm p) [] [] pos) (LE X.K (aT ps.length sp aG)):=by
 obtain⟨fd,F,B,M,C⟩:=C.ex;exact e6 C hr M F.kp B hx hg hdb
theorem aY{j n:Nat}{e:Expr}{es:List Expr}{ga:DA}(C:Cal X.prog X.w X.K X.mg X.base nm st a ps k sp)(hr:Room j X.A)(ha:QA X (e::es) (LA X.K ga))(hk:k<=j:=by decide)(hx:X.xe=fun _ _=>False:=by rfl)(hg:Gl X nm:=by rfl)(hdb:(nm==("__debug__" : Str))=false:=by decide)(he:starEach (e::es) X.env=(false,eval e X.env)::starEach es X.env:=by rfl)(hpl:(backTo pos (starEach es X.env)).any (·.1)=false:=by rfl)(hn:ps.length=n:=by rfl) :
  QE X (.Call (.Name nm p) (e::es) [] pos) (LE X.K (aT n sp ga)):=U8 C (hr.mono hk) hx ha hg hdb he hpl hn
end
section
variable {K:ad}{h:Heap}{mg:Str->Option Value}
def zJ(K:ad)(d:Str×Stmt×Addr):Prop:=PySem.W.nsIn K mainGlobals d.1=some (some (.ref d.2.2))/\∃ fd,Fun K d.1 d.1 d.2.1 d.2.2 fd
theorem di{nm:Str}{st:Stmt}{f:Addr}{oc:Value}{od an:Option Addr}{osl:Array (Option Value)}{kV doc pm cdv ct:Value}(n:PySem.W.nsIn K mainGlobals nm=some (some (.ref f)))(l:K.lookup f=some ⟨oc,od,.func (PySem.W.fnOf nm nm (mG st) (gR st) (dS st) .none kV doc pm an cdv ct),osl⟩)
  (c:PySem.W.codeIn K cdv nm=true) (k:PySem.W.keepIn K (.ref f)=true):zJ K (nm,st,f):=⟨n,_,Y6 l c k⟩
def Eo(K:ad):List (Str×Stmt×Addr)->Prop
 | []=>True
 | d::r=>zJ K d/\Eo K r
theorem dfs_of(X:K.In h)(G:h.Ns mainGlobals mg):∀ (l:List (Str×Stmt×Addr)),Eo K l->∀ (i:Nat) (nm:Str) (st:Stmt) (a:Addr),l[i]?=some (nm,st,a)->Df K mg nm st a
 | [],_,i,nm,st,a,e=>by simp at e
 | d::r,⟨⟨n,fd,F⟩,_⟩,0,nm,st,a,e=>by
  simp at e;subst e;exact⟨fd,F,PySem.W.mg_of X G n⟩
 | d::r,⟨_,h⟩,i+1,nm,st,a,e=>dfs_of X G r h i nm st a #[4,e]
def Es(K:ad):List Str->Prop
 | []=>True
 | x::r=>PySem.W.nsIn K mainGlobals x=some none/\Es K r
theorem nos_of(X:K.In h)(G:h.Ns mainGlobals mg):∀ (l:List Str),Es K l->∀ (i:Nat) (x:Str),l[i]?=some x->mg x=none
 | [],_,i,x,e=>by simp at e
 | d::r,⟨n,_⟩,0,x,e=>by
  simp at e;subst e;exact PySem.W.mg_none_of X G n
 | d::r,⟨_,h⟩,i+1,x,e=>nos_of X G r h i x #[4,e]
theorem E8{P:Program}{w:World}{st:Stmt}{a fa:Addr}{y:Str}{k:Nat}{sp:DC}(D:Df K mg "law" st a)(hfa:mg "law"=some (.ref fa))(hb:wB "law" st [y])(C:∀ base:Heap,Cal P w K mg base "law" st a [y] k sp) :
  ∃ fd:FuncData,(∀ (s:Shared) (v:Value),BindsTo s fd ⟨[v],[]⟩ [(y,v)])/\∀ base:Heap,K.In base->base.Ns mainGlobals mg->FnOk P w K mg base eD k fa fd [y] (LSp K 1 sp):=by
 obtain⟨fd,F,M⟩:=D;have e:=hfa.symm.trans M
 cases e
 have B:∀ (s:Shared) (v:Value),BindsTo s fd ⟨[v],[]⟩ [(y,v)]:=fun s v=>by
  obtain⟨oc,od,kV,doc,pm,an,cdv,ct,osl,rfl,lk,hcd⟩:=F.ex;exact .of_eq (hb kV doc pm an cdv ct [v] rfl)
 refine⟨fd,B,fun base _ _=>?_⟩;obtain⟨fd',F',_,_,C⟩:=(C base).ex;obtain⟨oc,od,kV,doc,pm,an,cdv,ct,osl,rfl,lk,hcd⟩:=F.ex;obtain⟨oc',od',kV',doc',pm',an',cdv',ct',osl',rfl,lk',hcd'⟩:=F'.ex;rw[lk]at lk'
 cases lk'
 exact C
end
end DL
set_option maxHeartbeats 1000000
namespace K01
open PySem PySem.Spec PyProof.Rows L2 DL
theorem F5(a b:Int):Int.gcd b (a.fmod b)=Int.gcd a b:=by
 have h:a.fmod b=a-b*a.fdiv b:=by
  have:=Int.mul_fdiv_add_fmod a b
  omega
 rw[h];have h2:a-b*a.fdiv b=a+b*(-(a.fdiv b)):=by rw[Int.mul_neg];omega
 rw[h2,Int.gcd_add_mul_left_right,Int.gcd_comm]
theorem Wi(a b:Int)(h:b≠0):(a.fmod b).natAbs<b.natAbs:=by
 rcases Int.lt_or_gt_of_ne h with h | h
 ·have h1:=Int.neg_fmod_neg a b
  have h2:=Int.fmod_lt_of_pos (-a) (show 0 < -b by omega)
  have h3:=Int.fmod_nonneg_of_pos (-a) (show 0 < -b by omega)
  omega
 ·have h2:=Int.fmod_lt_of_pos a h
  have h3:=Int.fmod_nonneg_of_pos a h
  omega
theorem log2_lt{n k:Nat}(h:n<2^k)(hk:0<k):n.log2<k:=by
 by_cases hn:n=0
 ·subst hn;simpa using hk
 ·exact(Nat.log2_lt hn).mpr h
def Bd(n:Nat)(i:Int):Prop:=i.natAbs<2^n
theorem Bd.mono{m n:Nat}{i:Int}(h:Bd m i)(hl:m<=n):Bd n i:=aj h (Nat.pow_le_pow_right #[1] hl)
theorem Bd.mul{m n:Nat}{i j:Int}(h:Bd m i)(g:Bd n j):Bd (m+n) (i*j):=by
 unfold Bd at *;rw[Int.natAbs_mul,Nat.pow_add];exact Nat.mul_lt_mul'' h g
theorem Bd.add{n:Nat}{i j:Int}(h:Bd n i)(g:Bd n j):Bd (n+1) (i+j):=by
 unfold Bd at *;have:=Int.natAbs_add_le i j
 rw[Nat.pow_succ];omega
theorem Bd.neg{n:Nat}{i:Int}(h:Bd n i):Bd n (-i):=by
 unfold Bd at *;rw[Int.natAbs_neg];exact h
theorem Bd.sub{n:Nat}{i j:Int}(h:Bd n i)(g:Bd n j):Bd (n+1) (i-j):=by
 rw[Int.sub_eq_add_neg];exact h.add g.neg
theorem Bd.div{n:Nat}{i:Int}(h:Bd n i)(g:Int):Bd n (i / g):=Nat.lt_of_le_of_lt (Int.natAbs_ediv_le_natAbs i g) h
theorem Bd.log{n:Nat}{i:Int}(h:Bd n i)(hn:0<n):i.natAbs.log2<n:=log2_lt h hn
theorem Bd.mulOk{m n:Nat}{i j:Int}(h:Bd m i)(g:Bd n j)(hm:m+n<=134217728):IntMulOk i j :=
 IntMulOk.of_le (intBits_le_iff.mpr h) (intBits_le_iff.mpr g) hm
def fr(t b:Int):PyData:=.tuple [.int (t / (Int.gcd t b:Int)),.int (b / (Int.gcd t b:Int))]
theorem Fe{t b:Int}(h:b≠0):(0:Int)<(Int.gcd t b:Int):=by
 have:=Int.gcd_pos_of_ne_zero_right t h
 omega
theorem J7{x g:Int}(hg:0<g)(hd:g∣x):0<x / g↔0<x:=by
 obtain⟨y,rfl⟩:=hd;rw[Int.mul_ediv_cancel_left _ #[0]]
 constructor
 ·intro h;exact Int.mul_pos hg h
 ·intro h;exact Int.pos_of_mul_pos_right h hg
end K01
namespace K83
open PySem PySem.Spec PyProof.Rows L2 DL K01
abbrev I(i:Int):D:=.dat (.int i)
abbrev fq(x:Int×Int):PyData:=.tuple [.int x.1,.int x.2]
def kd(k:Bool):Str:=if k then "stretch" else "point"
def Tp(n:Int)(m:Mu)(a:Addr):Prop:=∃ (ns:List Int) (i j:Int),m a=some (.l [.list (ns.map .int),.int i,.int j])/\ns.length<=63/\0<=i/\i<=n/\0<=j
def Fed(b:Int)(n:Int)(m m':Mu)(a:Addr):Prop:=Tp (n+b) m' a/\∀ c,c≠a->(m c).isSome=true->m' c=m c
abbrev TH(ts:List (Str×Bool)):PyData:=.tuple (ts.map fun t=>.tuple [.str t.1,.str (kd t.2)])
def Fr(b:Nat)(p:PyData):Prop:=∃ x:Int×Int,p=fq x/\0<x.2/\Bd b x.1/\Bd b x.2
def Tm(k:Bool)(p:PyData):Prop:=(k=false/\Fr 20 p)\/(k=true/\∃ x y,p=.tuple [x,y]/\Fr 20 x/\Fr 20 y)
def Kn(ts:List (Str×Bool))(kvs:List (aL×PyData)):Prop:=(∀ kv∈kvs,∃ k w,kv.2=.tuple [.str (kd k),w]/\Tm k w)/\∀ t∈ts,∃ p,cM kvs (.inr t.1)=some p
def wA(n:Nat)(p:PyData):Prop:=p.showable=true/\p.shown.length<=n/\p.depth<=20
def Zt:List Str:=["a","ab","b","point","zz","zzzzzzzz","begin","end","gap","may","o","strict","m","n","nm","s","st","stretch","ahead","any","behind","ends","meets","met","long","same","told","within"]
def v4:List Str:=["y","x","xy","r","q","qqqqqqqq"]
def eQ:List Str:=Zt++v4
def lI(a b:Str):Prop:=a.cps.toList<b.cps.toList
def lA(zs:List Str):Prop:=zs.Pairwise lI
def Nm(ts:List (Str×Bool)):Prop:=1<=ts.length/\ts.length<=6/\(∀ t∈ts,t.1∈eQ)/\lA (ts.map (·.1))
def bK:List Str:=["ahead","meets","overlaps","begins","within","ends","same","ended","holds","begun","lapped","met","behind"]
def tn(z:Str):Str:=bK.getD (12-bK.idxOf z) ""
abbrev dF(e:Str×Int):PyData:=.tuple [.str e.1,.int e.2]
def Kp(m m':Mu):Prop:=∀ c,(m c).isSome=true->m' c=m c
def lO(t:Str×Bool):List (Str×Int):=if t.2 then [(t.1,0),(t.1,1)] else [(t.1,0)]
def iG(ts:List (Str×Bool)):List (Str×Int):=ts.flatMap lO
inductive Say where
 | may (a b:Str) (ws:List Str)
 | gap (x y:Str×Int) (q:Int×Int) (s:Bool)
def Say.p:Say->PyData
 | .may a b ws=>.tuple [.str "may",.str a,.str b,.tuple (ws.map .str)]
 | .gap x y q s=>.tuple [.str "gap",dF x,dF y,fq q,.bool s]
def Say.ok(ts:List (Str×Bool)):Say->Prop
 | .may a b ws=>a∈ts.map (·.1)/\b∈ts.map (·.1)/\ws.Sublist bK
 | .gap x y q _=>x∈iG ts/\y∈iG ts/\Bd 62 q.1/\Bd 62 q.2
abbrev dM(ts:List (Str×Bool))(ss:List Say):PyData:=.tuple [TH ts,.tuple (ss.map Say.p)]
def TmAll:List (Str×Bool)->List PyData->Prop
 | [],[]=>True
 | t::ts,p::ps=>Tm t.2 p/\TmAll ts ps
 | _,_=>False
def rn(zs:List (Str×Str))(x:Str):Str:=((zs.find? fun z=>decide (z.1=x)).map (·.2)).getD ""
def bk(zs:List (Str×Str)):List (Str×Str):=zs.map fun z=>(z.2,z.1)
abbrev FD(zs:List (Str×Str)):PyData:=eO (zs.map dC)
structure Zn (ts:List (Str×Bool)) (zs:List (Str×Str)):Prop where
 ne:zs≠[]
 len:zs.length<=6
 keys:(zs.map (·.1)).Perm (ts.map (·.1))
 nk:(zs.map (·.1)).Nodup
 nv:(zs.map (·.2)).Nodup
 inN:∀ z∈zs,z.1∈eQ/\z.2∈eQ
def RT(zs:List (Str×Str))(ts ts':List (Str×Bool)):Prop:=ts'.Perm (ts.map fun t=>(rn zs t.1,t.2))/\lA (ts'.map (·.1))
def Say.ren(zs:List (Str×Str)):Say->Say
 | .may a b ws=>.may (rn zs a) (rn zs b) ws
 | .gap x y q s=>.gap (rn zs x.1,x.2) (rn zs y.1,y.2) q s
def dE(ts:List (Str×Bool))(ps:List PyData)(x:Str):PyData:=ps.getD ((ts.map (·.1)).idxOf x) .none
def fG(zs:List (Str×Str))(ts ts':List (Str×Bool))(ps:List PyData):List PyData:=ts'.map fun t=>dE ts ps (rn (bk zs) t.1)
abbrev dO:=Str×Str×List Str
abbrev iC(r:dO):PyData:=.tuple [.str r.1,.str r.2.1,.tuple (r.2.2.map .str)]
abbrev TB(rs:List dO):PyData:=.tuple (rs.map iC)
abbrev key(r:dO):Str×Str:=(r.1,r.2.1)
def bO:List Str->List (Str×Str)
 | []=>[]
 | n::ns=>ns.map (fun k=>(n,k))++bO ns
def TabOk(ts:List (Str×Bool))(rs:List dO):Prop:=rs.map key=bO (ts.map (·.1))/\∀ r∈rs,r.2.2.Sublist bK
def nV(z:Str):Prop:=z∈eQ
def tM(r:dO):Prop:=nV r.1/\nV r.2.1/\r.2.2.length<=13/\∀ z∈r.2.2,z∈bK
def mO(x y:Str):List dO->PyData
 | []=>.none
 | r::rs=>if r.1=x/\r.2.1=y then .tuple (r.2.2.map .str) else if r.1=y/\r.2.1=x then .tuple ((r.2.2.reverse.map tn).map .str) else mO x y rs
def wt(rs:List dO)(x y:Str):List Str:=match rs with
 | []=>[]
 | r::rs=>if r.1=x/\r.2.1=y then r.2.2 else if r.1=y/\r.2.1=x then r.2.2.reverse.map tn else wt rs x y
def fK(zs:List (Str×Str))(ts':List (Str×Bool))(rs:List dO):List dO:=(bO (ts'.map (·.1))).map fun p=>(p.1,p.2,wt rs (rn (bk zs) p.1) (rn (bk zs) p.2))
def iW(x y:Int×Int):Int:=(if x.1*y.2 > y.1*x.2 then 1 else 0)-(if x.1*y.2<y.1*x.2 then 1 else 0)
def fo:PyData->Int×Int
 | .tuple [.int a,.int b]=>(a,b)
 | _=>(0,1)
def p0:PyData->PyData
 | .tuple (x::_)=>x
 | _=>.none
def p1:PyData->PyData
 | .tuple (_::y::_)=>y
 | _=>.none
def kB(k:Bool)(p:PyData):PyData:=if k then p else .tuple [p,p]
def cm(x y:PyData):Int:=iW (fo x) (fo y)
def nC(i j:Int):Str :=
 if i=-1 then (if j=-1 then "overlaps" else if j=0 then "ended" else "holds")
 else if i=0 then (if j=-1 then "begins" else if j=0 then "same" else "begun")
 else (if j=-1 then "within" else if j=0 then "ends" else "lapped")
def lR(k l:Bool)(p q:PyData):Str :=
 let a:=kB k p
 let b:=kB l q
 if cm (p1 a) (p0 b)<0 then "ahead" else if cm (p1 b) (p0 a)<0 then "behind"
 else if k=true/\l=true/\cm (p1 a) (p0 b)=0 then "meets" else if k=true/\l=true/\cm (p1 b) (p0 a)=0 then "met"
 else nC (cm (p0 a) (p0 b)) (cm (p1 a) (p1 b))
def lV(f:Bool×PyData)(e:Int):PyData:=if e=0 then p0 (kB f.1 f.2) else p1 (kB f.1 f.2)
def fQ(f:Str->Bool×PyData):Say->Bool
 | .may a b ws=>decide (lR (f a).1 (f b).1 (f a).2 (f b).2∈ws)
 | .gap x y q s =>
  let one:=fo (lV (f x.1) x.2)
  let other:=fo (lV (f y.1) y.2)
  let c:=iW (one.1*other.2-other.1*one.2,one.2*other.2) q
  decide (c<0)||(decide (c=0) && !s)
def dJ(ts:List (Str×Bool))(x:Str):Bool:=((ts.find? fun t=>decide (t.1=x)).map (·.2)).getD false
def lk(ts:List (Str×Bool))(ps:List PyData)(x:Str):Bool×PyData:=(dJ ts x,dE ts ps x)
def fI(ts:List (Str×Bool))(ps:List PyData):List (aL×PyData):=(ts.zip ps).map fun q=>(Sum.inr q.1.1,PyData.tuple [.str (kd q.1.2),q.2])
def wQ:DC:=fun ds m R=>∃ z:Str,ds=[.dat (.str z)]/\z∈bK/\R (.dat (.str (tn z))) m
def tJ:DC:=fun ds m R=>∃ zs:List Str,ds=[.dat (.tuple (zs.map .str))]/\(∀ z∈zs,z∈bK)/\zs.length<=100/\R (.dat (.tuple ((zs.reverse.map tn).map .str))) m
def nE:DC:=fun ds m R=>∃ ts:List (Str×Bool),ds=[.dat (TH ts)]/\ts.length<=6/\R (.dat (.list (ts.map fun t=>.str t.1))) m
def tW:DC:=fun ds m R=>∃ ts:List (Str×Bool),ds=[.dat (TH ts)]/\ts.length<=6/\R (.dat (.list ((bO (ts.map (·.1))).map fun z=>.tuple [.str z.1,.str z.2]))) m
def sT:DC:=fun ds m R=>∃ (ts:List (Str×Bool)) (ps:List PyData) (z:Str) (p:PyData),ds=[.dat (TH ts),.dat (.tuple ps),.dat (.str z)]/\ts.length<=6/\z∈ts.map (·.1)/\ps[(ts.map (·.1)).idxOf z]?=some p/\R (.dat p) m
def tR:DC:=fun ds m R=>∃ (p:PyData) (rs:List dO) (x y:Str),ds=[.dat p,.dat (TB rs),.dat (.str x),.dat (.str y)]/\(∀ r∈rs,tM r)/\nV x/\nV y/\R (.dat (mO x y rs)) m
def nW:DC:=fun ds m R=>∃ ts zs,ds=[.dat (TH ts),.dat (FD zs)]/\Nm ts/\Zn ts zs/\∀ ts',RT zs ts ts'->R (.dat (TH ts')) m
def qS:DC:=fun ds m R=>∃ zs:List (Str×Str),ds=[.dat (FD zs)]/\zs≠[]/\zs.length<=6/\(zs.map (·.2)).Nodup/\∀ c,m c=none->R (.cel c) (aW m c (.d ((bk zs).map fun z=>(Sum.inr z.1,PyData.str z.2))))
def pO:DC:=fun ds m R=>∃ (e:Str×Int) (zs:List (Str×Str)),ds=[.dat (dF e),.dat (FD zs)]/\e.1∈zs.map (·.1)/\R (.dat (dF (rn zs e.1,e.2))) m
def sF:DC:=fun ds m R=>∃ (ts:List (Str×Bool)) (s:Say) (zs:List (Str×Str)),ds=[.dat s.p,.dat (FD zs)]/\Zn ts zs/\s.ok ts/\R (.dat (s.ren zs).p) m
def oM:DC:=fun ds m R=>∃ ts ss zs,ds=[.dat (dM ts ss),.dat (FD zs)]/\Nm ts/\Zn ts zs/\ss.length<=24/\(∀ s∈ss,Say.ok ts s)/\∀ ts',RT zs ts ts'->R (.dat (dM ts' (ss.map (Say.ren zs)))) m
def mY:DC:=fun ds m R=>∃ ts zs ps,ds=[.dat (TH ts),.dat (FD zs),.dat (.tuple ps)]/\Nm ts/\Zn ts zs/\ps.length=ts.length/\∀ ts' m',RT zs ts ts'->Kp m m'->R (.dat (.tuple (fG zs ts ts' ps))) m'
def mX:DC:=fun ds m R=>∃ ts zs rs,ds=[.dat (TH ts),.dat (FD zs),.dat (TB rs)]/\Nm ts/\Zn ts zs/\TabOk ts rs/\∀ ts' m',RT zs ts ts'->Kp m m'->R (.dat (TB (fK zs ts' rs))) m'
def wT:DC:=fun ds m R=>∃ ns:List Int,ds=[.dat (.list (ns.map .int))]/\ns.length<=63/\∀ a m',Tp 0 m' a->R (.cel a) m'
def cU:DC:=fun ds m R=>∃ (a:Addr) (n L:Int),ds=[.cel a,I n]/\0<n/\Bd 100 n/\L<=10000000/\Tp L m a/\∀ (r:Int) m',0<=r->r<n->Fed 1 L m m' a->R (I r) m'
def jE:DC:=fun ds m R=>∃ t b:Int,ds=[I t,I b]/\0<b/\Bd 200 b/\R (.dat (fr t b)) m
def iJ:DC:=fun ds m R=>∃ x y:Int×Int,ds=[.dat (fq x),.dat (fq y)]/\Bd 100 x.1/\Bd 100 x.2/\Bd 100 y.1/\Bd 100 y.2/\R (I (iW x y)) m
def xH:DC:=fun ds m R=>∃ (a:Addr) (n L:Int),ds=[.cel a,I n]/\12<=n/\n<=12/\L<=9000000/\Tp L m a/\∀ ts m',Nm ts->Fed 10 L m m' a->R (.dat (TH ts)) m'
def qC:DC:=fun ds m R=>∃ (a:Addr) (ts:List (Str×Bool)) (L:Int),ds=[.cel a,.dat (TH ts)]/\ts.length<=6/\L<=9000000/\Tp L m a/\∀ ps m',TmAll ts ps->Fed 20 L m m' a->R (.dat (.tuple ps)) m'
def lT:DC:=fun ds m R=>∃ k p,ds=[.dat (.str (kd k)),.dat p]/\Tm k p/\R (.dat (kB k p)) m
def nG:DC:=fun ds m R=>∃ k l p q,ds=[.dat (.tuple [.str (kd k),p]),.dat (.tuple [.str (kd l),q])]/\Tm k p/\Tm l q/\R (.dat (.str (lR k l p q))) m
def mT:DC:=fun ds m R=>∃ k l,ds=[.dat (.str (kd k)),.dat (.str (kd l))]/\∀ zs:List Str,zs.Sublist bK->R (.dat (.list (zs.map .str))) m
def oW:DC:=fun ds m R=>∃ ts ps,ds=[.dat (TH ts),.dat (.tuple ps)]/\ts.length<=6/\ps.length=ts.length/\(ts.map (·.1)).Nodup/\∀ c,m c=none->R (.cel c) (aW m c (.d (fI ts ps)))
def kC:DC:=fun ds m R=>∃ (c:Addr) (kvs:List (aL×PyData)) (z:Str) (k:Bool) (w:PyData) (e:Int),ds=[.cel c,.dat (.tuple [.str z,.int e])]/\m c=some (.d kvs)/\cM kvs (.inr z)=some (.tuple [.str (kd k),w])/\Tm k w/\(e=0\/e=1)/\R (.dat (lV (k,w) e)) m
def mN:DC:=fun ds m R=>∃ (a c:Addr) (ts:List (Str×Bool)) (kvs:List (aL×PyData)) (L:Int),ds=[.cel a,.dat (TH ts),.cel c]/\Nm ts/\2<=ts.length/\c≠a/\m c=some (.d kvs)/\Kn ts kvs/\L<=8000000/\Tp L m a/\∀ (s:Say) m',s.ok ts->Fed 20 L m m' a->R (.dat s.p) m'
def iM(ts:List (Str×Bool)):Nat:=(ts.map fun t=>if t.2 then 2 else 1).sum
def qI:DC:=fun ds m R=>∃ ts,ds=[.dat (TH ts)]/\ts.length<=6/\∀ es:List (Str×Int),es.length=iM ts->(∀ e∈es,e∈iG ts)->R (.dat (.list (es.map dF))) m
def nO:DC:=fun ds m R=>∃ (a c:Addr) (ts:List (Str×Bool)) (kvs:List (aL×PyData)) (L:Int),ds=[.cel a,.dat (TH ts),.cel c]/\Nm ts/\2<=iM ts/\c≠a/\m c=some (.d kvs)/\Kn ts kvs/\L<=8000000/\Tp L m a/\∀ (s:Say) m',s.ok ts->Fed 20 L m m' a->R (.dat s.p) m'
def uV:DC:=fun ds m R=>∃ (a:Addr) (ts:List (Str×Bool)) (ps:List PyData) (L:Int),ds=[.cel a,.dat (TH ts),.dat (.tuple ps),I 24,.dat (.bool true)]/\Nm ts/\TmAll ts ps/\L<=7000000/\Tp L m a /\
 ∀ (ss:List Say) m',ss.length<=24->(∀ s∈ss,s.ok ts)->Fed 1000 L m m' a->R (.dat (.tuple (ss.map Say.p))) m'
def rR:DC:=fun ds m R=>∃ (a:Addr) (L:Int),ds=[.cel a,I 12,I 24,.dat (.bool true)]/\L<=6000000/\Tp L m a/\∀ (ts:List (Str×Bool)) (ss:List Say) m',Nm ts->ss.length<=24->(∀ s∈ss,s.ok ts)->Fed 2000 L m m' a->R (.dat (dM ts ss)) m'
def wY:DC:=fun ds m R=>∃ (c:Addr) (ts:List (Str×Bool)) (ps:List PyData) (s:Say),ds=[.cel c,.dat s.p]/\m c=some (.d (fI ts ps))/\TmAll ts ps/\Nm ts/\s.ok ts/\R (.dat (.bool (fQ (lk ts ps) s))) m
def qY:DC:=fun ds m R=>∃ ts ss ps,ds=[.dat (dM ts ss),.dat (.tuple ps)]/\Nm ts/\TmAll ts ps/\ss.length<=24/\(∀ s∈ss,Say.ok ts s)/\∀ m',Kp m m'->R (.dat (.bool (ss.all (fQ (lk ts ps))))) m'
def tP:DC:=fun ds m R=>∃ (a:Addr) (ts:List (Str×Bool)) (L:Int),ds=[.cel a,.dat (TH ts)]/\Nm ts/\L<=6000000/\Tp L m a/\∀ (rs:List dO) m',TabOk ts rs->Fed 500 L m m' a->R (.dat (TB rs)) m'
def qE:DC:=fun ds m R=>∃ z∈bK,ds=[.dat (.str z)]/\R (.dat (.str (tn z))) m
def xC:DC:=fun ds m R=>ds=[]/\R (.dat (.list (bK.map .str))) m
def rZ:DC:=fun ds m R=>∃ (a:Addr) (ts:List (Str×Bool)) (L:Int),ds=[.cel a,.dat (TH ts)]/\Nm ts/\L<=6000000/\Tp L m a/\∀ zs c m',Zn ts zs->m c=none->m' c=some (.d (zs.map fun z=>(Sum.inr z.1,PyData.str z.2)))->c≠a->Fed 10 L m m' a->R (.cel c) m'
def xG:DC:=fun ds m R=>∃ ts ss zs,ds=[.dat (dM ts ss),.dat (FD zs)]/\Nm ts/\Zn ts zs/\ss.length<=24/\(∀ s∈ss,Say.ok ts s)/\∀ ts' m',RT zs ts ts'->Kp m m'->R (.dat (dM ts' (ss.map (Say.ren zs)))) m'
def uM:DC:=mY
def vC:DC:=mX
def yA:DC:=fun ds m R=>∃ zs:List (Str×Str),ds=[.dat (FD zs)]/\zs.length<=6/\(zs.map (·.1)).Nodup/\(zs.map (·.2)).Nodup/\∀ c,m c=none->R (.cel c) (aW m c (.d ((bk zs).map fun z=>(Sum.inr z.1,PyData.str z.2))))
def nH:DC:=fun ds m R=>∃ ns:List Int,ds=[.dat (.list (ns.map .int))]/\ns.length<=63/\∀ m',R (.dat (.bool true)) m'
open PySem PySem.Spec PyProof.Rows L2 DL
-- ranks: turned 1,turned_may 2,names_of 1,pairs_of 2,times_of 2,words_at 3,renamed_things 1,elder_names 1,renamed_end 1,renamed_saying 2,renamed 3,renamed_telling 3,renamed_table 4,_law_tape 1,_law_draw 1,_law_frac 1,_law_cmp 1,_law_things 2,_law_telling 2,_law_pair 1,_law_word 2,_law_words 1,_law_by 1,_law_time 2,_law_may 3,_law_ends 1,_law_gap 3,_law_sayings 4,_law_talk 5,_law_so 3,_law_keeps 4,_law_table 2,_law_turned 1,_law_all_words 1,_law_new_names 2,_law_named_talk 1,_law_named_telling 1,_law_named_table 2,_law_back 1,law 6
def bU(i:Nat):Stmt:=PySem.Challenge.pw_whens_k83_renamed.main.body.getD i (.Pass ⟨0,0,0,0⟩)
abbrev Fx:Stmt:=bU 2
abbrev Mf:List Str:=["word"]
abbrev Aw:List Str:=["word"]
def yK:DS:=(aI (bG (aF aN (aE (.tuple (List.map PyData.str ["ahead","meets","overlaps","begins","within","ends","same","ended","holds","begun","lapped","met","behind"]))) (aF fD (aE (.int 12)) (oN ["ahead","meets","overlaps","begins","within","ends","same","ended","holds","begun","lapped","met","behind"] (aA 0))))) aQ)
abbrev Qe:Stmt:=bU 3
abbrev Ao:List Str:=["may"]
abbrev Pj:List Str:=["may"]
theorem Zu:List.Nodup (["word"]:List Str):=by decide +kernel
def xJ:DS:=(aI (bG (bD dU (aB (cW [none] (rA (aA 0)) (gN 0) cX (aT 1 wQ (aB (aA 0) aG))) aG))) aQ)
abbrev zL:Stmt:=bU 5
abbrev Jc:List Str:=["things"]
abbrev Qw:List Str:=["things"]
theorem Ag:List.Nodup (["name","kind"]:List Str):=by decide +kernel
def sG:DS:=(aI (bG (cW [none,none] (cJ (aA 0)) (gT 2 (bC (gN 0) (bC (gN 1) cG))) cX (aA 0))) aQ)
abbrev Hw:Stmt:=bU 6
abbrev Dn:List Str:=["things","names"]
abbrev Ma:List Str:=["things"]
theorem tU:List.Nodup (["at","a","b","names"]:List Str):=by decide +kernel
def Bh:DS:=(aI (bG (rE [none,none,none,some 1] (wZ (aA 1)) (gT 2 (bC (gN 0) (bC (gN 1) cG))) cX (cJ (dG (aA 3) (cY (aF cF (aA 0) (aE (.int 1)))) fH)) (gN 2) cX (bQ (aB (aA 1) (aB (aA 2) aG))))) aQ)
def vQ:DS:=(aI (aZ 1 (aT 1 nE (aB (aA 0) aG))) Bh)
abbrev Ob:Stmt:=bU 7
abbrev Jk:List Str:=["things","telling","name"]
abbrev Cw:List Str:=["things","telling","name"]
def vG:DS:=(aI (bG (aF aN (aA 1) (pH (aT 1 nE (aB (aA 0) aG)) (aA 2)))) aQ)
abbrev Mt:Stmt:=bU 9
abbrev Br:List Str:=["things","table","a","b","first","second","words"]
abbrev zD:List Str:=["things","table","a","b"]
def Of:DS:=(aI (cO (bL (aF cR (bQ (aB (aA 4) (aB (aA 5) aG))) (bQ (aB (aA 3) (aB (aA 2) aG))))) (aI (bG (aT 1 tJ (aB (aA 6) aG))) aQ) aQ) aQ)
def oO:DS:=(aI (cO (bL (aF cR (bQ (aB (aA 4) (aB (aA 5) aG))) (bQ (aB (aA 2) (aB (aA 3) aG))))) (aI (bG (aA 6)) aQ) aQ) Of)
def uN:DS:=(aI (bG (aE .none)) aQ)
def rS:DS:=(aI (dQ (cJ (aA 1)) (gT 3 (bC (gN 4) (bC (gN 5) (bC (gN 6) cG)))) oO) uN)
abbrev Ix:Stmt:=bU 11
abbrev Bq:List Str:=["things","names"]
abbrev Nn:List Str:=["things","names"]
theorem Hi:List.Nodup (["name","kind","names"]:List Str):=by decide +kernel
def xS:DS:=(aI (bG (bD dU (aB (bD rO (aB (cW [none,none,some 1] (cJ (aA 0)) (gT 2 (bC (gN 0) (bC (gN 1) cG))) cX (bQ (aB (dW (aA 2) (aA 0)) (aB (aA 1) aG)))) aG)) aG))) aQ)
abbrev Pw:Stmt:=bU 12
abbrev Ak:List Str:=["names"]
abbrev At:List Str:=["names"]
theorem Jy:List.Nodup (["elder","new"]:List Str):=by decide +kernel
def wK:DS:=(aI (bG (nF [none,none] (qG (aA 0)) (gT 2 (bC (gN 0) (bC (gN 1) cG))) cX (aA 1) (aA 0))) aQ)
abbrev Rv:Stmt:=bU 13
abbrev Fj:List Str:=["end","names"]
abbrev Nv:List Str:=["end","names"]
def sQ:DS:=(aI (bG (bQ (aB (dW (aA 1) (aF aN (aA 0) (aE (.int 0)))) (aB (aF aN (aA 0) (aE (.int 1))) aG)))) aQ)
abbrev Hk:Stmt:=bU 14
abbrev Hs:List Str:=["saying","names","word","a","b","words","x","y","number","strict"]
abbrev Al:List Str:=["saying","names"]
def Md:DS:=(aI (bG (bQ (aB (aA 2) (aB (dW (aA 1) (aA 3)) (aB (dW (aA 1) (aA 4)) (aB (aA 5) aG)))))) aQ)
def Mm:DS:=(aI (lG (aA 0) (gT 4 (bC (gN 2) (bC (gN 3) (bC (gN 4) (bC (gN 5) cG)))))) Md)
def Bn:DS:=(aI (bG (bQ (aB (aA 2) (aB (aT 2 pO (aB (aA 6) (aB (aA 1) aG))) (aB (aT 2 pO (aB (aA 7) (aB (aA 1) aG))) (aB (aA 8) (aB (aA 9) aG))))))) aQ)
def zU:DS:=(aI (lG (aA 0) (gT 5 (bC (gN 2) (bC (gN 6) (bC (gN 7) (bC (gN 8) (bC (gN 9) cG))))))) Bn)
def rJ:DS:=(aI (cO (bL (aF cR (aF aN (aA 0) (aE (.int 0))) (aE (.str "may")))) Mm aQ) zU)
abbrev Rk:Stmt:=bU 15
abbrev Fd:List Str:=["talk","names","things","sayings"]
abbrev Nq:List Str:=["talk","names"]
theorem Tq:List.Nodup (["saying","names"]:List Str):=by decide +kernel
def zI:DS:=(aI (bG (bQ (aB (aT 2 nW (aB (aA 2) (aB (aA 1) aG))) (aB (bD dU (aB (cW [none,some 1] (cJ (aA 3)) (gN 0) cX (aT 2 sF (aB (aA 0) (aB (aA 1) aG)))) aG)) aG)))) aQ)
def yJ:DS:=(aI (lG (aA 0) (gT 2 (bC (gN 2) (bC (gN 3) cG)))) zI)
abbrev Np:Stmt:=bU 16
abbrev Ic:List Str:=["things","names","telling","elder"]
abbrev Ov:List Str:=["things","names","telling"]
theorem Tb:List.Nodup (["new","things","telling","elder"]:List Str):=by decide +kernel
def vR:DS:=(aI (bG (bD dU (aB (cW [none,some 0,some 2,some 3] (cJ (aT 1 nE (aB (aT 2 nW (aB (aA 0) (aB (aA 1) aG))) aG))) (gN 0) cX (aT 3 sT (aB (aA 1) (aB (aA 2) (aB (dW (aA 3) (aA 0)) aG))))) aG))) aQ)
def vM:DS:=(aI (aZ 3 (lH (aT 1 qS (aB (aA 1) aG)))) vR)
abbrev Hq:Stmt:=bU 17
abbrev zP:List Str:=["things","names","table","elder","pairs"]
abbrev Ji:List Str:=["things","names","table"]
theorem Qb:List.Nodup (["a","b","things","table","elder"]:List Str):=by decide +kernel
def Mn:DS:=(aI (bG (bD dU (aB (cW [none,none,some 0,some 2,some 3] (cJ (aA 4)) (gT 2 (bC (gN 0) (bC (gN 1) cG))) cX (bQ (aB (aA 0) (aB (aA 1) (aB (aT 4 tR (aB (aA 2) (aB (aA 3) (aB (dW (aA 4) (aA 0)) (aB (dW (aA 4) (aA 1)) aG))))) aG))))) aG))) aQ)
def uJ:DS:=(aI (aZ 4 (aT 1 tW (aB (aT 2 nW (aB (aA 0) (aB (aA 1) aG))) aG))) Mn)
def vE:DS:=(aI (aZ 3 (lH (aT 1 qS (aB (aA 1) aG)))) uJ)
abbrev yY:Stmt:=bU 19
abbrev Km:List Str:=["_law_script"]
abbrev Lf:List Str:=["_law_script"]
def uF:DS:=(aI (bG (gV (aB (bD uE (aB (dG (aA 0) fH (cY (aE (.int 63)))) aG)) (aB (aE (.int 0)) (aB (aE (.int 0)) aG))))) aQ)
abbrev Iu:Stmt:=bU 20
abbrev Qf:List Str:=["_law_tape_here","_law_many","_law_found","_law_spot","_law_cell","_law_mixed"]
abbrev Ep:List Str:=["_law_tape_here","_law_many"]
def Aa:DS:=(aI (bG (aA 2)) aQ)
def Ck:DS:=(aI (nP (aA 0) (aE (.int 2)) (aF kL (aF aN (aA 0) (aE (.int 2))) (aA 1))) Aa)
def Lc:DS:=(aI (aZ 2 (aF gB (aF aN (aA 0) (aE (.int 2))) (aA 1))) Ck)
def Js:DS:=(aI (bG (aF gB (aA 4) (aA 1))) aQ)
def Cu:DS:=(aI (nP (aA 0) (aE (.int 2)) (aF kL (aA 4) (aA 1))) Js)
def Ff:DS:=(aI (bG (aF gB (aF kL (aA 5) (aE (.int 64))) (aA 1))) aQ)
def Rn:DS:=(aI (aZ 5 (aF gB (aF dY (aF gB (aF cF (aF dY (aA 5) (aE (.int 40692))) (aF dY (aA 3) (aA 3))) (aE (.int 2147483399))) (aE (.int 16807))) (aE (.int 2147483629)))) Ff)
def sX:DS:=(aI (aZ 5 (aF gB (aF dY (aF cF (aF cF (aF dY (aF gB (aA 4) (aE (.int 1000003))) (aE (.int 613))) (aF dY (aE (.int 104729)) (aA 3))) (aE (.int 17))) (aE (.int 48271))) (aE (.int 2147483647)))) Rn)
def sS:DS:=(aI (cO (jL (bL (aF vB (aA 4) (aF sL (aE (.int 10)) (aE (.int 18))))) (bL (aF hX (aA 3) (bD dP (aB (aF aN (aA 0) (aE (.int 0))) aG))))) Cu aQ) sX)
def Di:DS:=(aI (cO (bL (aF gZ (aF aN (aA 0) (aE (.int 0))) (cI aG))) (aI (aZ 4 (aF aN (aF aN (aA 0) (aE (.int 0))) (aF gB (aA 3) (bD dP (aB (aF aN (aA 0) (aE (.int 0))) aG))))) aQ) aQ) sS)
def Nb:DS:=(aI (aZ 4 (aF dY (aA 3) (aA 3))) Di)
def Cv:DS:=(aI (nP (aA 0) (aE (.int 1)) (aF cF (aA 3) (aE (.int 1)))) Nb)
def Gr:DS:=(aI (aZ 3 (aF aN (aA 0) (aE (.int 1)))) Cv)
def xV:DS:=(aI (cO (bL (aF jG (aF aN (aA 0) (aE (.int 2))) (aE (.int 0)))) Lc aQ) Gr)
abbrev Kq:Stmt:=bU 21
abbrev Kj:List Str:=["_law_top","_law_bottom","_law_one","_law_other"]
abbrev Jw:List Str:=["_law_top","_law_bottom"]
def Gv:DS:=(aI (iQ 2 3 (aB (aA 3) (aB (aF gB (aA 2) (aA 3)) aG))) aQ)
def Io:DS:=(aI (bG (bQ (aB (aF kL (aA 0) (aA 2)) (aB (aF kL (aA 1) (aA 2)) aG)))) aQ)
def Dz:DS:=(aI (wO (bL (aF jG (aA 3) (aE (.int 0)))) Gv) Io)
def sJ:DS:=(aI (iQ 2 3 (aB (bD uT (aB (aA 0) aG)) (aB (aA 1) aG))) Dz)
abbrev Gi:Stmt:=bU 22
abbrev Ph:List Str:=["_law_one","_law_other","_law_left","_law_right"]
abbrev Hv:List Str:=["_law_one","_law_other"]
def Rg:DS:=(aI (bG (aF fD (bD kH (aB (aF jG (aA 2) (aA 3)) aG)) (bD kH (aB (aF hX (aA 2) (aA 3)) aG)))) aQ)
def Ha:DS:=(aI (aZ 3 (aF dY (aF aN (aA 1) (aE (.int 0))) (aF aN (aA 0) (aE (.int 1))))) Rg)
def vT:DS:=(aI (aZ 2 (aF dY (aF aN (aA 0) (aE (.int 0))) (aF aN (aA 1) (aE (.int 1))))) Ha)
abbrev Jz:Stmt:=bU 23
abbrev Kt:List Str:=["_law_tape_here","_law_most","_law_menu","_law_names","_law_many","_law_first","_law_things_here","_law_left","_law_name","_law_kind"]
abbrev Pt:List Str:=["_law_tape_here","_law_most"]
def f9:DS:=(aI (aZ 7 (aF fD (aF fD (aA 7) (aE (.int 1))) (bD kH (aB (aF cR (aA 9) (aE (.str "stretch"))) aG)))) aQ)
def uS:DS:=(aI (cO (bL (aF jG (aA 7) (aE (.int 0)))) (aI (eW (fF (aA 6) (bQ (aB (aA 8) (aB (aA 9) aG))))) aQ) aQ) f9)
def Kb:DS:=(aI (cO (lB (bL (aF hX (aA 7) (aE (.int 2)))) (jL (bL (aF cR (aA 7) (aE (.int 2)))) (bL (aF hX (bD dP (aB (aA 6) aG)) (aF fD (aA 4) (aE (.int 1))))))) (aI (aZ 9 (aE (.str "point"))) aQ) aQ) uS)
def sI:DS:=(aI (aZ 9 (aF aN (cI (aB (aE (.str "stretch")) (aB (aE (.str "point")) (aB (aE (.str "stretch")) (aB (aE (.str "point")) (aB (aE (.str "stretch")) aG)))))) (aT 2 cU (aB (aA 0) (aB (aE (.int 5)) aG))))) Kb)
def xA:DS:=(aI (bG (bD dU (aB (aA 6) aG))) aQ)
def Ro:DS:=(aI (dQ (cJ (dG (aA 3) (cY (aA 5)) (cY (aF cF (aA 5) (aA 4))))) (gN 8) sI) xA)
def Gy:DS:=(aI (aZ 7 (aA 1)) Ro)
def t4:DS:=(aI (aZ 6 (gV aG)) Gy)
def t6:DS:=(aI (aZ 5 (aT 2 cU (aB (aA 0) (aB (aF fD (aE (.int 7)) (aA 4)) aG)))) t4)
def n6:DS:=(aI (aZ 4 (aF aN (cI (aB (aE (.int 2)) (aB (aE (.int 3)) (aB (aE (.int 6)) (aB (aE (.int 5)) (aB (aE (.int 1)) (aB (aE (.int 4)) aG))))))) (aT 2 cU (aB (aA 0) (aB (aE (.int 6)) aG))))) t6)
def Vn:DS:=(aI (aZ 3 (aF aN (aA 2) (aT 2 cU (aB (aA 0) (aB (aE (.int 5)) aG))))) n6)
def Hg:DS:=(aI (eW (fF (aA 2) (cI (aB (aE (.str "any")) (aB (aE (.str "ends")) (aB (aE (.str "long")) (aB (aE (.str "same")) (aB (aE (.str "told")) (aB (aE (.str "within")) aG))))))))) Vn)
def Nf:DS:=(aI (eW (fF (aA 2) (cI (aB (aE (.str "ahead")) (aB (aE (.str "any")) (aB (aE (.str "behind")) (aB (aE (.str "ends")) (aB (aE (.str "meets")) (aB (aE (.str "met")) aG))))))))) Hg)
def Ky:DS:=(aI (eW (fF (aA 2) (cI (aB (aE (.str "m")) (aB (aE (.str "n")) (aB (aE (.str "nm")) (aB (aE (.str "s")) (aB (aE (.str "st")) (aB (aE (.str "stretch")) aG))))))))) Nf)
def Ad:DS:=(aI (aZ 2 (gV (aB (cI (aB (aE (.str "a")) (aB (aE (.str "ab")) (aB (aE (.str "b")) (aB (aE (.str "point")) (aB (aE (.str "zz")) (aB (aE (.str "zzzzzzzz")) aG))))))) (aB (cI (aB (aE (.str "begin")) (aB (aE (.str "end")) (aB (aE (.str "gap")) (aB (aE (.str "may")) (aB (aE (.str "o")) (aB (aE (.str "strict")) aG))))))) aG)))) Ky)
abbrev Jv:Stmt:=bU 24
abbrev Jr:List Str:=["_law_tape_here","_law_things_here","_law_found","_law_name","_law_kind","_law_bottom","_law_begin"]
abbrev Ru:List Str:=["_law_tape_here","_law_things_here"]
def Je:DS:=(aI (cO (bL (aF cR (aA 4) (aE (.str "point")))) (aI (eW (fF (aA 2) (aT 2 jE (aB (aA 6) (aB (aA 5) aG))))) aQ) (aI (eW (fF (aA 2) (bQ (aB (aT 2 jE (aB (aA 6) (aB (aA 5) aG))) (aB (aT 2 jE (aB (aF cF (aF cF (aA 6) (aE (.int 1))) (aT 2 cU (aB (aA 0) (aB (aE (.int 5)) aG)))) (aB (aA 5) aG))) aG))))) aQ)) aQ)
def yS:DS:=(aI (aZ 6 (aF fD (aT 2 cU (aB (aA 0) (aB (aE (.int 7)) aG))) (aE (.int 2)))) Je)
def pL:DS:=(aI (aZ 5 (aF aN (cI (aB (aE (.int 1)) (aB (aE (.int 1)) (aB (aE (.int 2)) (aB (aE (.int 1)) (aB (aE (.int 3)) aG)))))) (aT 2 cU (aB (aA 0) (aB (aE (.int 5)) aG))))) yS)
def tL:DS:=(aI (bG (bD dU (aB (aA 2) aG))) aQ)
def Qa:DS:=(aI (dQ (cJ (aA 1)) (gT 2 (bC (gN 3) (bC (gN 4) cG))) pL) tL)
def wV:DS:=(aI (aZ 2 (gV aG)) Qa)
abbrev Ex:Stmt:=bU 25
abbrev Fl:List Str:=["_law_kind","_law_when"]
abbrev Ng:List Str:=["_law_kind","_law_when"]
def qQ:DS:=(aI (bG (sR (bL (aF cR (aA 0) (aE (.str "point")))) (bQ (aB (aA 1) (aB (aA 1) aG))) (aA 1))) aQ)
abbrev Dg:Stmt:=bU 26
abbrev Re:List Str:=["_law_one","_law_other","_law_first","_law_second","_law_rows"]
abbrev Nh:List Str:=["_law_one","_law_other"]
def Ce:DS:=(aI (cO (bL (aF cR (aT 2 iJ (aB (aF aN (aA 3) (aE (.int 1))) (aB (aF aN (aA 2) (aE (.int 0))) aG))) (aE (.int 0)))) (aI (bG (aE (.str "met"))) aQ) aQ) aQ)
def Ls:DS:=(aI (cO (bL (aF cR (aT 2 iJ (aB (aF aN (aA 2) (aE (.int 1))) (aB (aF aN (aA 3) (aE (.int 0))) aG))) (aE (.int 0)))) (aI (bG (aE (.str "meets"))) aQ) aQ) Ce)
def Qk:DS:=(aI (bG (aF aN (aF aN (aA 4) (aF cF (aT 2 iJ (aB (aF aN (aA 2) (aE (.int 0))) (aB (aF aN (aA 3) (aE (.int 0))) aG))) (aE (.int 1)))) (aF cF (aT 2 iJ (aB (aF aN (aA 2) (aE (.int 1))) (aB (aF aN (aA 3) (aE (.int 1))) aG))) (aE (.int 1))))) aQ)
def wM:DS:=(aI (aZ 4 (cI (aB (cI (aB (aE (.str "overlaps")) (aB (aE (.str "ended")) (aB (aE (.str "holds")) aG)))) (aB (cI (aB (aE (.str "begins")) (aB (aE (.str "same")) (aB (aE (.str "begun")) aG)))) (aB (cI (aB (aE (.str "within")) (aB (aE (.str "ends")) (aB (aE (.str "lapped")) aG)))) aG))))) Qk)
def Dp:DS:=(aI (cO (jL (bL (aF cR (aF aN (aA 0) (aE (.int 0))) (aE (.str "stretch")))) (bL (aF cR (aF aN (aA 1) (aE (.int 0))) (aE (.str "stretch"))))) Ls aQ) wM)
def Eb:DS:=(aI (cO (bL (aF hX (aT 2 iJ (aB (aF aN (aA 3) (aE (.int 1))) (aB (aF aN (aA 2) (aE (.int 0))) aG))) (aE (.int 0)))) (aI (bG (aE (.str "behind"))) aQ) aQ) Dp)
def Bi:DS:=(aI (cO (bL (aF hX (aT 2 iJ (aB (aF aN (aA 2) (aE (.int 1))) (aB (aF aN (aA 3) (aE (.int 0))) aG))) (aE (.int 0)))) (aI (bG (aE (.str "ahead"))) aQ) aQ) Eb)
def uQ:DS:=(aI (iQ 2 3 (aB (aT 2 lT (aB (aF aN (aA 0) (aE (.int 0))) (aB (aF aN (aA 0) (aE (.int 1))) aG))) (aB (aT 2 lT (aB (aF aN (aA 1) (aE (.int 0))) (aB (aF aN (aA 1) (aE (.int 1))) aG))) aG))) Bi)
abbrev Lk:Stmt:=bU 27
abbrev yR:List Str:=["_law_one","_law_other","_law_order"]
abbrev Bv:List Str:=["_law_one","_law_other"]
def Cd:DS:=(aI (bG (aF cF (aF cF (dG (aA 2) fH (cY (aE (.int 1)))) (aF aN (cI (aB (dG (aA 2) (cY (aE (.int 3))) (cY (aE (.int 6)))) (aB (dG (aA 2) (cY (aE (.int 7))) (cY (aE (.int 10)))) aG))) (bD kH (aB (aF cR (aA 0) (aE (.str "stretch"))) aG)))) (dG (aA 2) (cY (aE (.int 12))) fH))) aQ)
def Ax:DS:=(aI (cO (jL (bL (aF cR (aA 0) (aE (.str "point")))) (bL (aF cR (aA 1) (aE (.str "point"))))) (aI (bG (cI (aB (aE (.str "ahead")) (aB (aE (.str "same")) (aB (aE (.str "behind")) aG))))) aQ) aQ) Cd)
def wX:DS:=(aI (cO (jL (bL (aF cR (aA 0) (aE (.str "stretch")))) (bL (aF cR (aA 1) (aE (.str "stretch"))))) (aI (bG (aA 2)) aQ) aQ) Ax)
def zT:DS:=(aI (aZ 2 (aF cF (aA 2) (cI (aB (aE (.str "ended")) (aB (aE (.str "holds")) (aB (aE (.str "begun")) (aB (aE (.str "lapped")) (aB (aE (.str "met")) (aB (aE (.str "behind")) aG))))))))) wX)
def wL:DS:=(aI (aZ 2 (cI (aB (aE (.str "ahead")) (aB (aE (.str "meets")) (aB (aE (.str "overlaps")) (aB (aE (.str "begins")) (aB (aE (.str "within")) (aB (aE (.str "ends")) (aB (aE (.str "same")) aG))))))))) zT)
abbrev Iw:Stmt:=bU 28
abbrev Ar:List Str:=["_law_things_here","_law_telling_here","_law_found","_law_name","_law_kind","_law_when"]
abbrev Gx:List Str:=["_law_things_here","_law_telling_here"]
def xD:DS:=(aI (kI (aA 2) (aA 3) (bQ (aB (aA 4) (aB (aA 5) aG)))) aQ)
def Ki:DS:=(aI (bG (aA 2)) aQ)
def Ca:DS:=(aI (dQ (uA (aA 0) (aA 1)) (gT 2 (bC (gT 2 (bC (gN 3) (bC (gN 4) cG))) (bC (gN 5) cG))) xD) Ki)
def wI:DS:=(aI (aZ 2 mI) Ca)
abbrev Hy:Stmt:=bU 29
abbrev Bj:List Str:=["_law_known","_law_end","_law_kind","_law_when"]
abbrev Bf:List Str:=["_law_known","_law_end"]
def Qy:DS:=(aI (bG (aF aN (aT 2 lT (aB (aA 2) (aB (aA 3) aG))) (aF aN (aA 1) (aE (.int 1))))) aQ)
def rM:DS:=(aI (lG (iX (aA 0) (aF aN (aA 1) (aE (.int 0)))) (gT 2 (bC (gN 2) (bC (gN 3) cG)))) Qy)
abbrev Bb:Stmt:=bU 30
abbrev Bg:List Str:=["_law_tape_here","_law_things_here","_law_known","_law_a","_law_b","_law_one","_law_other","_law_words_here","_law_kept"]
abbrev Ik:List Str:=["_law_tape_here","_law_things_here","_law_known"]
theorem EL:List.Nodup (["_law_word_here","_law_tape_here"]:List Str):=by decide +kernel
theorem Yb:List.Nodup (["_law_word_here","_law_kept"]:List Str):=by decide +kernel
def uK:DS:=(aI (bG (bQ (aB (aE (.str "may")) (aB (aF aN (aA 5) (aE (.int 0))) (aB (aF aN (aA 6) (aE (.int 0))) (aB (bD dU (aB (cW [none,some 8] (cJ (aA 7)) (gN 0) (bL (aF lS (aA 0) (aA 1))) (aA 0)) aG)) aG)))))) aQ)
def Im:DS:=(aI (cO (lB (bL (aF jG (aT 2 cU (aB (aA 0) (aB (aE (.int 4)) aG))) (aE (.int 0)))) (bL (aF cR (aA 8) (cI aG)))) (aI (aZ 8 (aF cF (aA 8) (cI (aB (aT 2 nG (aB (iX (aA 2) (aF aN (aA 5) (aE (.int 0)))) (aB (iX (aA 2) (aF aN (aA 6) (aE (.int 0)))) aG))) aG)))) aQ) aQ) uK)
def Ju:DS:=(aI (aZ 8 (cW [none,some 0] (cJ (aA 7)) (gN 0) (bL (aF cR (aT 2 cU (aB (aA 1) (aB (aE (.int 4)) aG))) (aE (.int 0)))) (aA 0))) Im)
def An:DS:=(aI (aZ 7 (aT 2 mT (aB (aF aN (aA 5) (aE (.int 1))) (aB (aF aN (aA 6) (aE (.int 1))) aG)))) Ju)
def Nd:DS:=(aI (iQ 5 6 (aB (aF aN (aA 1) (aA 3)) (aB (aF aN (aA 1) (aA 4)) aG))) An)
def Ni:DS:=(aI (aZ 4 (aF gB (aF cF (aF cF (aA 3) (aE (.int 1))) (aT 2 cU (aB (aA 0) (aB (aF fD (bD dP (aB (aA 1) aG)) (aE (.int 1))) aG)))) (bD dP (aB (aA 1) aG)))) Nd)
def wU:DS:=(aI (aZ 3 (aT 2 cU (aB (aA 0) (aB (bD dP (aB (aA 1) aG)) aG)))) Ni)
abbrev Qu:Stmt:=bU 31
abbrev Mx:List Str:=["_law_things_here","_law_found","_law_name","_law_kind"]
abbrev Gs:List Str:=["_law_things_here"]
def nA:DS:=(aI (aZ 1 (aF cF (aA 1) (dG (cI (aB (bQ (aB (aA 2) (aB (aE (.int 0)) aG))) (aB (bQ (aB (aA 2) (aB (aE (.int 1)) aG))) aG))) fH (cY (aF cF (aE (.int 1)) (bD kH (aB (aF cR (aA 3) (aE (.str "stretch"))) aG))))))) aQ)
def tG:DS:=(aI (bG (aA 1)) aQ)
def Ee:DS:=(aI (dQ (cJ (aA 0)) (gT 2 (bC (gN 2) (bC (gN 3) cG))) nA) tG)
def uC:DS:=(aI (aZ 1 (cI aG)) Ee)
abbrev Gq:Stmt:=bU 32
abbrev Rf:List Str:=["_law_tape_here","_law_things_here","_law_known","_law_ends_here","_law_a","_law_b","_law_one","_law_other","_law_number","_law_more"]
abbrev Ri:List Str:=["_law_tape_here","_law_things_here","_law_known"]
def Lg:DS:=(aI (bG (bQ (aB (aE (.str "gap")) (aB (aF aN (aA 3) (aA 4)) (aB (aF aN (aA 3) (aA 5)) (aB (aA 8) (aB (aF cR (aT 2 cU (aB (aA 0) (aB (aE (.int 3)) aG))) (aE (.int 0))) aG))))))) aQ)
def Jt:DS:=(aI (aZ 8 (aT 2 jE (aB (aF cF (aF dY (aF aN (aA 8) (aE (.int 0))) (aF aN (aA 9) (aE (.int 1)))) (aF dY (aF aN (aA 9) (aE (.int 0))) (aF aN (aA 8) (aE (.int 1))))) (aB (aF dY (aF aN (aA 8) (aE (.int 1))) (aF aN (aA 9) (aE (.int 1)))) aG)))) Lg)
def Ae:DS:=(aI (aZ 9 (aF aN (cI (aB (bQ (aB (aE (.int 0)) (aB (aE (.int 1)) aG))) (aB (bQ (aB (aE (.int 1)) (aB (aE (.int 1)) aG))) (aB (bQ (aB (aE (.int 1)) (aB (aE (.int 2)) aG))) (aB (bQ (aB (aE (.int 2)) (aB (aE (.int 1)) aG))) (aB (bQ (aB (qT (aE (.int 1))) (aB (aE (.int 2)) aG))) (aB (bQ (aB (aE (.int 0)) (aB (aE (.int 1)) aG))) aG))))))) (aT 2 cU (aB (aA 0) (aB (aE (.int 6)) aG))))) Jt)
def Dl:DS:=(aI (aZ 8 (aT 2 jE (aB (aF fD (aF dY (aF aN (aA 6) (aE (.int 0))) (aF aN (aA 7) (aE (.int 1)))) (aF dY (aF aN (aA 7) (aE (.int 0))) (aF aN (aA 6) (aE (.int 1))))) (aB (aF dY (aF aN (aA 6) (aE (.int 1))) (aF aN (aA 7) (aE (.int 1)))) aG)))) Ae)
def Lp:DS:=(aI (iQ 6 7 (aB (aT 2 kC (aB (aA 2) (aB (aF aN (aA 3) (aA 4)) aG))) (aB (aT 2 kC (aB (aA 2) (aB (aF aN (aA 3) (aA 5)) aG))) aG))) Dl)
def Kx:DS:=(aI (aZ 5 (aF gB (aF cF (aF cF (aA 4) (aE (.int 1))) (aT 2 cU (aB (aA 0) (aB (aF fD (bD dP (aB (aA 3) aG)) (aE (.int 1))) aG)))) (bD dP (aB (aA 3) aG)))) Lp)
def Nk:DS:=(aI (aZ 4 (aT 2 cU (aB (aA 0) (aB (bD dP (aB (aA 3) aG)) aG)))) Kx)
def vY:DS:=(aI (aZ 3 (aT 1 qI (aB (aA 1) aG))) Nk)
abbrev Nu:Stmt:=bU 33
abbrev Nz:List Str:=["_law_tape_here","_law_things_here","_law_telling_here","_law_most","_law_gaps","_law_known","_law_found","_law_k"]
abbrev Os:List Str:=["_law_tape_here","_law_things_here","_law_telling_here","_law_most","_law_gaps"]
def Ea:DS:=(aI (cO (jL (bL (aA 4)) (jL (bL (aF jG (bD dP (aB (aT 1 qI (aB (aA 1) aG)) aG)) (aE (.int 1)))) (lB (bL (aF hX (bD dP (aB (aA 1) aG)) (aE (.int 2)))) (bL (aF cR (aT 2 cU (aB (aA 0) (aB (aE (.int 3)) aG))) (aE (.int 0))))))) (aI (eW (fF (aA 6) (aT 3 nO (aB (aA 0) (aB (aA 1) (aB (aA 5) aG)))))) aQ) (aI (cO (bL (aF jG (bD dP (aB (aA 1) aG)) (aE (.int 1)))) (aI (eW (fF (aA 6) (aT 3 mN (aB (aA 0) (aB (aA 1) (aB (aA 5) aG)))))) aQ) aQ) aQ)) aQ)
def Kd:DS:=(aI (bG (bD dU (aB (aA 6) aG))) aQ)
def R6:DS:=(aI (dQ (jT (aT 2 cU (aB (aA 0) (aB (aF cF (aA 3) (aE (.int 1))) aG)))) (gN 7) Ea) Kd)
def Uq:DS:=(aI (aZ 6 (gV aG)) R6)
def Rq:DS:=(aI (aZ 5 (aT 2 oW (aB (aA 1) (aB (aA 2) aG)))) Uq)
abbrev Ek:Stmt:=bU 34
abbrev Dr:List Str:=["_law_tape_here","_law_ends_here","_law_most","_law_gaps","_law_things_here"]
abbrev Pc:List Str:=["_law_tape_here","_law_ends_here","_law_most","_law_gaps"]
def Gw:DS:=(aI (bG (bQ (aB (aA 4) (aB (aT 5 uV (aB (aA 0) (aB (aA 4) (aB (aT 2 qC (aB (aA 0) (aB (aA 4) aG))) (aB (aA 2) (aB (aA 3) aG)))))) aG)))) aQ)
def vJ:DS:=(aI (aZ 4 (aT 2 xH (aB (aA 0) (aB (aA 1) aG)))) Gw)
abbrev Mh:Stmt:=bU 35
abbrev Nc:List Str:=["_law_known","_law_saying","_law_one","_law_other","_law_number","_law_found"]
abbrev Mo:List Str:=["_law_known","_law_saying"]
def Gj:DS:=(aI (bG (sP (aF hX (aA 5) (aE (.int 0))) (sO (aF cR (aA 5) (aE (.int 0))) (tI (aF aN (aA 1) (aE (.int 4))))))) aQ)
def Nx:DS:=(aI (aZ 5 (aT 2 iJ (aB (bQ (aB (aF fD (aF dY (aF aN (aA 2) (aE (.int 0))) (aF aN (aA 3) (aE (.int 1)))) (aF dY (aF aN (aA 3) (aE (.int 0))) (aF aN (aA 2) (aE (.int 1))))) (aB (aF dY (aF aN (aA 2) (aE (.int 1))) (aF aN (aA 3) (aE (.int 1)))) aG))) (aB (aA 4) aG)))) Gj)
def Lr:DS:=(aI (aZ 4 (aF aN (aA 1) (aE (.int 3)))) Nx)
def Pa:DS:=(aI (iQ 2 3 (aB (aT 2 kC (aB (aA 0) (aB (aF aN (aA 1) (aE (.int 1))) aG))) (aB (aT 2 kC (aB (aA 0) (aB (aF aN (aA 1) (aE (.int 2))) aG))) aG))) Lr)
def oX:DS:=(aI (cO (bL (aF cR (aF aN (aA 1) (aE (.int 0))) (aE (.str "may")))) (aI (bG (aF lS (aT 2 nG (aB (iX (aA 0) (aF aN (aA 1) (aE (.int 1)))) (aB (iX (aA 0) (aF aN (aA 1) (aE (.int 2)))) aG))) (aF aN (aA 1) (aE (.int 3))))) aQ) aQ) Pa)
abbrev Ku:Stmt:=bU 36
abbrev Dw:List Str:=["_law_talk_here","_law_telling_here","_law_known"]
abbrev Db:List Str:=["_law_talk_here","_law_telling_here"]
theorem Q2:List.Nodup (["_law_saying","_law_known"]:List Str):=by decide +kernel
def Ei:DS:=(aI (bG (bD wP (aB (cW [none,some 2] (cJ (aF aN (aA 0) (aE (.int 1)))) (gN 0) cX (aT 2 wY (aB (aA 1) (aB (aA 0) aG)))) aG))) aQ)
def xW:DS:=(aI (aZ 2 (aT 2 oW (aB (aF aN (aA 0) (aE (.int 0))) (aB (aA 1) aG)))) Ei)
abbrev Nj:Stmt:=bU 37
abbrev Gk:List Str:=["_law_tape_here","_law_things_here","_law_found","_law_k","_law_j","_law_words_here"]
abbrev Ab:List Str:=["_law_tape_here","_law_things_here"]
theorem R1:List.Nodup (["_law_word_here","_law_tape_here"]:List Str):=by decide +kernel
def Pp:DS:=(aI (eW (fF (aA 2) (bQ (aB (aF aN (aF aN (aA 1) (aA 3)) (aE (.int 0))) (aB (aF aN (aF aN (aA 1) (aA 4)) (aE (.int 0))) (aB (bD dU (aB (aA 5) aG)) aG)))))) aQ)
def Il:DS:=(aI (aZ 5 (cW [none,some 0] (cJ (aT 2 mT (aB (aF aN (aF aN (aA 1) (aA 3)) (aE (.int 1))) (aB (aF aN (aF aN (aA 1) (aA 4)) (aE (.int 1))) aG)))) (gN 0) (bL (aF cR (aT 2 cU (aB (aA 1) (aB (aE (.int 3)) aG))) (aE (.int 0)))) (aA 0))) Pp)
def Rt:DS:=(aI (dQ (rG (aF cF (aA 3) (aE (.int 1))) (bD dP (aB (aA 1) aG))) (gN 4) Il) aQ)
def Gz:DS:=(aI (bG (bD dU (aB (aA 2) aG))) aQ)
def Bp:DS:=(aI (dQ (jT (bD dP (aB (aA 1) aG))) (gN 3) Rt) Gz)
def tX:DS:=(aI (aZ 2 (gV aG)) Bp)
abbrev Bu:Stmt:=bU 38
abbrev Rp:List Str:=["_law_word_here","_law_order"]
abbrev Qm:List Str:=["_law_word_here"]
def Ke:DS:=(aI (bG (aF aN (aA 1) (aF fD (aE (.int 12)) (pH (aA 1) (aA 0))))) aQ)
def Pe:DS:=(aI (aZ 1 (aF cF (aA 1) (cI (aB (aE (.str "ended")) (aB (aE (.str "holds")) (aB (aE (.str "begun")) (aB (aE (.str "lapped")) (aB (aE (.str "met")) (aB (aE (.str "behind")) aG))))))))) Ke)
def uZ:DS:=(aI (aZ 1 (cI (aB (aE (.str "ahead")) (aB (aE (.str "meets")) (aB (aE (.str "overlaps")) (aB (aE (.str "begins")) (aB (aE (.str "within")) (aB (aE (.str "ends")) (aB (aE (.str "same")) aG))))))))) Pe)
abbrev Jj:Stmt:=bU 39
abbrev Dm:List Str:=["_law_first"]
abbrev Av:List Str:=[]
def Ch:DS:=(aI (bG (aF cF (aA 0) (cI (aB (aE (.str "ended")) (aB (aE (.str "holds")) (aB (aE (.str "begun")) (aB (aE (.str "lapped")) (aB (aE (.str "met")) (aB (aE (.str "behind")) aG))))))))) aQ)
def uI:DS:=(aI (aZ 0 (cI (aB (aE (.str "ahead")) (aB (aE (.str "meets")) (aB (aE (.str "overlaps")) (aB (aE (.str "begins")) (aB (aE (.str "within")) (aB (aE (.str "ends")) (aB (aE (.str "same")) aG))))))))) Ch)
abbrev zX:Stmt:=bU 40
abbrev Gn:List Str:=["_law_tape_here","_law_things_here","_law_old","_law_some","_law_first","_law_newer","_law_at","_law_pairs"]
abbrev Hz:List Str:=["_law_tape_here","_law_things_here"]
theorem Po:List.Nodup (["_law_name","_law_kind"]:List Str):=by decide +kernel
def Mq:DS:=(aI (aZ 5 (vS (aF cF (dG (aA 2) (cY (aA 6)) fH) (dG (aA 2) fH (cY (aA 6)))) (aF aN (cI (aB (aE (.int 1)) (aB (qT (aE (.int 1))) aG))) (aF fD (aA 4) (aE (.int 3)))))) aQ)
def Eg:DS:=(aI (aZ 6 (aT 2 cU (aB (aA 0) (aB (bD dP (aB (aA 2) aG)) aG)))) Mq)
def zM:DS:=(aI (bG (vP (aF cF (dG (aA 7) (cY (aA 6)) fH) (dG (aA 7) fH (cY (aA 6)))))) aQ)
def Qc:DS:=(aI (aZ 6 (aT 2 cU (aB (aA 0) (aB (bD dP (aB (aA 7) aG)) aG)))) zM)
def uO:DS:=(aI (aZ 7 (sN (aA 2) (aA 5))) Qc)
def Jh:DS:=(aI (cO (bL (aF hX (aA 4) (aE (.int 3)))) (aI (aZ 5 (aF cF (dG (aF aN (aA 3) (aA 4)) (cY (aT 2 cU (aB (aA 0) (aB (aE (.int 3)) aG)))) fH) (aF aN (aA 3) (aA 4)))) aQ) Eg) uO)
def Er:DS:=(aI (aZ 4 (aT 2 cU (aB (aA 0) (aB (aE (.int 5)) aG)))) Jh)
def Fu:DS:=(aI (eW (fF (aA 3) (cI (aB (aE (.str "met")) (aB (aE (.str "same")) (aB (aE (.str "behind")) (aB (aE (.str "ahead")) (aB (aE (.str "told")) (aB (aE (.str "any")) aG))))))))) Er)
def Au:DS:=(aI (aZ 3 (gV (aB (cI (aB (aE (.str "y")) (aB (aE (.str "x")) (aB (aE (.str "xy")) (aB (aE (.str "r")) (aB (aE (.str "q")) (aB (aE (.str "qqqqqqqq")) aG))))))) (aB (cI (aB (aE (.str "gap")) (aB (aE (.str "may")) (aB (aE (.str "point")) (aB (aE (.str "strict")) (aB (aE (.str "end")) (aB (aE (.str "stretch")) aG))))))) aG)))) Fu)
def xQ:DS:=(aI (aZ 2 (cW [none,none] (cJ (aA 1)) (gT 2 (bC (gN 0) (bC (gN 1) cG))) cX (aA 0))) Au)
abbrev yV:Stmt:=bU 41
abbrev Jg:List Str:=["_law_talk_here","_law_names","_law_found","_law_saying","_law_x","_law_y","_law_kinds","_law_name","_law_kind"]
abbrev Gg:List Str:=["_law_talk_here","_law_names"]
theorem E7:List.Nodup (["_law_end","_law_names"]:List Str):=by decide +kernel
theorem Yi:List.Nodup (["_law_name","_law_kinds"]:List Str):=by decide +kernel
def Cg:DS:=(aI (eW (fF (aA 2) (bQ (aB (aE (.str "gap")) (aB (aA 4) (aB (aA 5) (aB (aF aN (aA 3) (aE (.int 3))) (aB (aF aN (aA 3) (aE (.int 4))) aG)))))))) aQ)
def Mb:DS:=(aI (lG (cW [none,some 1] (cJ (dG (aA 3) (cY (aE (.int 1))) (cY (aE (.int 3))))) (gN 0) cX (bQ (aB (dW (aA 1) (aF aN (aA 0) (aE (.int 0)))) (aB (aF aN (aA 0) (aE (.int 1))) aG)))) (gL 2 (bC (gN 4) (bC (gN 5) cG)))) Cg)
def lM:DS:=(aI (cO (bL (aF cR (aF aN (aA 3) (aE (.int 0))) (aE (.str "may")))) (aI (eW (fF (aA 2) (bQ (aB (aE (.str "may")) (aB (dW (aA 1) (aF aN (aA 3) (aE (.int 1)))) (aB (dW (aA 1) (aF aN (aA 3) (aE (.int 2)))) (aB (aF aN (aA 3) (aE (.int 3))) aG))))))) aQ) Mb) aQ)
def pJ:DS:=(aI (kI (aA 6) (dW (aA 1) (aA 7)) (aA 8)) aQ)
def oT:DS:=(aI (bG (bQ (aB (bD dU (aB (cW [none,some 6] (cJ (bD pC (aB (aA 6) aG))) (gN 0) cX (bQ (aB (aA 0) (aB (iX (aA 1) (aA 0)) aG)))) aG)) (aB (bD dU (aB (aA 2) aG)) aG)))) aQ)
def Ie:DS:=(aI (dQ (cJ (aF aN (aA 0) (aE (.int 0)))) (gT 2 (bC (gN 7) (bC (gN 8) cG))) pJ) oT)
def qM:DS:=(aI (aZ 6 mI) Ie)
def Hh:DS:=(aI (dQ (cJ (aF aN (aA 0) (aE (.int 1)))) (gN 3) lM) qM)
def vO:DS:=(aI (aZ 2 (gV aG)) Hh)
abbrev Ew:Stmt:=bU 42
abbrev Dj:List Str:=["_law_things_here","_law_names","_law_telling_here","_law_known","_law_k"]
abbrev Ij:List Str:=["_law_things_here","_law_names","_law_telling_here"]
theorem Tz:List.Nodup (["_law_name","_law_known"]:List Str):=by decide +kernel
def Ml:DS:=(aI (kI (aA 3) (dW (aA 1) (aF aN (aF aN (aA 0) (aA 4)) (aE (.int 0)))) (aF aN (aA 2) (aA 4))) aQ)
def Af:DS:=(aI (bG (bD dU (aB (cW [none,some 3] (cJ (bD pC (aB (aA 3) aG))) (gN 0) cX (iX (aA 1) (aA 0))) aG))) aQ)
def Ll:DS:=(aI (dQ (jT (bD dP (aB (aA 0) aG))) (gN 4) Ml) Af)
def xU:DS:=(aI (aZ 3 mI) Ll)
abbrev Qr:Stmt:=bU 43
abbrev Cn:List Str:=["_law_things_here","_law_names","_law_table_here","_law_known","_law_a","_law_b","_law_words_here","_law_order","_law_found","_law_k","_law_j"]
abbrev Cr:List Str:=["_law_things_here","_law_names","_law_table_here"]
theorem Wl:List.Nodup (["_law_word_here","_law_words_here"]:List Str):=by decide +kernel
def Fp:DS:=(aI (mU (aA 3) (aB (dW (aA 1) (aA 5)) (aB (dW (aA 1) (aA 4)) aG)) (bD dU (aB (cW [none,some 6] (cJ (aT 0 xC aG)) (gN 0) (bL (aF lS (aT 1 qE (aB (aA 0) aG)) (aA 1))) (aA 0)) aG))) aQ)
def pK:DS:=(aI (mU (aA 3) (aB (dW (aA 1) (aA 4)) (aB (dW (aA 1) (aA 5)) aG)) (aA 6)) Fp)
def Op:DS:=(aI (eW (fF (aA 8) (bQ (aB (aF aN (aA 7) (aA 9)) (aB (aF aN (aA 7) (aA 10)) (aB (pA (aA 3) (aB (aF aN (aA 7) (aA 9)) (aB (aF aN (aA 7) (aA 10)) aG))) aG)))))) aQ)
def Qj:DS:=(aI (dQ (rG (aF cF (aA 9) (aE (.int 1))) (bD dP (aB (aA 7) aG))) (gN 10) Op) aQ)
def Om:DS:=(aI (bG (bD dU (aB (aA 8) aG))) aQ)
def Dt:DS:=(aI (dQ (jT (bD dP (aB (aA 7) aG))) (gN 9) Qj) Om)
def Pb:DS:=(aI (aZ 8 (gV aG)) Dt)
def pT:DS:=(aI (aZ 7 (pI (aA 1))) Pb)
def La:DS:=(aI (dQ (cJ (aA 2)) (gT 3 (bC (gN 4) (bC (gN 5) (bC (gN 6) cG)))) pK) pT)
def sY:DS:=(aI (aZ 3 rY) La)
abbrev Fi:Stmt:=bU 44
abbrev zZ:List Str:=["_law_names","_law_found","_law_name"]
abbrev Ip:List Str:=["_law_names"]
def pD:DS:=(aI (kI (aA 1) (dW (aA 0) (aA 2)) (aA 2)) aQ)
def sD:DS:=(aI (bG (aA 1)) aQ)
def Ec:DS:=(aI (dQ (rC (aA 0)) (gN 2) pD) sD)
def uH:DS:=(aI (aZ 1 mI) Ec)
abbrev Mw:Stmt:=bU 45
abbrev Oi:List Str:=["_law_script","_law_tape_here","_law_k","_law_talk_here","_law_things_here","_law_names","_law_back_here","_law_kept","_law_other","_law_turn","_law_telling_here","_law_found","_law_table_here"]
abbrev Qi:List Str:=["_law_script"]
def Pi:DS:=(aI (cO (bL (aF gZ (aT 2 qY (aB (aA 3) (aB (aA 10) aG))) (aT 2 qY (aB (aA 8) (aB (aA 11) aG))))) (aI (bG (aE (.bool false))) aQ) aQ) aQ)
def AD:DS:=(aI (cO (bL (aF gZ (bD fN (aB (aT 3 mY (aB (aF aN (aA 8) (aE (.int 0))) (aB (aA 6) (aB (aA 11) aG)))) aG)) (bD fN (aB (aA 10) aG)))) (aI (bG (aE (.bool false))) aQ) aQ) Pi)
def Ai:DS:=(aI (cO (bL (aF gZ (bD fN (aB (aA 11) aG)) (bD fN (aB (aT 3 uM (aB (aA 4) (aB (aA 5) (aB (aA 10) aG)))) aG)))) (aI (bG (aE (.bool false))) aQ) aQ) AD)
def u4:DS:=(aI (aZ 11 (aT 3 mY (aB (aA 4) (aB (aA 5) (aB (aA 10) aG))))) Ai)
def G1:DS:=(aI (aZ 10 (aT 2 qC (aB (aA 1) (aB (aA 4) aG)))) u4)
def Jn:DS:=(aI (cO (lB (bL (aF gZ (bD fN (aB (aT 3 mX (aB (aF aN (aA 8) (aE (.int 0))) (aB (aA 6) (aB (aA 11) aG)))) aG)) (bD fN (aB (aA 12) aG)))) (bL (aF gZ (bD lW (aB (bQ (aB (aA 3) (aB (aA 5) aG))) aG)) (aA 7)))) (aI (bG (aE (.bool false))) aQ) aQ) aQ)
def Lj:DS:=(aI (cO (bL (aF gZ (bD fN (aB (aA 11) aG)) (bD fN (aB (aT 3 vC (aB (aA 4) (aB (aA 5) (aB (aA 12) aG)))) aG)))) (aI (bG (aE (.bool false))) aQ) aQ) Jn)
def CY:DS:=(aI (aZ 11 (aT 3 mX (aB (aA 4) (aB (aA 5) (aB (aA 12) aG))))) Lj)
def Yv:DS:=(aI (aZ 12 (aT 2 tP (aB (aA 1) (aB (aA 4) aG)))) CY)
def Jb:DS:=(aI (dQ (jT (aE (.int 2))) (gN 9) G1) Yv)
def yW:DS:=(aI (cO (lB (bL (aF gZ (bD fN (aB (aA 8) aG)) (bD fN (aB (aT 2 xG (aB (aA 3) (aB (aA 5) aG))) aG)))) (bL (aF gZ (bD fN (aB (aT 2 oM (aB (aA 8) (aB (aA 6) aG))) aG)) (bD fN (aB (aA 3) aG))))) (aI (bG (aE (.bool false))) aQ) aQ) Jb)
def Jx:DS:=(aI (aZ 8 (aT 2 oM (aB (aA 3) (aB (aA 5) aG)))) yW)
def xT:DS:=(aI (iQ 6 7 (aB (lH (aT 1 yA (aB (aA 5) aG))) (aB (bD lW (aB (bQ (aB (aA 3) (aB (aA 5) aG))) aG)) aG))) Jx)
def Hd:DS:=(aI (aZ 5 (lH (aT 2 rZ (aB (aA 1) (aB (aA 4) aG))))) xT)
def M7:DS:=(aI (aZ 4 (aF aN (aA 3) (aE (.int 0)))) Hd)
def Y0:DS:=(aI (aZ 3 (aT 4 rR (aB (aA 1) (aB (aE (.int 12)) (aB (aE (.int 24)) (aB (aE (.bool true)) aG)))))) M7)
def yE:DS:=(aI (bG (aE (.bool true))) aQ)
def Fv:DS:=(aI (dQ (jT (aE (.int 3))) (gN 2) Y0) yE)
def uD:DS:=(aI (aZ 1 (aT 1 wT (aB (aA 0) aG))) Fv)
abbrev EN(R:DK):Ends2:={nx:=fun _ m=>R (.dat .none) m,rt:=R}
@[simp] theorem GM(x:PyData)(xs:List PyData):bT (x::xs) 0=some x:=by simp[bT,fB]
@[simp] theorem GO(x y:PyData)(xs:List PyData):bT (x::y::xs) 1=some y:=by
 have:(1:Int)<xs.length+1+1:=by omega
 simp[bT,fB,this]
theorem sz{n:Nat}(h:n<=1000):n<=sizeLine:=Nat.le_trans h (by rw[sizeLine_eq];decide)
theorem zQ{i j:Int}(h:Bd 64 i):IntMulOk i j:=IntMulOk.of_left (intBits_le_iff.mpr h)
theorem oF{i j:Int}(h:Bd 64 j):IntMulOk i j:=IntMulOk.of_right (intBits_le_iff.mpr h)
theorem Co:∀ ns:List Int,PyData.canLayAll0 (ns.map .int)=true/\PyData.depthAll (ns.map .int)<=1
 | []=>by simp[PyData.canLayAll0,PyData.depthAll]
 | n::ns=>by
  obtain⟨h1,h2⟩:=Co ns;simp only[au,PyData.canLayAll0,PyData.depthAll,PyData.canLay0,PyData.depth,h1,Bool.and_self];exact⟨trivial,by omega⟩
theorem To{ns:List Int}{i:Int}(h0:0<=i)(h:i<(ns.length:Int)):∃ v:Int,bT (ns.map PyData.int) i=some (.int v):=by
 obtain⟨k,rfl⟩:∃ k:Nat,i=k:=⟨i.toNat,by omega⟩
 have hk:k<ns.length:=by omega
 exact⟨ns[k],iD (by rw[List.getElem?_map,List.getElem?_eq_getElem hk]<;>rfl)⟩
theorem mE{i:Int}(h0:-100000000<=i)(h1:i<=100000000):Bd 64 i:=by
 unfold Bd;have e:(2:Nat)^64=18446744073709551616:=by decide
 omega
theorem g8:∀ ds m R,ds.length=Lf.length->wT ds m R->uF (EN R) (bN Km ds) m:=by
 rintro ds m R hl ⟨ns,rfl,hn,h⟩;have e:cP (ns.map PyData.int) none (some 63)=ns.map PyData.int:=by
  refine Pr _ ⟨rfl,?_⟩;simp[HT.sIx];omega
 simp[uF,e,sz];exact fun a _=>h a _ ⟨ns,0,0,bM,hn,by decide,by decide,by decide⟩
theorem Nl{m:Mu}{a:Addr}{ns:List Int}{L i j:Int}{l l2:Cel}(hn:ns.length<=63)(h0:0<=i)(h1:i<=L+1)(h2:0<=j):Fed 1 L m (aW m a (.l [.list (ns.map .int),.int i,.int j])) a :=
 ⟨⟨ns,i,j,bM,hn,h0,h1,h2⟩,fun c hc _=>cE hc⟩
theorem FS{m:Mu}{a:Addr}{ns:List Int}{L i j:Int}{l:Cel}(hn:ns.length<=63)(h0:0<=i)(h1:i<=L+1)(h2:0<=j):Fed 1 L m (aW (aW m a l) a (.l [.list (ns.map .int),.int i,.int j])) a :=
 ⟨⟨ns,i,j,bM,hn,h0,h1,h2⟩,fun c hc _=>by rw[cE hc,cE hc]⟩
theorem BC:∀ ds m R,ds.length=Ep.length->cU ds m R->xV (EN R) (bN Qf ds) m:=by
 rintro ds m R hl ⟨a,n,L,rfl,h0,hb,hL,⟨ns,i,j,hm,hn,i0,i1,j0⟩,h⟩;have nl:n.natAbs.log2<9000:=aj (hb.log #[1]) #[1]
 have n0:n≠0:=by omega
 have rng:∀ x:Int,0<=x.fmod n/\x.fmod n<n:=fun x=>⟨Int.fmod_nonneg_of_pos _ h0,Int.fmod_lt_of_pos _ h0⟩
 simp[xV,bT,fB,hm]
 by_cases hj:0<j
 ·right
  refine⟨hj,?_⟩;simp[Lc,Ck,Aa,bT,fB,hm,n0,nl];refine h _ _ (rng j).1 (rng j).2 (Nl (l:=.l []) (l2:=.l []) hn i0 #[0] ?_)
  rw[Int.fdiv_eq_ediv_of_nonneg _ #[0]]
  exact Int.ediv_nonneg #[0] #[0]
 ·left
  refine⟨by omega,?_⟩
  have hsq:IntMulOk i i:=zQ (mE #[0] #[0])
  simp[Gr,Cv,Nb,bT,fB,hm,hsq];have tail:∀ (cell:Int) (m':Mu),m'=aW m a (.l [.list (ns.map .int),.int (i+1),.int j])->sS (EN R) [some (.cel a),some (I n),none,some (I i),some (I cell),none] m':=by
   rintro cell m' rfl;have hjj:j=0:=by omega
   have fin:sX (EN R) [some (.cel a),some (I n),none,some (I i),some (I cell),none] (aW m a (.l [.list (ns.map .int),.int (i+1),.int j])):=by
    simp[sX,Rn,Ff,n0,nl];exact⟨oF (mE #[1] #[1]),zQ (mE #[1] #[1]),oF (mE #[1] #[1]),oF (mE #[1] #[1]),hsq,oF (mE #[1] #[1]),by decide +kernel,h _ _ (rng _).1 (rng _).2 (Nl (l:=.l []) (l2:=.l []) hn #[0] #[0] j0)⟩
   simp[sS,bT,fB,bM]
   by_cases c1:cell<1000000000000000000
   ·exact .inl ⟨c1,fin⟩
   ·right
    refine⟨by omega,?_⟩
    by_cases c2:(ns.length:Int)<=i
    ·exact .inl ⟨c2,fin⟩
    ·right
     refine⟨by omega,?_⟩
     simp[Cu,Js,bT,fB,bM,n0,nl];refine h _ _ (rng _).1 (rng _).2 (FS hn #[0] #[0] ?_)
     rw[Int.fdiv_eq_ediv_of_nonneg _ #[0]]
     exact Int.ediv_nonneg #[0] #[0]
  obtain⟨y1,y2⟩:=Co ns;simp[Di,bM,PyData.canLay0,PyData.depth,y1];refine⟨rfl,by omega,?_⟩
  by_cases hz:ns=[]
  ·left
   subst hz;exact⟨rfl,tail _ _ rfl⟩
  ·right
   have hp:(0:Int)<ns.length:=by
    have:ns.length≠0:=fun e=>hz (List.length_eq_zero_iff.mp e)
    omega
   obtain⟨v,hv⟩:=To (ns:=ns) (i:=i.fmod ns.length) (Int.fmod_nonneg_of_pos _ hp) (Int.fmod_lt_of_pos _ hp);refine⟨?_,hz,_,hv,tail _ _ rfl⟩
   cases ns with
   | nil=>exact absurd rfl hz
   | cons x xs=>rfl
theorem Fed.trans{b c n:Int}{m m1 m2:Mu}{a:Addr}(h:Fed b n m m1 a)(q:Fed c (n+b) m1 m2 a):Fed (b+c) n m m2 a:=by
 refine⟨by have:=q.1;rwa [Int.add_assoc]at this,fun x hx hs=>?_⟩
 have e:=h.2 x hx hs
 rw[q.2 x hx (by rw[e];exact hs),e]
theorem Fed.mono{b c n:Int}{m m1:Mu}{a:Addr}(h:Fed b n m m1 a)(hb:b<=c):Fed c n m m1 a:=by
 obtain⟨⟨ns,i,j,q1,q2,q3,q4,q5⟩,q⟩:=h;exact⟨⟨ns,i,j,q1,q2,q3,by omega,q5⟩,q⟩
theorem Fed.refl{n:Int}{m:Mu}{a:Addr}(h:Tp n m a):Fed 0 n m m a:=⟨by simpa using h,fun _ _ _=>rfl⟩
theorem gH{a:Addr}{n b L:Int}{m0 m:Mu}{R:DK}(h0:0<n)(hb:n<1000000)(hL:L<=9000000)(hbb:b<=100000)(hf:Fed b L m0 m a)(h:∀ (r:Int) m',0<=r->r<n->Fed (b+1) L m0 m' a->R (I r) m'):cU [.cel a,I n] m R:=by
 refine⟨a,n,L+b,rfl,h0,?_,by omega,hf.1,fun r m' q0 q1 q2=>h r m' q0 q1 (hf.trans q2)⟩
 refine Bd.mono (m:=20) ?_ #[1]
 unfold Bd;have e:(2:Nat)^20=1048576:=by decide
 omega
theorem Vt:∀ ds m R,ds.length=Jw.length->jE ds m R->sJ (EN R) (bN Kj ds) m:=by
 rintro ds m R hl ⟨t,b,rfl,h0,hb,h⟩;have g0:=Fe (t:=t) (b:=b) #[0]
 have gb:Bd 2000 ((t.gcd b:Nat):Int):=by
  have:=Int.gcd_le_natAbs_right t (b:=b) #[0]
  have hb':Bd 2000 b:=hb.mono #[1]
  unfold Bd at *;omega
 have gl:=gb.log #[1]
 simp[sJ];refine⟨_,_,⟨rfl,rfl⟩,?_⟩;simp[Dz];refine⟨fun n d m'=>m'=m/\∃ x y:Int,d=[some (I t),some (I b),some (I x),some (I y)]/\n=y.natAbs/\0<=y/\0<=x/\Int.gcd x y=Int.gcd t b,⟨_,rfl,(if t<0 then -t else t),b,rfl,rfl,by omega,by split<;>omega,?_⟩,?_⟩
 ·split
  ·rw[Int.neg_gcd]
  ·rfl
 rintro n d m' ⟨rfl,x,y,rfl,rfl,hy0,hx0,hg⟩
 by_cases hy:y=0
 ·subst hy;rw[Int.gcd_zero_right]at hg;have ex:x=((t.gcd b:Nat):Int):=by rw[<- hg];omega
  subst ex;simp[Io];refine⟨fun _=>by omega,aj #[4,gl] (show 2000<=9000 by decide),fun _=>by omega,aj #[4,gl] (show 2000<=9000 by decide),sz #[1],?_⟩
  rw[Int.fdiv_eq_ediv_of_nonneg _ #[0],Int.fdiv_eq_ediv_of_nonneg _ #[0]]
  exact h
 ·have hp:0<y:=by omega
  simp[hy,hp,Gv];refine⟨fun d' m''=>m''=m'/\d'=[some (I t),some (I b),some (I y),some (I (x.fmod y))],?_,by simp⟩
  rintro d' m'' ⟨rfl,rfl⟩;exact⟨_,Wi x y hy,rfl,y,x.fmod y,rfl,rfl,Int.fmod_nonneg_of_pos _ hp,hy0,by rw[F5];exact hg⟩
theorem w9:∀ ds m R,ds.length=Hv.length->iJ ds m R->vT (EN R) (bN Ph ds) m:=by
 rintro ds m R hl ⟨⟨a,b⟩,⟨c,d⟩,rfl,b1,b2,b3,b4,h⟩;simp[vT,Ha,Rg];refine⟨b1.mulOk b4 #[1],b3.mulOk b2 #[1],?_⟩
 simpa[iW] using h
theorem Wf(x y:Int×Int):iW x y=-1\/iW x y=0\/iW x y=1:=by
 unfold iW
 split<;>split<;>omega
theorem Ow(x y:PyData):cm x y=-1\/cm x y=0\/cm x y=1:=Wf _ _
theorem mC{x y:PyData}{m:Mu}{R:DK}(hx:Fr 20 x)(hy:Fr 20 y)(h:R (I (cm x y)) m):iJ [.dat x,.dat y] m R:=by
 obtain⟨u,rfl,_,q1,q2⟩:=hx;obtain⟨v,rfl,_,q3,q4⟩:=hy;exact⟨u,v,rfl,q1.mono #[1],q2.mono #[1],q3.mono #[1],q4.mono #[1],h⟩
theorem Bw{k:Bool}{p:PyData}(h:Tm k p):∃ x y,kB k p=.tuple [x,y]/\Fr 20 x/\Fr 20 y:=by
 rcases h with⟨rfl,hf⟩ | ⟨rfl,x,y,rfl,hx,hy⟩
 ·exact⟨p,p,rfl,hf,hf⟩
 ·exact⟨x,y,rfl,hx,hy⟩
theorem k5:∀ ds m R,ds.length=Ng.length->lT ds m R->qQ (EN R) (bN Fl ds) m:=by
 rintro ds m R hl ⟨k,p,rfl,ht,h⟩;rcases ht with⟨rfl,hf⟩ | ⟨rfl,x,y,rfl,hx,hy⟩
 ·simp (decide:=true) [qQ,kd,sz];exact h
 ·simp (decide:=true) [qQ,kd];exact h
theorem vI{k:Bool}{p:PyData}{m:Mu}{R:DK}(ht:Tm k p)(h:∀ x y,kB k p=.tuple [x,y]->Fr 20 x->Fr 20 y->R (.dat (.tuple [x,y])) m):lT [.dat (.str (kd k)),.dat p] m R:=by
 obtain⟨x,y,e,hx,hy⟩:=Bw ht;exact⟨k,p,rfl,ht,by rw[e];exact h x y e hx hy⟩
theorem EC(i j:Int)(hi:i=-1\/i=0\/i=1)(hj:j=-1\/j=0\/j=1):∃ xs,bT [PyData.list [.str "overlaps",.str "ended",.str "holds"],.list [.str "begins",.str "same",.str "begun"],.list [.str "within",.str "ends",.str "lapped"]] (i+1)=some (.list xs)/\bT xs (j+1)=some (.str (nC i j)):=by
 rcases hi with rfl | rfl | rfl<;>refine⟨_,rfl,?_⟩<;>rcases hj with rfl | rfl | rfl<;>rfl
theorem GK(i j:Int):nC i j∈bK:=by
 unfold nC
 repeat' split
 all_goals decide +kernel
theorem F4(k l:Bool)(p q:PyData):lR k l p q∈bK:=by
 unfold lR;simp only
 repeat' split
 all_goals first | exact GK _ _ | decide +kernel
theorem mH(k:Bool):(kd k=Str.ofString "stretch")↔k=true:=by cases k<;>decide
theorem GH:∀ ds m R,ds.length=Nh.length->nG ds m R->uQ (EN R) (bN Re ds) m:=by
 rintro ds m R hl ⟨k,l,p,q,rfl,hp,hq,h⟩;simp[uQ];refine vI hp fun x0 x1 ex hx0 hx1=>?_;refine vI hq fun y0 y1 ey hy0 hy1=>?_;refine⟨_,_,⟨rfl,rfl⟩,?_⟩;unfold lR at h;simp only[ex,ey,p0,p1]at h;simp[Bi];refine mC hx1 hy0 ?_
 by_cases c:cm x1 y0<0
 ·simp[c];rw[if_pos c]at h;exact h
 rw[if_neg c]at h;simp[c,Eb];refine mC hy1 hx0 ?_
 by_cases c2:cm y1 x0<0
 ·simp[c2];rw[if_pos c2]at h;exact h
 rw[if_neg c2]at h;simp[c2,Dp];have last:R (.dat (.str (nC (cm x0 y0) (cm x1 y1)))) m->wM (EN R) [some (.dat (.tuple [.str (kd k),p])),some (.dat (.tuple [.str (kd l),q])),some (.dat (.tuple [x0,x1])),some (.dat (.tuple [y0,y1])),none] m:=fun h=>by
  simp[wM,Qk,sz];refine mC hx0 hy0 ?_;obtain⟨xs,e1,e2⟩:=EC _ _ (Ow x0 y0) (Ow x1 y1);refine⟨_,e1,?_⟩;refine mC hx1 hy1 ?_;exact⟨_,e2,h⟩
 by_cases e1:kd k=Str.ofString "stretch"
 ·right
  refine⟨e1,?_⟩;rw[mH]at e1
  by_cases e2:kd l=Str.ofString "stretch"
  ·right
   refine⟨e2,?_⟩;rw[mH]at e2;simp[Ls];refine mC hx1 hy0 ?_;simp[PyData.eqv,PyData.canLay0,PyData.depth]
   by_cases c3:cm x1 y0=0
   ·rw[if_pos ⟨e1,e2,c3⟩]at h;exact .inr ⟨c3,h⟩
   ·left
    refine⟨c3,?_⟩;rw[if_neg (fun z=>c3 z.2.2)]at h;simp[Ce];refine mC hy1 hx0 ?_;simp[PyData.eqv,PyData.canLay0,PyData.depth]
    by_cases c4:cm y1 x0=0
    ·rw[if_pos ⟨e1,e2,c4⟩]at h;exact .inr ⟨c4,h⟩
    ·rw[if_neg (fun z=>c4 z.2.2)]at h;exact .inl ⟨c4,last h⟩
  ·rw[mH]at e2;rw[if_neg (fun z=>e2 z.2.1),if_neg (fun z=>e2 z.2.1)]at h;exact .inl ⟨by rw[mH];exact e2,last h⟩
 ·rw[mH]at e1;rw[if_neg (fun z=>e1 z.1),if_neg (fun z=>e1 z.1)]at h;exact .inl ⟨by rw[mH];exact e1,last h⟩
theorem tD{k:aL}{p:PyData}{kvs:List (aL×PyData)}(h:k∉kvs.map (·.1)):cD kvs k p=kvs++[(k,p)]:=by
 unfold cD;rw[if_neg];intro q;rw[List.any_eq_true]at q;obtain⟨x,hx,e⟩:=q;exact h (List.mem_map.mpr ⟨x,hx,by simpa using e⟩)
theorem zV{m:Mu}{c:Addr}{E:Ends2}{th te:D}:∀ (ts:List (Str×Bool)) (ps:List PyData) (kvs:List (aL×PyData)) (o3 o4 o5:Option D),ps.length=ts.length->kvs.length+ts.length<=100 ->
  (ts.map (·.1)).Nodup->(∀ t∈ts,(Sum.inr t.1:aL)∉kvs.map (·.1)) ->
  (∀ o3 o4 o5,E.nx [some th,some te,some (.cel c),o3,o4,o5] (aW m c (.d (kvs++fI ts ps)))) ->
  bW (gT 2 (bC (gT 2 (bC (gN 3) (bC (gN 4) cG))) (bC (gN 5) cG))) xD E (((ts.map fun t=>PyData.tuple [.str t.1,.str (kd t.2)]).zip ps).map fun z=>.dat (.tuple [z.1,z.2])) [some th,some te,some (.cel c),o3,o4,o5] (aW m c (.d kvs))
 | [],ps,kvs,o3,o4,o5,_,_,_,_,h=>by simpa[fI,bW] using h o3 o4 o5
 | t::ts,[],kvs,o3,o4,o5,hl,_,_,_,_=>by simp at hl
 | t::ts,p::ps,kvs,o3,o4,o5,hl,hn,nd,hk,h=>by
  simp only[au,List.nodup_cons]at nd;have ih:=zV (m:=m) (c:=c) (E:=E) (th:=th) (te:=te) ts ps (kvs++[(.inr t.1,.tuple [.str (kd t.2),p])]) (some (.dat (.str t.1))) (some (.dat (.str (kd t.2)))) (some (.dat p)) #[4,hl] (by simp at hn ⊢;omega) nd.2
   (fun u hu q=>by
    simp only[List.map_append,List.mem_append,au,List.map_nil,List.mem_singleton]at q;rcases q with q | q
    ·exact hk u (aq _ hu) q
    ·exact nd.1 (List.mem_map.mpr ⟨u,hu,Sum.inr.inj q⟩))
   (fun q3 q4 q5=>by
    have:=h q3 q4 q5
    simpa[fI] using this)
  have e:=tD (p:=.tuple [.str (kd t.2),p]) (hk t List.mem_cons_self)
  simp only[au,List.zip_cons_cons,bW];simp[xD,bM,gG,sz];simp at hn;refine⟨aj #[0] (sz (n:=100) #[1]),?_⟩
  rw[e];exact ih
theorem V6:∀ ds m R,ds.length=Gx.length->oW ds m R->wI (EN R) (bN Ar ds) m:=by
 rintro ds m R hl ⟨ts,ps,rfl,hn,hpl,nd,h⟩;simp[wI];intro c hc;simp[Ca];refine zV ts ps [] _ _ _ hpl (by simp;omega) nd #[2] fun o3 o4 o5=>?_
 simp[Ki];exact h c hc
theorem Jo(k:Bool):decide (kd k=Str.ofString "stretch")=k:=by cases k<;>decide
theorem Pd(k:Bool):decide (kd k=Str.ofString "point")=!k:=by cases k<;>decide
theorem EI{a b:Option D}{O:List PyData}{m:Mu}{Q:DK}{j:Int}:dG (aA 2) fH (cY (aE (.int j))) [a,b,some (.dat (.list O))] m Q=Q (.dat (.list (cP O none (some j)))) m:=by simp
theorem GI{a b:Option D}{O:List PyData}{m:Mu}{Q:DK}{j:Int}:dG (aA 2) (cY (aE (.int j))) fH [a,b,some (.dat (.list O))] m Q=Q (.dat (.list (cP O (some j) none))) m:=by simp
theorem CU{a b:Option D}{O:List PyData}{m:Mu}{Q:DK}{i j:Int}:dG (aA 2) (cY (aE (.int i))) (cY (aE (.int j))) [a,b,some (.dat (.list O))] m Q=Q (.dat (.list (cP O (some i) (some j)))) m:=by simp
theorem Ur{k l:Bool}{m:Mu}{R:DK}{O A B C E:List PyData}(h:∀ zs:List Str,zs.Sublist bK->R (.dat (.list (zs.map .str))) m)(hO:O=bK.map PyData.str)(hA:A=cP O none (some 1))(hB:B=cP O (some 3) (some 6))(hC:C=cP O (some 7) (some 10))(hE:E=cP O (some 12) none)(zA:A.length<=13)(zB:B.length<=13)(zC:C.length<=13)(zE:E.length<=13) :
  wX (EN R) [some (.dat (.str (kd k))),some (.dat (.str (kd l))),some (.dat (.list O))] m:=by
 have sA:(A++B).length<=sizeLine:=sz (by rw[List.length_append];omega)
 have sB:(A++C).length<=sizeLine:=sz (by rw[List.length_append];omega)
 have sC:(A++B++E).length<=sizeLine:=sz (by rw[List.length_append,List.length_append];omega)
 have sE:(A++C++E).length<=sizeLine:=sz (by rw[List.length_append,List.length_append];omega)
 have r1:=h bK (List.Sublist.refl _)
 have r2:=h ["ahead","same","behind"] #[3]
 have r3:R (.dat (.list (A++B++E))) m:=by
  subst hA hB hE hO;exact h ["ahead","begins","within","ends","behind"] #[3]
 have r4:R (.dat (.list (A++C++E))) m:=by
  subst hA hC hE hO;exact h ["ahead","ended","holds","begun","behind"] #[3]
 clear h;rw[<- hO]at r1;clear hO;simp only[List.length_append]at sA sB sC sE;have ks:=Jo
 have kp:=Pd
 cases k<;>cases l<;>simp[-dG,EI,GI,CU,wX,Ax,Cd,Jo,Pd,sz,<- hA,<- hB,<- hC,<- hE,sA,sB,sC,sE]
 ·exact r2
 ·simpa using r3
 ·simpa using r4
 ·exact r1
theorem A1:∀ ds m R,ds.length=Bv.length->mT ds m R->wL (EN R) (bN yR ds) m:=by
 rintro ds m R hl ⟨k,l,rfl,h⟩;have t:=Ur (k:=k) (l:=l) h rfl rfl rfl rfl rfl #[1] #[1] #[1] #[1]
 simp[wL,sz];simp[zT,sz];exact t
theorem L1{k:aL}{p:PyData}{kvs:List (aL×PyData)}(h:cM kvs k=some p):∃ kv∈kvs,kv.2=p:=by
 unfold cM at h
 cases e:kvs.find? (fun kv=>decide (kv.1=k)) with
 | none=>rw[e]at h;cases h
 | some kv =>
  rw[e]at h
  cases h
  exact⟨kv,List.mem_of_find?_eq_some e,rfl⟩
theorem Kn.get{ts:List (Str×Bool)}{kvs:List (aL×PyData)}{t:Str×Bool}(h:Kn ts kvs)(ht:t∈ts):∃ k w,cM kvs (.inr t.1)=some (.tuple [.str (kd k),w])/\Tm k w:=by
 obtain⟨p,hp⟩:=h.2 t ht;obtain⟨kv,hm,rfl⟩:=L1 hp;obtain⟨k,w,e,hT⟩:=h.1 kv hm;exact⟨k,w,by rw[hp,e],hT⟩
theorem pY{k:Bool}{w:PyData}{e:Int}(h:Tm k w)(he:e=0\/e=1):∃ x y,kB k w=.tuple [x,y]/\bT [x,y] e=some (lV (k,w) e)/\Fr 20 (lV (k,w) e):=by
 obtain⟨x,y,e1,hx,hy⟩:=Bw h;refine⟨x,y,e1,?_,?_⟩<;>rcases he with rfl | rfl<;>simp[lV,e1,p0,p1]<;>first | rfl | exact hx | exact hy
theorem K1:∀ ds m R,ds.length=Bf.length->kC ds m R->rM (EN R) (bN Bj ds) m:=by
 rintro ds m R hl ⟨c,kvs,z,k,w,e,rfl,hm,hv,ht,he,h⟩;obtain⟨x,y,e1,e2,_⟩:=pY ht he;simp[rM,hm];refine⟨_,hv,?_⟩;simp[Qy];refine vI ht fun x' y' e3 _ _=>?_;rw[e1]at e3
 cases e3
 exact⟨_,e2,h⟩
theorem Kv{E:Ends2}{m:Mu}{th:D}:∀ (ts:List (Str×Bool)) (es:List (Str×Int)) (o2 o3:Option D),es.length+2*ts.length<=100 ->
  (∀ (es':List (Str×Int)) (o2 o3:Option D),es'.length=es.length+iM ts->(∀ e∈es',e∈es\/e∈iG ts)->E.nx [some th,some (.dat (.list (es'.map dF))),o2,o3] m) ->
  bW (gT 2 (bC (gN 2) (bC (gN 3) cG))) nA E (ts.map fun t=>.dat (.tuple [.str t.1,.str (kd t.2)])) [some th,some (.dat (.list (es.map dF))),o2,o3] m
 | [],es,o2,o3,_,h=>h es o2 o3 (by simp[iM]) fun e he=>.inl he
 | t::ts,es,o2,o3,hn,h=>by
  have fin:∀ more:List (Str×Int),more.length=(if t.2 then 2 else 1)->(∀ e∈more,e∈lO t)->∀ q2 q3,bW (gT 2 (bC (gN 2) (bC (gN 3) cG))) nA E (ts.map fun t=>.dat (.tuple [.str t.1,.str (kd t.2)])) [some th,some (.dat (.list ((es++more).map dF))),q2,q3] m:=fun more h1 h3 q2 q3=>by
   simp at hn;have h2:more.length<=2:=by rw[h1];split<;>omega
   refine Kv ts (es++more) q2 q3 (by simp;omega) fun es' r2 r3 a1 a3=>h es' r2 r3 (by simp[iM]at a1 ⊢;omega) fun e he=>?_
   rcases a3 e he with a | a
   ·rcases List.mem_append.mp a with a | a
    ·exact .inl a
    ·exact .inr (List.mem_flatMap.mpr ⟨t,List.mem_cons_self,h3 e a⟩)
   ·obtain⟨t',ht',et⟩:=List.mem_flatMap.mp a;exact .inr (List.mem_flatMap.mpr ⟨t',aq _ ht',et⟩)
  simp only[au,bW];simp at hn
  cases hk:t.2 with
  | false =>
   have e:cP [dF (t.1,0),dF (t.1,1)] none (some 1)=[dF (t.1,0)]:=rfl
   simp (decide:=true) [nA,kd,hk,sz];rw[e];have:=fin [(t.1,0)] (by simp[hk]) (by simp[lO,hk]) (some (.dat (.str t.1))) (some (.dat (.str "point")))
   simp at this ⊢;exact⟨sz #[0],this⟩
  | true =>
   have e:cP [dF (t.1,0),dF (t.1,1)] none (some 2)=[dF (t.1,0),dF (t.1,1)]:=rfl
   simp (decide:=true) [nA,kd,hk,sz];have:=fin [(t.1,0),(t.1,1)] (by simp[hk]) (by simp[lO,hk]) (some (.dat (.str t.1))) (some (.dat (.str "stretch")))
   rw[e];simp at this ⊢;exact⟨sz #[0],this⟩
theorem Vk:∀ ds m R,ds.length=Gs.length->qI ds m R->uC (EN R) (bN Mx ds) m:=by
 rintro ds m R hl ⟨ts,rfl,hn,h⟩;simp[uC,Ee];have:=Kv (m:=m) (th:=.dat (TH ts)) (E:={nx:=tG (EN R),rt:=R}) ts [] none none (by simp;omega) fun es o2 o3 h1 h3=>by
  simp[tG];refine h es #[4,h1] fun e he=>?_
  rcases h3 e he with a | a
  ·cases a
  ·exact a
 simpa[Function.comp_def] using this
theorem kY:0<=sizeLine:=sz #[1]
theorem kO:1<=sizeLine:=sz #[1]
theorem kM:2<=sizeLine:=sz #[1]
theorem lF:3<=sizeLine:=sz #[1]
theorem kS:4<=sizeLine:=sz #[1]
theorem kG:5<=sizeLine:=sz #[1]
theorem lD:6<=sizeLine:=sz #[1]
theorem Fed.tp{b n:Int}{m0 m:Mu}{a:Addr}(h:Fed b n m0 m a):(m a).isSome=true:=by
 obtain⟨⟨ns,i,j,q,_⟩,_⟩:=h;rw[q];rfl
theorem Fed.new{b n:Int}{m0 m:Mu}{a c:Addr}(h:Fed b n m0 m a)(hc:m c=none):c≠a/\m0 c=none:=by
 have ne:c≠a:=by
  rintro rfl;have:=h.tp
  rw[hc]at this
  cases this
 refine⟨ne,?_⟩
 cases e:m0 c with
 | none=>rfl
 | some x =>
  have:=h.2 c ne (by rw[e];rfl)
  rw[hc,e]at this
  cases this
theorem Fed.upd{b n:Int}{m0 m:Mu}{a c:Addr}{x:Cel}(h:Fed b n m0 m a)(hca:c≠a)(hc:m0 c=none):Fed b n m0 (aW m c x) a:=by
 obtain⟨⟨ns,i,j,q1,q⟩,h2⟩:=h;refine⟨⟨ns,i,j,by rw[cE (Ne.symm hca)];exact q1,q⟩,fun y hy hs=>?_⟩
 have ne:y≠c:=by rintro rfl;rw[hc]at hs;cases hs
 rw[cE ne];exact h2 y hy hs
theorem iO{a:Addr}{n b L:Int}{m0 m:Mu}{R:DK}(h0:0<n)(hb:n<1000000)(hL:L<=9000000)(hbb:b<=100000)(hf:Fed b L m0 m a)(h:∀ (r:Int) m',0<=r->r<n->Fed (b+1) L m0 m' a->(∀ c x,c≠a->m c=some x->m' c=some x)->R (I r) m'):cU [.cel a,I n] m R:=by
 refine⟨a,n,L+b,rfl,h0,?_,by omega,hf.1,fun r m' q0 q1 q2=>h r m' q0 q1 (hf.trans q2) fun c x hc hx=>by rw[q2.2 c hc (by rw[hx];rfl)];exact hx⟩
 refine Bd.mono (m:=20) ?_ #[1]
 unfold Bd;have e:(2:Nat)^20=1048576:=by decide
 omega
abbrev qH(t:Str×Bool):PyData:=.tuple [.str t.1,.str (kd t.2)]
theorem mF:∀ z∈eQ,(PyData.str z).showable=true/\(PyData.str z).shown.length<=20:=by decide +kernel
theorem Wm{i:Int}(h0:0<=i)(h1:i<5):∃ b,bT [PyData.str "stretch",.str "point",.str "stretch",.str "point",.str "stretch"] i=some (.str (kd b)):=by
 obtain rfl | rfl | rfl | rfl | rfl:i=0\/i=1\/i=2\/i=3\/i=4:=by omega
 ·exact⟨true,rfl⟩
 ·exact⟨false,rfl⟩
 ·exact⟨true,rfl⟩
 ·exact⟨false,rfl⟩
 ·exact⟨true,rfl⟩
theorem Qd{a c2:Addr}{L:Int}{m0:Mu}{E:Ends2}{d1 d2 d3:D}{jP first:Int}(hL:L<=9000000)(hca:c2≠a)(h0:m0 c2=none):∀ (zs:List Str) (ts:List (Str×Bool)) (l b:Int) (m:Mu) (o8 o9:Option D),(∀ z∈zs,z∈eQ)->(∀ t∈ts,t.1∈eQ) ->
  ((ts.length+zs.length:Nat):Int)=jP->jP<=6->12-2*(ts.length:Int)<=l->l<=12->b+(zs.length:Int)<=100->Fed b L m0 m a->m c2=some (.l (ts.map qH)) ->
  (∀ (ts':List (Str×Bool)) (m':Mu) (o7 o8 o9:Option D),(∀ t∈ts',t.1∈eQ)->ts'.map (·.1)=ts.map (·.1)++zs->Fed (b+zs.length) L m0 m' a->m' c2=some (.l (ts'.map qH))->E.nx [some (.cel a),some d1,some d2,some d3,some (I jP),some (I first),some (.cel c2),o7,o8,o9] m') ->
  bW (gN 8) sI E (zs.map fun z=>.dat (.str z)) [some (.cel a),some d1,some d2,some d3,some (I jP),some (I first),some (.cel c2),some (I l),o8,o9] m
 | [],ts,l,b,m,o8,o9,_,hts,_,_,_,_,_,hf,hm,h=>h ts m _ o8 o9 hts #[2] #[4,hf] hm
 | z::zs,ts,l,b,m,o8,o9,hz,hts,hmany,h6,l1,l2,hb,hf,hm,h=>by
  simp at hmany hb;obtain⟨K,hK⟩:∃ K,K=bW (gN 8) sI E (zs.map fun z=>.dat (.str z)):=⟨_,rfl⟩;have lp:0<l:=by omega
  have step:∀ (k:Bool) (m1:Mu),Fed (b+1) L m0 m1 a->m1 c2=some (.l (ts.map qH))->uS {E with nx:=K,ct:=K,bk:=E.nx} [some (.cel a),some d1,some d2,some d3,some (I jP),some (I first),some (.cel c2),some (I l),some (.dat (.str z)),some (.dat (.str (kd k)))] m1:=fun k m1 hf1 hm1=>by
   simp[uS,lp,hm1,sz];refine⟨aj #[0] (sz (n:=100) #[1]),?_⟩
   repeat first | refine⟨rfl,?_⟩ | refine⟨_,rfl,?_⟩ | refine⟨kY,?_⟩ | refine⟨kO,?_⟩ | refine⟨kM,?_⟩ | refine⟨lF,?_⟩ | refine⟨kS,?_⟩ | refine⟨kG,?_⟩ | refine⟨lD,?_⟩
   have ih:=Qd (E:=E) (d1:=d1) (d2:=d2) (d3:=d3) (first:=first) hL hca h0 zs (ts++[(z,k)]) (l-1-(if kd k=Str.ofString "stretch" then 1 else 0)) (b+1) (aW m1 c2 (.l ((ts++[(z,k)]).map qH))) (some (.dat (.str z))) (some (.dat (.str (kd k)))) (fun y hy=>hz y (aq _ hy))
    (fun t ht=>by
     rcases List.mem_append.mp ht with ht | ht
     ·exact hts t ht
     ·have:t=(z,k):=by simpa using ht
      rw[this];exact hz z List.mem_cons_self)
    (by simp;omega) h6 (by simp;split<;>omega) (by split<;>omega) #[0] (hf1.upd hca h0) bM
    (fun ts' m' q7 q8 q9 a1 a2 a3 a4=>h ts' m' q7 q8 q9 a1 #[4,a2] (by
     have e:b+1+(zs.length:Int)=b+((z::zs).length:Int):=by simp;omega
     rw[e]at a3;exact a3) a4)
   rw[hK];simpa using ih
  simp only[au,bW];rw[<- hK]
  repeat first | refine⟨rfl,?_⟩ | refine⟨_,rfl,?_⟩ | refine⟨kY,?_⟩ | refine⟨kO,?_⟩ | refine⟨kM,?_⟩ | refine⟨lF,?_⟩ | refine⟨kS,?_⟩ | refine⟨kG,?_⟩ | refine⟨lD,?_⟩
  refine iO #[1] #[1] hL #[0] hf fun r m1 r0 r1 hf1 hk1=>?_
  obtain⟨k,e⟩:=Wm r0 r1;have hm1:=hk1 c2 _ hca hm
  refine⟨_,e,?_⟩;have sp:=step false m1 hf1 hm1
  have sk:=step k m1 hf1 hm1
  simp[Kb,hm1,PyData.canLay0,PyData.depth]
  by_cases c1:l<2
  ·exact .inr ⟨c1,sp⟩
  ·refine .inl ⟨by omega,?_⟩
   cases (PyData.int l).eqv (PyData.int 2) with
   | false=>exact .inl ⟨rfl,sk⟩
   | true =>
    refine .inr ⟨rfl,?_⟩
    by_cases c3:jP-1<=(ts.length:Int)
    ·exact .inl ⟨c3,sk⟩
    ·exact .inr ⟨by omega,sp⟩
theorem Ve{i:Int}(h0:0<=i)(h1:i<6):∃ n:Nat,bT [PyData.int 2,.int 3,.int 6,.int 5,.int 1,.int 4] i=some (.int n)/\1<=n/\n<=6:=by
 obtain rfl | rfl | rfl | rfl | rfl | rfl:i=0\/i=1\/i=2\/i=3\/i=4\/i=5:=by omega
 ·exact⟨2,rfl,by decide,by decide⟩
 ·exact⟨3,rfl,by decide,by decide⟩
 ·exact⟨6,rfl,by decide,by decide⟩
 ·exact⟨5,rfl,by decide,by decide⟩
 ·exact⟨1,rfl,by decide,by decide⟩
 ·exact⟨4,rfl,by decide,by decide⟩
def MN:List (List Str):=[["a","ab","b","point","zz","zzzzzzzz"],["begin","end","gap","may","o","strict"],["m","n","nm","s","st","stretch"],["ahead","any","behind","ends","meets","met"],["any","ends","long","same","told","within"]]
theorem Wb:∀ zs∈MN,zs.length=6/\∀ z∈zs,z∈eQ:=by decide +kernel
theorem Tc:∀ zs∈MN,lA zs:=by unfold lA lI;decide +kernel
theorem Ry{i:Int}(h0:0<=i)(h1:i<5):∃ zs∈MN,bT (MN.map fun zs=>PyData.list (zs.map .str)) i=some (.list (zs.map .str)):=by
 obtain⟨k,rfl⟩:∃ k:Nat,i=k:=⟨i.toNat,by omega⟩
 have hk:k<MN.length:=by show k<5;omega
 exact⟨MN[k],List.getElem_mem hk,iD (by rw[List.getElem?_map,List.getElem?_eq_getElem hk];rfl)⟩
theorem y9{α β:Type}(g:α->β)(xs:List α)(lo hi:Option Int):cP (xs.map g) lo hi=(cP xs lo hi).map g:=by
 simp[cP,List.map_drop,List.map_take]
theorem Vq{α:Type}{xs:List α}{lo hi:Option Int}{x:α}(h:x∈cP xs lo hi):x∈xs :=
 List.mem_of_mem_drop (List.mem_of_mem_take h)
theorem Tg{α:Type}{xs:List α}{f k:Nat}(h:f+k<=xs.length):(cP xs (some (f:Int)) (some ((f:Int)+(k:Int)))).length=k:=by
 have e:(f:Int)+(k:Int)=((f+k:Nat):Int):=by omega
 rw[e];unfold cP;rw[HT.sIx_nat,HT.sIx_nat,List.length_take,List.length_drop];omega
theorem V1:∀ ds m R,ds.length=Pt.length->xH ds m R->Ad (EN R) (bN Kt ds) m:=by
 rintro ds m R hl ⟨a,n,L,rfl,n0,n1,hL,hT,h⟩;have en:n=12:=by omega
 subst en;have hf:=Fed.refl hT
 repeat first | refine⟨rfl,?_⟩ | refine⟨_,rfl,?_⟩ | refine⟨kY,?_⟩ | refine⟨kO,?_⟩ | refine⟨kM,?_⟩ | refine⟨lF,?_⟩ | refine⟨kS,?_⟩ | refine⟨kG,?_⟩ | refine⟨lD,?_⟩
 intro c1 hc1;obtain⟨ne1,hm1⟩:=hf.new hc1;simp[Ky,bM,gG,sz];refine⟨aj (by decide:2<100) (sz (n:=100) #[1]),?_⟩
 simp[Nf,bM,gG,sz];refine⟨aj (by decide:3<100) (sz (n:=100) #[1]),?_⟩
 simp[Hg,bM,gG,sz];refine⟨aj (by decide:4<100) (sz (n:=100) #[1]),?_⟩
 repeat first | refine⟨rfl,?_⟩ | refine⟨_,rfl,?_⟩ | refine⟨kY,?_⟩ | refine⟨kO,?_⟩ | refine⟨kM,?_⟩ | refine⟨lF,?_⟩ | refine⟨kS,?_⟩ | refine⟨kG,?_⟩ | refine⟨lD,?_⟩
 refine iO #[1] #[1] hL #[1] (hf.upd ne1 hm1) fun r m1 r0 r1 hf1 hk1=>?_
 have q1:=hk1 c1 _ ne1 bM
 obtain⟨zs,hzs,ezs⟩:=Ry r0 r1;obtain⟨zl,hz⟩:=Wb zs hzs;simp[q1];refine⟨_,ezs,?_⟩
 repeat first | refine⟨rfl,?_⟩ | refine⟨_,rfl,?_⟩ | refine⟨kY,?_⟩ | refine⟨kO,?_⟩ | refine⟨kM,?_⟩ | refine⟨lF,?_⟩ | refine⟨kS,?_⟩ | refine⟨kG,?_⟩ | refine⟨lD,?_⟩
 refine gH #[1] #[1] hL #[1] hf1 fun r m2 r0 r1 hf2=>?_
 obtain⟨k,ek,k0,k1⟩:=Ve r0 r1;refine⟨_,ek,?_⟩
 repeat first | refine⟨rfl,?_⟩ | refine⟨_,rfl,?_⟩ | refine⟨kY,?_⟩ | refine⟨kO,?_⟩ | refine⟨kM,?_⟩ | refine⟨lF,?_⟩ | refine⟨kS,?_⟩ | refine⟨kG,?_⟩ | refine⟨lD,?_⟩
 refine gH #[0] #[0] hL #[1] hf2 fun f m3 f0 f1 hf3=>?_
 repeat first | refine⟨rfl,?_⟩ | refine⟨_,rfl,?_⟩ | refine⟨kY,?_⟩ | refine⟨kO,?_⟩ | refine⟨kM,?_⟩ | refine⟨lF,?_⟩ | refine⟨kS,?_⟩ | refine⟨kG,?_⟩ | refine⟨lD,?_⟩
 intro c2 hc2;obtain⟨ne2,hm2⟩:=hf3.new hc2;simp[Gy,Ro];obtain⟨g,rfl⟩:∃ g:Nat,f=g:=⟨f.toNat,by omega⟩
 have hlen:=Tg (xs:=zs) (f:=g) (k:=k) #[0]
 have:=Qd (E:={nx:=xA (EN R),rt:=R}) (m0:=m) (d1:=I 12) (d2:=.cel c1) (d3:=.dat (.list (zs.map .str))) (jP:=k) (first:=g) hL ne2 hm2 (cP zs (some (g:Int)) (some ((g:Int)+(k:Int)))) [] 12 (0+1+1+1) (aW m3 c2 (.l [])) none none
  (fun z hz'=>hz z (Vq hz')) #[2] (by simp[hlen]) #[0] #[2] #[1] (by rw[hlen];omega) (hf3.upd ne2 hm2) bM
  (fun ts m' o7 o8 o9 h1 h2 h3 h4=>by
   rw[hlen]at h3;simp only[List.map_nil,List.nil_append]at h2;have hl2:ts.length=k:=by
    have:=congrArg List.length h2
    rw[hlen]at this;simpa using this
   simp[xA,h4];refine h ts m' ⟨by omega,by omega,h1,?_⟩ (h3.mono #[0])
   rw[h2];exact(Tc zs hzs).sublist ((List.take_sublist _ _).trans (List.drop_sublist _ _)))
 rw[y9,List.map_map];exact this
theorem P0{n:Nat}{t b:Int}(h0:0<b)(ht:Bd n t)(hb:Bd n b):Fr n (fr t b) :=
 ⟨(_,_),rfl,(J7 (Fe #[0]) (Int.gcd_dvd_right t b)).mpr h0,ht.div _,hb.div _⟩
theorem oH{n:Nat}{t b:Int}{m:Mu}{R:DK}(hn:n<=200)(h0:0<b)(ht:Bd n t)(hb:Bd n b)(h:∀ x,Fr n x->R (.dat x) m):jE [I t,I b] m R :=
 ⟨t,b,rfl,h0,hb.mono hn,h _ (P0 h0 ht hb)⟩
theorem dX{i:Int}(h0:-1000<=i)(h1:i<=1000):Bd 20 i:=by
 unfold Bd;have e:(2:Nat)^20=1048576:=by decide
 omega
theorem EX{i:Int}(h0:0<=i)(h1:i<5):∃ n:Int,bT [PyData.int 1,.int 1,.int 2,.int 1,.int 3] i=some (.int n)/\1<=n/\n<=3:=by
 obtain rfl | rfl | rfl | rfl | rfl:i=0\/i=1\/i=2\/i=3\/i=4:=by omega
 ·exact⟨1,rfl,by decide,by decide⟩
 ·exact⟨1,rfl,by decide,by decide⟩
 ·exact⟨2,rfl,by decide,by decide⟩
 ·exact⟨1,rfl,by decide,by decide⟩
 ·exact⟨3,rfl,by decide,by decide⟩
theorem TmAll.app:∀ {ts us:List (Str×Bool)} {ps qs:List PyData},TmAll ts ps->TmAll us qs->TmAll (ts++us) (ps++qs)
 | [],us,[],qs,_,h=>h
 | t::ts,us,p::ps,qs,h1,h=>⟨h1.1,TmAll.app h1.2 h⟩
 | [],_,_::_,_,h1,_=>h1.elim
 | _::_,_,[],_,h1,_=>h1.elim
theorem TmAll.out:∀ {ts:List (Str×Bool)} {ps:List PyData},TmAll ts ps->ps.length=ts.length/\∀ (i:Nat) (t:Str×Bool) (p:PyData),ts[i]?=some t->ps[i]?=some p->Tm t.2 p
 | [],[],_=>⟨rfl,fun i t p h1 h2=>by simp at h1⟩
 | t::ts,p::ps,h=>by
  obtain⟨h1,h2⟩:=TmAll.out h.2;refine⟨by simp[h1],fun i t' p' e1 e2=>?_⟩
  cases i with
  | zero =>
   simp at e1 e2;subst e1;subst e2;exact h.1
  | succ i=>exact h2 i t' p' #[4,e1] #[4,e2]
 | [],_::_,h=>h.elim
 | _::_,[],h=>h.elim
theorem Cq{a c:Addr}{L:Int}{m0:Mu}{E:Ends2}{d1:D}(hL:L<=9000000)(hca:c≠a)(h0:m0 c=none):∀ (ts us:List (Str×Bool)) (ps:List PyData) (b:Int) (m:Mu) (o3 o4 o5 o6:Option D),
  TmAll us ps->us.length+ts.length<=6->0<=b->b+3*(ts.length:Int)<=100->Fed b L m0 m a->m c=some (.l ps) ->
  (∀ (ps':List PyData) (m':Mu) (o3 o4 o5 o6:Option D),TmAll (us++ts) ps'->Fed (b+3*(ts.length:Int)) L m0 m' a->m' c=some (.l ps')->E.nx [some (.cel a),some d1,some (.cel c),o3,o4,o5,o6] m') ->
  bW (gT 2 (bC (gN 3) (bC (gN 4) cG))) pL E (ts.map fun t=>.dat (.tuple [.str t.1,.str (kd t.2)])) [some (.cel a),some d1,some (.cel c),o3,o4,o5,o6] m
 | [],us,ps,b,m,o3,o4,o5,o6,hT,_,_,_,hf,hm,h=>h ps m o3 o4 o5 o6 #[4,hT] #[4,hf] hm
 | t::ts,us,ps,b,m,o3,o4,o5,o6,hT,hn,hb0,hb,hf,hm,h=>by
  simp at hn hb;obtain⟨K,hK⟩:∃ K,K=bW (gT 2 (bC (gN 3) (bC (gN 4) cG))) pL E (ts.map fun t=>.dat (.tuple [.str t.1,.str (kd t.2)])):=⟨_,rfl⟩;have hpl:=hT.out.1
  have step:∀ (w:PyData) (m1:Mu) (q3 q4 q5 q6:Option D),Tm t.2 w->Fed (b+3) L m0 m1 a->m1 c=some (.l ps)->K [some (.cel a),some d1,some (.cel c),q3,q4,q5,q6] (aW m1 c (.l (ps++[w]))):=fun w m1 q3 q4 q5 q6 hw hf1 hm1=>by
   have ih:=Cq (E:=E) (d1:=d1) hL hca h0 ts (us++[t]) (ps++[w]) (b+3) (aW m1 c (.l (ps++[w]))) q3 q4 q5 q6 (hT.app ⟨hw,trivial⟩) (by simp;omega) #[0] #[0] (hf1.upd hca h0) bM
    (fun ps' m' r3 r4 r5 r6 a1 a2 a3=>h ps' m' r3 r4 r5 r6 #[4,a1] (by
     have e:b+3+3*(ts.length:Int)=b+3*((t::ts).length:Int):=by simp;omega
     rw[e]at a2;exact a2) a3)
   rw[hK];exact ih
  have hpz:ps.length<sizeLine:=aj #[0] (sz (n:=100) #[1])
  simp only[au,bW];rw[<- hK];simp[pL,sz];refine iO #[1] #[1] hL #[0] hf fun r m1 r0 r1 hf1 hk1=>?_
  obtain⟨d,e,d0,d1⟩:=EX r0 r1;have hm1:=hk1 c _ hca hm
  refine⟨_,e,?_⟩;simp[yS];refine iO #[1] #[1] hL #[0] hf1 fun s m2 s0 s1 hf2 hk2=>?_
  have hm2:=hk2 c _ hca hm1
  simp[Je]
  cases hk:t.2 with
  | false =>
   simp (decide:=true) [kd];refine⟨⟨_,hm2⟩,?_⟩;refine oH (n:=20) #[1] #[0] (dX #[0] #[0]) (dX #[0] #[0]) fun x hx=>?_
   simp[hm2,hpz];exact step x m2 _ _ _ _ (.inl ⟨hk,hx⟩) (hf2.mono #[0]) hm2
  | true =>
   simp (decide:=true) [kd];refine⟨⟨_,hm2⟩,?_⟩;refine oH (n:=20) #[1] #[0] (dX #[0] #[0]) (dX #[0] #[0]) fun x hx=>?_
   refine iO #[1] #[1] hL #[0] hf2 fun w m3 w0 w1 hf3 hk3=>?_
   have hm3:=hk3 c _ hca hm2
   refine oH (n:=20) #[1] #[0] (dX #[0] #[0]) (dX #[0] #[0]) fun y hy=>?_
   simp[hm3,hpz,sz];exact step _ m3 _ _ _ _ (.inr ⟨hk,x,y,rfl,hx,hy⟩) (hf3.mono #[0]) hm3
theorem Vm:∀ ds m R,ds.length=Ru.length->qC ds m R->wV (EN R) (bN Jr ds) m:=by
 rintro ds m R hl ⟨a,ts,L,rfl,hn,hL,hT,h⟩;have hf:=Fed.refl hT
 simp[wV];intro c hc;obtain⟨ne,hm⟩:=hf.new hc;simp[Qa];have:=Cq (E:={nx:=tL (EN R),rt:=R}) (m0:=m) (d1:=.dat (TH ts)) hL ne hm ts [] [] 0 (aW m c (.l [])) none none none none trivial #[4,hn] #[1] #[0] (hf.upd ne hm) bM
  (fun ps m' o3 o4 o5 o6 h1 h2 h3=>by
   simp[tL,h3];exact h ps m' h1 (h2.mono #[0]))
 simpa[Function.comp_def] using this
theorem fT{g:DG}{t:DT}{f:DE}{Q:List PyData->Mu->Prop}(J:List D->List PyData->bI->Mu->Prop)(fin:∀ acc d m,J [] acc d m->Q acc m)
  (step:∀ x xs acc d m (k:List PyData->bI->Mu->Prop),J (x::xs) acc d m->(∀ acc' d' m',J xs acc' d' m'->k acc' d' m')->g x d m fun d1 m1=>t d1 m1 fun b m2=>if b=true then f d1 m2 fun y m3=>∃ p,y=.dat p/\acc.length<sizeLine/\k (acc++[p]) d1 m3 else k acc d1 m2) :
  ∀ xs acc d m,J xs acc d m->dR g t f xs acc d m Q
 | [],acc,d,m,h=>fin acc d m h
 | x::xs,acc,d,m,h=>step x xs acc d m (fun acc' d' m'=>dR g t f xs acc' d' m' Q) h (fT J fin step xs)
theorem f7{n i:Nat}(h:i<n):(dD 0 n).drop i=I (i:Int)::(dD 0 n).drop (i+1):=by
 have hl:i<(dD 0 n).length:=by unfold dD;simpa using h
 rw[List.drop_eq_getElem_cons hl]
 congr 1
 unfold dD;simp
theorem FB{n:Nat}:(dD 0 n).drop n=[]:=by
 rw[List.drop_eq_nil_iff];unfold dD;simp
theorem lY{g:DG}{b:DS}{E:Ends2}{n:Nat}(J:Nat->bI->Mu->Prop)(hd:∀ d m,J n d m->E.nx d m)
  (step:∀ i,i<n->∀ (k:bI->Mu->Prop),(∀ d m,J (i+1) d m->k d m)->∀ d m,J i d m->g (I (i:Int)) d m fun d' m'=>b {E with nx:=k,ct:=k,bk:=E.nx} d' m'):∀ d m,J 0 d m->bW g b E (dD 0 n) d m:=by
 have key:∀ (r i:Nat),r+i=n->∀ d m,J i d m->bW g b E ((dD 0 n).drop i) d m:=by
  intro r
  induction r with
  | zero =>
   intro i hi d m hj;have:i=n:=by omega
   subst this;rw[FB];exact hd d m hj
  | succ r ih =>
   intro i hi d m hj;rw[f7 #[0]]
   exact step i #[0] _ (ih (i+1) #[0]) d m hj
 intro d m h;have:=key n 0 #[0] d m h
 simpa using this
def Sh(n d:Nat)(p:PyData):Prop:=p.showable=true/\p.shown.length<=n/\p.depth<=d
theorem Sh.mono{n d n' d':Nat}{p:PyData}(h:Sh n d p)(h1:n<=n')(h2:d<=d'):Sh n' d' p:=⟨h.1,Nat.le_trans h.2.1 h1,Nat.le_trans h.2.2 h2⟩
theorem Ay{n d:Nat}:∀ {ps:List PyData},(∀ p∈ps,Sh n d p)->PyData.showableAll ps=true/\((PyData.shownAll ps).map (·.length)).sum<=n*ps.length/\(PyData.shownAll ps).length=ps.length/\PyData.depthAll ps<=d
 | [],_=>by simp[PyData.showableAll,PyData.shownAll,PyData.depthAll]
 | p::ps,h=>by
  obtain⟨q1,q2,q3,q4⟩:=Ay (ps:=ps) fun y hy=>h y (aq _ hy);obtain⟨p1,p2,p3⟩:=h p List.mem_cons_self;refine⟨?_,?_,?_,?_⟩
  ·simp only[PyData.showableAll,p1,q1,Bool.and_self]
  ·simp only[PyData.shownAll,au,List.sum_cons,List.length_cons,Nat.mul_succ];omega
  ·simp only[PyData.shownAll,List.length_cons,q3]
  ·simp only[PyData.depthAll];omega
theorem fL{n d N:Nat}{ps:List PyData}(h:∀ p∈ps,Sh n d p)(hN:n*ps.length+2*ps.length+3<=N):Sh N (d+1) (.tuple ps):=by
 obtain⟨q1,q2,q3,q4⟩:=Ay h;refine⟨by simpa only[PyData.showable] using q1,?_,by simp only[PyData.depth];omega⟩
 simp only[PyData.shown];refine Nat.le_trans (PySem.tupleText_len_le _) ?_;rw[q3];omega
theorem AS{i:Int}(h:Bd 200 i):Sh 1921 1 (.int i):=by
 refine⟨?_,?_,by simp[PyData.depth]⟩
 ·simp only[PyData.showable,decide_eq_true_eq];exact aj (h.log #[1]) #[1]
 ·simp only[PyData.shown];exact PyProof.Rows.int_text_len_1921 (aj (h.log #[1]) #[1])
theorem F2(b:Bool):Sh 20 1 (.bool b):=by
 refine⟨by simp[PyData.showable],?_,by simp[PyData.depth]⟩
 cases b<;>decide +kernel
theorem Dd:∀ z∈bK,(PyData.str z).showable=true/\(PyData.str z).shown.length<=20:=by decide +kernel
theorem FL{z:Str}(h:z∈bK):Sh 20 1 (.str z):=⟨(Dd z h).1,(Dd z h).2,by simp[PyData.depth]⟩
theorem Nm.sh{ts:List (Str×Bool)}(h:Nm ts){t:Str×Bool}(ht:t∈ts):Sh 20 1 (.str t.1):=⟨(mF _ (h.2.2.1 t ht)).1,(mF _ (h.2.2.1 t ht)).2,by simp[PyData.depth]⟩
theorem Fn:∀ z∈(["may","gap","stretch","point"]:List Str),(PyData.str z).showable=true/\(PyData.str z).shown.length<=20:=by decide +kernel
theorem xN{z:Str}(h:z∈(["may","gap","stretch","point"]:List Str)):Sh 20 1 (.str z):=⟨(Fn z h).1,(Fn z h).2,by simp[PyData.depth]⟩
theorem Sh.shw{n d N:Nat}{p:PyData}(h:Sh n d p)(h1:n<=N)(h2:d<=20):wA N p:=⟨h.1,Nat.le_trans h.2.1 h1,Nat.le_trans h.2.2 h2⟩
theorem xM{ts:List (Str×Bool)}{i:Nat}(h:i<ts.length):bT (ts.map fun t=>PyData.tuple [.str t.1,.str (kd t.2)]) (i:Int)=some (.tuple [.str ts[i].1,.str (kd ts[i].2)]) :=
 iD (by rw[List.getElem?_map,List.getElem?_eq_getElem h];rfl)
theorem Lw{ts:List (Str×Bool)}{i:Int}(h0:0<=i)(h:i<(ts.length:Int)):∃ t∈ts,bT (ts.map fun t=>PyData.tuple [.str t.1,.str (kd t.2)]) i=some (.tuple [.str t.1,.str (kd t.2)]):=by
 obtain⟨k,rfl⟩:∃ k:Nat,i=k:=⟨i.toNat,by omega⟩
 exact⟨_,List.getElem_mem #[0],xM #[0]⟩
theorem Y1:∀ z∈bK,PyData.strOk z=true:=by decide +kernel
theorem Pg:∀ {ns:List Str},(∀ z∈ns,z∈bK)->PyData.canLayAll0 (ns.map .str)=true/\PyData.depthAll (ns.map .str)<=1
 | [],_=>by simp[PyData.canLayAll0,PyData.depthAll]
 | n::ns,h=>by
  obtain⟨h1,h2⟩:=Pg (ns:=ns) fun y hy=>h y (aq _ hy);simp only[au,PyData.canLayAll0,PyData.depthAll,PyData.canLay0,PyData.depth,h1,Y1 n (h n List.mem_cons_self),Bool.and_self];exact⟨trivial,by omega⟩
theorem Fb{k l:Bool}{p q:PyData}{m:Mu}{R:DK}(hp:Tm k p)(hq:Tm l q)(h:∀ z∈bK,R (.dat (.str z)) m):nG [.dat (.tuple [.str (kd k),p]),.dat (.tuple [.str (kd l),q])] m R:=⟨k,l,p,q,rfl,hp,hq,h _ (F4 k l p q)⟩
theorem Ia{n:Int}(h0:0<n)(h1:n<=1000):n.natAbs.log2<9000 :=
 aj ((dX (i:=n) #[0] #[0]).log #[1]) #[1]
theorem EU:∀ ds m R,ds.length=Ik.length->mN ds m R->wU (EN R) (bN Bg ds) m:=by
 rintro ds m R hl ⟨a,c,ts,kvs,L,rfl,hN,h2,hca,hc,hK,hL,hT,h⟩;have hf:=Fed.refl hT
 have h6:=hN.2.1
 have len0:(0:Int)<ts.length:=by omega
 simp[wU];refine gH #[0] #[0] #[0] #[1] hf fun i m1 i0 i1 hf1=>?_
 simp[Ni];refine gH #[0] #[0] #[0] #[1] hf1 fun j m2 j0 j1 hf2=>?_
 have hj0:=Int.fmod_nonneg_of_pos (i+1+j) len0
 have hj1:=Int.fmod_lt_of_pos (i+1+j) len0
 obtain⟨t,ht,et⟩:=Lw i0 i1;obtain⟨u,hu,eu⟩:=Lw hj0 hj1;have nz:ts≠[]:=by rintro rfl;simp at h2
 simp[Ia len0 #[0],nz,Nd]
 refine⟨_,et,_,eu,_,_,⟨rfl,rfl⟩,?_⟩;simp[An];refine⟨t.2,u.2,rfl,fun zs hzs=>?_⟩;have hz1:zs.length<=13:=hzs.length_le
 have hz2:∀ z∈zs,z∈bK:=fun z hz=>hzs.subset hz
 have last:∀ (ks:List Str) (m5:Mu) (o3 o4:Option D),Fed 20 L m m5 a->uK (EN R) [some (.cel a),some (.dat (TH ts)),some (.cel c),o3,o4,some (.dat (.tuple [.str t.1,.str (kd t.2)])),some (.dat (.tuple [.str u.1,.str (kd u.2)])),some (.dat (.list (zs.map .str))),some (.dat (.list (ks.map .str)))] m5:=fun ks m5 o3 o4 hf5=>by
  simp[uK,bP];refine fT (fun rest acc d m'=>m'=m5/\(∃ o,d=[o,some (.dat (.list (ks.map .str)))])/\∃ ys ws:List Str,rest=ys.map (fun z=>.dat (.str z))/\acc=ws.map .str/\(ws++ys).Sublist bK) ?_ ?_ _ _ _ _ ⟨rfl,⟨none,rfl⟩,zs,[],by simp[Function.comp_def],rfl,by simpa using hzs⟩
  ·rintro acc d m' ⟨rfl,_,ys,ws,q1,rfl,q2⟩;have:ys=[]:=by simpa using q1.symm
   subst this;simp[sz];exact h (.may t.1 u.1 ws) _ ⟨List.mem_map.mpr ⟨t,ht,rfl⟩,List.mem_map.mpr ⟨u,hu,rfl⟩,by simpa using q2⟩ hf5
  ·rintro x xs acc d m' k ⟨rfl,⟨o,rfl⟩,ys,ws,q1,rfl,q2⟩ hk
   cases ys with
   | nil=>cases q1
   | cons y ys =>
    obtain⟨rfl,rfl⟩:=List.cons.inj q1;have q4:(ws++y::ys).length<=13:=q2.length_le
    simp at q4;simp;refine⟨ks,rfl,?_⟩
    by_cases yk:y∈ks
    ·refine .inr ⟨yk,aj #[0] (sz (n:=100) #[1]),?_⟩
     exact hk _ _ _ ⟨rfl,⟨_,rfl⟩,ys,ws++[y],rfl,by simp,by simpa using q2⟩
    ·exact .inl ⟨yk,hk _ _ _ ⟨rfl,⟨_,rfl⟩,ys,ws,rfl,rfl,((List.Sublist.refl ws).append (List.sublist_cons_self y ys)).trans q2⟩⟩
 simp[Ju,bP];refine fT (fun rest acc d m'=>(∃ o,d=[o,some (.cel a)])/\∃ ys ws:List Str,rest=ys.map (fun z=>.dat (.str z))/\acc=ws.map .str/\(∀ z∈ys,z∈bK)/\(∀ z∈ws,z∈bK)/\ws.length+ys.length<=13/\∃ b:Int,0<=b/\b+ys.length<=15/\Fed b L m m' a) ?_ ?_ _ _ _ _ ⟨⟨none,rfl⟩,zs,[],by simp[Function.comp_def],rfl,hz2,by simp,by simpa using hz1,0+1+1,by decide,by omega,hf2⟩
 ·rintro acc d m3 ⟨_,ys,ws,q1,rfl,q2,q3,q4,b,b0,b1,hf3⟩;simp[Im];refine gH #[1] #[1] #[0] #[0] hf3 fun s m4 s0 s1 hf4=>?_
  have hc4:m4 c=some (.d kvs):=by rw[hf4.2 c hca (by rw[hc];rfl)];exact hc
  obtain⟨k1,w1,e1,T1⟩:=hK.get ht;obtain⟨k2,w2,e2,T2⟩:=hK.get hu;obtain⟨y1,y2⟩:=Pg q3;simp[PyData.canLay0,PyData.depth,y1,hc4];have l0:=last ws m4 (some (I i)) (some (.dat (.int ((i+1+j).fmod ts.length)))) (hf4.mono #[0])
  have l1:=fun z=>last (ws++[z]) m4 (some (I i)) (some (.dat (.int ((i+1+j).fmod ts.length)))) (hf4.mono #[0])
  by_cases cs:s<=0
  ·refine .inl ⟨cs,rfl,by omega,?_⟩
   cases (PyData.list (ws.map .str)).eqv (.list []) with
   | false=>exact .inl ⟨rfl,l0⟩
   | true =>
    refine .inr ⟨rfl,_,e1,_,e2,Fb T1 T2 fun z hz=>⟨_,rfl,sz #[2],sz (by simp;omega),?_⟩⟩
    simpa using l1 z
  ·refine .inr ⟨by omega,_,e1,_,e2,Fb T1 T2 fun z hz=>⟨_,rfl,sz #[2],sz (by simp;omega),?_⟩⟩
   simpa using l1 z
 ·rintro x xs acc d m' k ⟨⟨o,rfl⟩,ys,ws,q1,rfl,q2,q3,q4,b,b0,b1,hf3⟩ hk
  cases ys with
  | nil=>cases q1
  | cons y ys =>
   obtain⟨rfl,rfl⟩:=List.cons.inj q1;simp at q4 b1;simp;refine gH #[1] #[1] #[0] #[0] hf3 fun s m4 s0 s1 hf4=>?_
   have t0:∀ o',k (ws.map .str) [o',some (.cel a)] m4:=fun o'=>hk _ _ _ ⟨⟨_,rfl⟩,ys,ws,rfl,rfl,fun z hz=>q2 z (aq _ hz),q3,by omega,b+1,by omega,by omega,hf4⟩
   have t1:∀ o',k (ws.map .str++[.str y]) [o',some (.cel a)] m4:=fun o'=>hk _ _ _ ⟨⟨_,rfl⟩,ys,ws++[y],rfl,by simp,fun z hz=>q2 z (aq _ hz),fun z hz=>by
      rcases List.mem_append.mp hz with hz | hz
      ·exact q3 z hz
      ·have:z=y:=by simpa using hz
       rw[this];exact q2 y List.mem_cons_self,by simp;omega,b+1,by omega,by omega,hf4⟩
   simp[PyData.canLay0,PyData.depth]
   cases (PyData.int s).eqv (PyData.int 0) with
   | false=>exact .inl ⟨rfl,t0 _⟩
   | true=>exact .inr ⟨rfl,aj #[0] (sz (n:=100) #[1]),t1 _⟩
theorem Da:∀ ts:List (Str×Bool),iM ts<=2*ts.length
 | []=>by simp[iM]
 | t::ts=>by
  have:=Da ts
  unfold iM at this ⊢;simp only[au,List.sum_cons,List.length_cons]
  split<;>omega
theorem Oa{es:List (Str×Int)}{i:Int}(h0:0<=i)(h:i<(es.length:Int)):∃ e∈es,bT (es.map dF) i=some (dF e):=by
 obtain⟨k,rfl⟩:∃ k:Nat,i=k:=⟨i.toNat,by omega⟩
 have hk:k<es.length:=by omega
 exact⟨es[k],List.getElem_mem hk,iD (by rw[List.getElem?_map,List.getElem?_eq_getElem hk];rfl)⟩
theorem DM{i:Int}(h0:0<=i)(h1:i<6):∃ x y:Int,bT [PyData.tuple [.int 0,.int 1],.tuple [.int 1,.int 1],.tuple [.int 1,.int 2],.tuple [.int 2,.int 1],.tuple [.int (-1),.int 2],.tuple [.int 0,.int 1]] i=some (.tuple [.int x,.int y])/\0<y/\Bd 20 x/\Bd 20 y:=by
 obtain rfl | rfl | rfl | rfl | rfl | rfl:i=0\/i=1\/i=2\/i=3\/i=4\/i=5:=by omega
 ·exact⟨0,1,rfl,by decide,dX #[1] #[1],dX #[1] #[1]⟩
 ·exact⟨1,1,rfl,by decide,dX #[1] #[1],dX #[1] #[1]⟩
 ·exact⟨1,2,rfl,by decide,dX #[1] #[1],dX #[1] #[1]⟩
 ·exact⟨2,1,rfl,by decide,dX #[1] #[1],dX #[1] #[1]⟩
 ·exact⟨-1,2,rfl,by decide,dX #[1] #[1],dX #[1] #[1]⟩
 ·exact⟨0,1,rfl,by decide,dX #[1] #[1],dX #[1] #[1]⟩
theorem nJ{ts:List (Str×Bool)}{e:Str×Int}(h:e∈iG ts):(∃ t∈ts,e.1=t.1)/\(e.2=0\/e.2=1):=by
 obtain⟨t,ht,he⟩:=List.mem_flatMap.mp h;unfold lO at he
 split at he
 ·simp at he;rcases he with rfl | rfl
  ·exact⟨⟨t,ht,rfl⟩,.inl rfl⟩
  ·exact⟨⟨t,ht,rfl⟩,.inr rfl⟩
 ·simp at he;subst he;exact⟨⟨t,ht,rfl⟩,.inl rfl⟩
theorem Cc{c:Addr}{ts:List (Str×Bool)}{kvs:List (aL×PyData)}{e:Str×Int}{m:Mu}{R:DK}(hc:m c=some (.d kvs))(hK:Kn ts kvs)(he:e∈iG ts)(h:∀ x y:Int,0<y->Bd 20 x->Bd 20 y->R (.dat (.tuple [.int x,.int y])) m):kC [.cel c,.dat (dF e)] m R:=by
 obtain⟨⟨t,ht,e1⟩,e2⟩:=nJ he;obtain⟨k,w,hv,hT⟩:=hK.get ht;obtain⟨_,_,_,_,x,ex,q0,q1,q2⟩:=pY hT e2;refine⟨c,kvs,e.1,k,w,e.2,rfl,hc,by rw[e1];exact hv,hT,e2,?_⟩
 rw[ex];exact h x.1 x.2 q0 q1 q2
theorem Nm.mem{ts:List (Str×Bool)}(hN:Nm ts){a:Str}(h:a∈ts.map (·.1)):a∈eQ:=by
 obtain⟨t,ht,rfl⟩:=List.mem_map.mp h;exact hN.2.2.1 t ht
theorem Qg{n:Nat}{t b:Int}{m:Mu}{R:DK}(hn:n<=200)(h0:0<b)(ht:Bd n t)(hb:Bd n b)(h:∀ x y:Int,0<y->Bd n x->Bd n y->R (.dat (.tuple [.int x,.int y])) m):jE [I t,I b] m R :=
 oH hn h0 ht hb (by
  rintro _ ⟨x,rfl,q0,q1,q2⟩;exact h x.1 x.2 q0 q1 q2)
theorem nR{i:Int}(h:Bd 62 i):Sh 70 1 (.int i):=by
 refine⟨(AS (h.mono #[1])).1,?_,by simp[PyData.depth]⟩
 simp only[PyData.shown];rw[PySem.ofString_length];exact Nat.le_trans (PySem.int_text_length_le (k:=62) #[1] (h.log #[1])) #[1]
theorem Aj{ts:List (Str×Bool)}(hN:Nm ts){e:Str×Int}(he:e∈iG ts):Sh 200 2 (dF e):=by
 obtain⟨⟨t,ht,e1⟩,e2⟩:=nJ he;have b2:Bd 62 e.2:=by
  refine Bd.mono (m:=20) (dX ?_ ?_) #[1]<;>omega
 refine fL (n:=70) (d:=1) (fun p hp=>?_) #[2]
 simp at hp;rcases hp with rfl | rfl
 ·rw[e1];exact(hN.sh ht).mono #[1] #[1]
 ·exact nR b2
theorem rH{z:Str}(h:z∈eQ):Sh 20 1 (.str z):=⟨(mF z h).1,(mF z h).2,by simp[PyData.depth]⟩
theorem Ox{ws:List Str}(h:ws.Sublist bK):Sh 320 2 (.tuple (ws.map .str)):=by
 have hl:ws.length<=13:=h.length_le
 exact fL (n:=20) (d:=1) (fun p hp=>by
  obtain⟨z,hz,rfl⟩:=List.mem_map.mp hp;exact FL (h.subset hz)) (by simp;omega)
theorem Us{ts:List (Str×Bool)}(hN:Nm ts){s:Say}(h:s.ok ts):wA 6000 s.p:=by
 cases s with
 | may a b ws =>
  obtain⟨h1,h2,h3⟩:=h;have h1:=hN.mem h1
  have h2:=hN.mem h2
  refine(fL (n:=320) (d:=2) (N:=2000) (fun p hp=>?_) #[2]).shw #[1] #[1]
  simp at hp;rcases hp with rfl | rfl | rfl | rfl
  ·exact(xN #[3]).mono #[1] #[1]
  ·exact(rH h1).mono #[1] #[1]
  ·exact(rH h2).mono #[1] #[1]
  ·exact Ox h3
 | gap x y q s =>
  obtain⟨h1,h2,h3,h4⟩:=h;have sn:Sh 200 2 (fq q):=fL (n:=70) (d:=1) (fun p hp=>by
   simp at hp;rcases hp with rfl | rfl
   ·exact nR h3
   ·exact nR h4) #[2]
  refine(fL (n:=200) (d:=2) (N:=2000) (fun p hp=>?_) #[2]).shw #[1] #[1]
  simp at hp;rcases hp with rfl | rfl | rfl | rfl | rfl
  ·exact(xN #[3]).mono #[1] #[1]
  ·exact Aj hN h1
  ·exact Aj hN h2
  ·exact sn
  ·exact(F2 _).mono #[1] #[1]
theorem Yt:∀ ds m R,ds.length=Ri.length->nO ds m R->vY (EN R) (bN Rf ds) m:=by
 rintro ds m R hl ⟨a,c,ts,kvs,L,rfl,hN,h2,hca,hc,hK,hL,hT,h⟩;have hf:=Fed.refl hT
 have h6:=hN.2.1
 have h12:=Da ts
 simp[vY];refine⟨ts,rfl,h6,fun es hel hes=>?_⟩;have len0:(0:Int)<es.length:=by omega
 simp[Nk];refine gH #[0] #[0] #[0] #[1] hf fun i m1 i0 i1 hf1=>?_
 simp[Kx];refine gH #[0] #[0] #[0] #[1] hf1 fun j m2 j0 j1 hf2=>?_
 have hj0:=Int.fmod_nonneg_of_pos (i+1+j) len0
 have hj1:=Int.fmod_lt_of_pos (i+1+j) len0
 obtain⟨e,he,ee⟩:=Oa i0 i1;obtain⟨f,hff,ef⟩:=Oa hj0 hj1;have nz:es≠[]:=by rintro rfl;simp at len0
 have hc2:m2 c=some (.d kvs):=by rw[hf2.2 c hca (by rw[hc];rfl)];exact hc
 simp[Ia len0 #[0],nz,Lp]
 refine⟨_,ee,?_⟩;refine Cc hc2 hK (hes e he) fun x0 x1 x1p bx0 bx1=>?_;refine⟨_,ef,?_⟩;refine Cc hc2 hK (hes f hff) fun y0 y1 y1p by0 by1=>?_;refine⟨_,_,⟨rfl,rfl⟩,?_⟩;simp[Dl];refine⟨bx0.mulOk by1 #[1],by0.mulOk bx1 #[1],bx1.mulOk by1 #[1],?_⟩
 refine Qg (n:=41) #[1] (Int.mul_pos x1p y1p) (Bd.sub (n:=40) (bx0.mul by1) (by0.mul bx1)) ((bx1.mul by1).mono #[1]) fun z0 z1 z1p bz0 bz1=>?_
 simp[Ae,sz];refine gH #[1] #[1] #[0] #[1] hf2 fun s m3 s0 s1 hf3=>?_
 obtain⟨w0,w1,ew,w1p,bw0,bw1⟩:=DM s0 s1;refine⟨_,ew,?_⟩;simp[Jt];refine⟨bz0.mulOk bw1 #[1],bw0.mulOk bz1 #[1],bz1.mulOk bw1 #[1],?_⟩
 refine Qg (n:=62) #[1] (Int.mul_pos z1p w1p) (Bd.add (n:=61) (bz0.mul bw1) (bw0.mul bz1)) ((bz1.mul bw1).mono #[1]) fun v0 v1 v1p bv0 bv1=>?_
 simp[Lg];refine⟨_,ee,_,ef,?_⟩;refine gH #[1] #[1] #[0] #[1] hf3 fun s m4 s0 s1 hf4=>?_
 simp[PyData.canLay0,PyData.depth,sz];exact h (.gap e f (v0,v1) _) _ ⟨hes e he,hes f hff,bv0,bv1⟩ (hf4.mono #[1])
theorem sK:0<=sizeLine:=sz #[1]
theorem xO:1<=sizeLine:=sz #[1]
theorem wC:2<=sizeLine:=sz #[1]
theorem vU:3<=sizeLine:=sz #[1]
theorem sV:4<=sizeLine:=sz #[1]
theorem wR:5<=sizeLine:=sz #[1]
theorem sM:6<=sizeLine:=sz #[1]
theorem xL{zs:List Str}(h:lA zs):zs.Nodup:=List.Pairwise.imp (fun {a b} q e=>by subst e;exact List.lt_irrefl _ q) h
theorem Fg{t:Str×Bool}{ts:List (Str×Bool)}{p:PyData}{ps:List PyData}:fI (t::ts) (p::ps)=(Sum.inr t.1,PyData.tuple [.str (kd t.2),p])::fI ts ps:=rfl
theorem kK:∀ {ts:List (Str×Bool)} {ps:List PyData} {x:Str},TmAll ts ps->x∈ts.map (·.1)->cM (fI ts ps) (.inr x)=some (.tuple [.str (kd (dJ ts x)),dE ts ps x])/\Tm (dJ ts x) (dE ts ps x)
 | [],_,x,_,h=>by simp at h
 | _::_,[],_,h,_=>h.elim
 | t::ts,p::ps,x,⟨h1,h2⟩,hx=>by
  rw[Fg];unfold cM dJ dE
  by_cases e:t.1=x
  ·subst e;simp;exact h1
  ·have e2:¬ ((Sum.inr t.1:aL)=Sum.inr x):=fun q=>e (Sum.inr.inj q)
   have hx:x∈ts.map (·.1):=by
    simp only[au,List.mem_cons]at hx;exact hx.resolve_left (fun q=>e q.symm)
   have ih:=kK h2 hx
   unfold cM dJ dE at ih;rw[List.find?_cons_of_neg #[4,e2],List.find?_cons_of_neg #[4,e],au,List.idxOf_cons,show(t.1==x)=false by simpa using e]
   simpa using ih
theorem x6{ts:List (Str×Bool)}{ps:List PyData}(h:TmAll ts ps):Kn ts (fI ts ps):=by
 refine⟨?_,fun t ht=>⟨_,(kK h (List.mem_map.mpr ⟨t,ht,rfl⟩)).1⟩⟩;have key:∀ (ts:List (Str×Bool)) (ps:List PyData),TmAll ts ps->∀ kv∈fI ts ps,∃ k w,kv.2=.tuple [.str (kd k),w]/\Tm k w:=by
  intro ts
  induction ts with
  | nil=>intro ps h kv hk;simp[fI]at hk
  | cons t ts ih =>
   intro ps h kv hk
   cases ps with
   | nil=>exact h.elim
   | cons p ps =>
    rw[Fg]at hk;rcases List.mem_cons.mp hk with rfl | hk
    ·exact⟨t.2,p,rfl,h.1⟩
    ·exact ih ps h.2 kv hk
 exact key ts ps h
theorem u7{a c:Addr}{ts:List (Str×Bool)}{kvs:List (aL×PyData)}{b L:Int}{m0 m:Mu}{R:DK}(hN:Nm ts)(h2:2<=iM ts)(hca:c≠a)(hc:m c=some (.d kvs))(hK:Kn ts kvs)(hL:L<=7000000)(hb:b<=100000)(hf:Fed b L m0 m a)
  (h:∀ (s:Say) m',s.ok ts->Fed (b+20) L m0 m' a->(∀ c x,c≠a->m c=some x->m' c=some x)->R (.dat s.p) m'):nO [.cel a,.dat (TH ts),.cel c] m R :=
 ⟨a,c,ts,kvs,L+b,rfl,hN,h2,hca,hc,hK,by omega,hf.1,fun p m' hp q=>h p m' hp (hf.trans q) fun c x hc hx=>by rw[q.2 c hc (by rw[hx];rfl)];exact hx⟩
theorem Ub{a c:Addr}{ts:List (Str×Bool)}{kvs:List (aL×PyData)}{b L:Int}{m0 m:Mu}{R:DK}(hN:Nm ts)(h2:2<=ts.length)(hca:c≠a)(hc:m c=some (.d kvs))(hK:Kn ts kvs)(hL:L<=7000000)(hb:b<=100000)(hf:Fed b L m0 m a)
  (h:∀ (s:Say) m',s.ok ts->Fed (b+20) L m0 m' a->(∀ c x,c≠a->m c=some x->m' c=some x)->R (.dat s.p) m'):mN [.cel a,.dat (TH ts),.cel c] m R :=
 ⟨a,c,ts,kvs,L+b,rfl,hN,h2,hca,hc,hK,by omega,hf.1,fun p m' hp q=>h p m' hp (hf.trans q) fun c x hc hx=>by rw[q.2 c hc (by rw[hx];rfl)];exact hx⟩
theorem Q1:∀ ds m R,ds.length=Os.length->uV ds m R->Rq (EN R) (bN Nz ds) m:=by
 rintro ds m R hl ⟨a,ts,ps,L,rfl,hN,hps,hL,hT,h⟩;have hf:=Fed.refl hT
 have h6:=hN.2.1
 repeat first | refine⟨rfl,?_⟩ | refine⟨_,rfl,?_⟩ | refine⟨sK,?_⟩ | refine⟨xO,?_⟩ | refine⟨wC,?_⟩ | refine⟨vU,?_⟩ | refine⟨sV,?_⟩ | refine⟨wR,?_⟩ | refine⟨sM,?_⟩
 obtain⟨kvs,ekv⟩:∃ kvs,kvs=fI ts ps:=⟨_,rfl⟩;have hK:=x6 hps
 refine⟨ts,ps,rfl,h6,hps.out.1,xL hN.2.2.2,fun c hc=>?_⟩;rw[<- ekv]at hK ⊢;obtain⟨nc,hc0⟩:=hf.new hc;have hf1:=hf.upd (x:=.d kvs) nc hc0
 repeat first | refine⟨rfl,?_⟩ | refine⟨_,rfl,?_⟩ | refine⟨sK,?_⟩ | refine⟨xO,?_⟩ | refine⟨wC,?_⟩ | refine⟨vU,?_⟩ | refine⟨sV,?_⟩ | refine⟨wR,?_⟩ | refine⟨sM,?_⟩
 intro e he;obtain⟨ne,he0⟩:=hf1.new he;have hec:c≠e:=by
  rintro rfl;rw[bM]at he
  cases he
 have hf2:=hf1.upd (x:=.l []) ne he0
 have hc2:(aW (aW m c (.d kvs)) e (.l [])) c=some (.d kvs):=by rw[cE hec,bM]
 repeat first | refine⟨rfl,?_⟩ | refine⟨_,rfl,?_⟩ | refine⟨sK,?_⟩ | refine⟨xO,?_⟩ | refine⟨wC,?_⟩ | refine⟨vU,?_⟩ | refine⟨sV,?_⟩ | refine⟨wR,?_⟩ | refine⟨sM,?_⟩
 refine iO #[1] #[1] #[0] #[1] hf2 fun n m1 n0 n1 hf3 hk=>?_
 have hc3:=hk c _ nc hc2
 have he3:=hk e _ ne bM
 obtain⟨k,rfl⟩:∃ k:Nat,n=k:=⟨n.toNat,by omega⟩
 simp;refine⟨by omega,?_⟩
 refine lY (fun i d m'=>∃ (ss:List Say) (o:Option D),d=[some (.cel a),some (.dat (TH ts)),some (.dat (.tuple ps)),some (I 24),some (.dat (.bool true)),some (.cel c),some (.cel e),o]/\m' e=some (.l (ss.map Say.p))/\m' c=some (.d kvs)/\ss.length<=i/\(∀ s∈ss,s.ok ts)/\∃ b:Int,0<=b/\b<=1+21*(i:Int)/\Fed b L m m' a) ?_ ?_ _ _ ⟨[],none,rfl,he3,hc3,by simp,by simp,0+1,by decide,by decide,hf3⟩
 ·rintro d m2 ⟨ss,o,rfl,q1,q2,q3,q4,b,b0,b1,hf4⟩;simp[Kd,q1];exact h ss m2 #[0] q4 (hf4.mono #[0])
 ·rintro i hi k2 hk2 d m2 ⟨ss,o,rfl,q1,q2,q3,q4,b,b0,b1,hf4⟩;have hz:ss.length<sizeLine:=aj #[0] (sz (n:=100) #[1])
  have app:∀ (p:Say) (m3:Mu) (o:Option D),p.ok ts->Fed (b+21) L m m3 a->m3 e=some (.l (ss.map Say.p))->m3 c=some (.d kvs)->k2 [some (.cel a),some (.dat (TH ts)),some (.dat (.tuple ps)),some (I 24),some (.dat (.bool true)),some (.cel c),some (.cel e),o] (aW m3 e (.l (ss.map Say.p++[p.p]))):=fun p m3 o hp hf5 r1 r2 =>
   hk2 _ _ ⟨ss++[p],o,rfl,by rw[bM];simp,by rw[cE hec];exact r2,by simp;omega,fun p' hp'=>by
    rcases List.mem_append.mp hp' with hp' | hp'
    ·exact q4 p' hp'
    ·have:p'=p:=by simpa using hp'
     rw[this];exact hp,b+21,by omega,by omega,hf5.upd ne he0⟩
  have none':∀ (m3:Mu) (o:Option D),Fed (b+21) L m m3 a->m3 e=some (.l (ss.map Say.p))->m3 c=some (.d kvs)->k2 [some (.cel a),some (.dat (TH ts)),some (.dat (.tuple ps)),some (I 24),some (.dat (.bool true)),some (.cel c),some (.cel e),o] m3:=fun m3 o hf5 r1 r2 =>
   hk2 _ _ ⟨ss,o,rfl,r1,r2,by omega,q4,b+21,by omega,by omega,hf5⟩
  have may:∀ (m3:Mu) (o:Option D),2<=ts.length->Fed (b+1) L m m3 a->m3 e=some (.l (ss.map Say.p))->m3 c=some (.d kvs)->mN [.cel a,.dat (TH ts),.cel c] m3 fun x m2=>∃ xs p,x=D.dat p/\m2 e=some (Cel.l xs)/\xs.length<sizeLine/\k2 [some (.cel a),some (.dat (TH ts)),some (.dat (.tuple ps)),some (I 24),some (.dat (.bool true)),some (.cel c),some (.cel e),o] (aW m2 e (.l (xs++[p]))):=fun m3 o h2 hf5 r1 r2 =>
   Ub hN h2 nc r2 hK #[0] #[0] hf5 fun p m4 hp hf6 hk6=>⟨ss.map Say.p,p.p,rfl,hk6 e _ ne r1,by simpa using hz,app p m4 o hp (by have:=hf6;rw[Int.add_assoc]at this;exact this) (hk6 e _ ne r1) (hk6 c _ nc r2)⟩
  have gap:∀ (m3:Mu) (o:Option D),2<=iM ts->Fed (b+1) L m m3 a->m3 e=some (.l (ss.map Say.p))->m3 c=some (.d kvs)->nO [.cel a,.dat (TH ts),.cel c] m3 fun x m2=>∃ xs p,x=D.dat p/\m2 e=some (Cel.l xs)/\xs.length<sizeLine/\k2 [some (.cel a),some (.dat (TH ts)),some (.dat (.tuple ps)),some (I 24),some (.dat (.bool true)),some (.cel c),some (.cel e),o] (aW m2 e (.l (xs++[p]))):=fun m3 o h2 hf5 r1 r2 =>
   u7 hN h2 nc r2 hK #[0] #[0] hf5 fun p m4 hp hf6 hk6=>⟨ss.map Say.p,p.p,rfl,hk6 e _ ne r1,by simpa using hz,app p m4 o hp (by have:=hf6;rw[Int.add_assoc]at this;exact this) (hk6 e _ ne r1) (hk6 c _ nc r2)⟩
  have either:∀ (m3:Mu) (o:Option D),Fed (b+1) L m m3 a->m3 e=some (.l (ss.map Say.p))->m3 c=some (.d kvs) ->
    (((ts.length:Int)<=1/\k2 [some (.cel a),some (.dat (TH ts)),some (.dat (.tuple ps)),some (I 24),some (.dat (.bool true)),some (.cel c),some (.cel e),o] m3)\/(1<(ts.length:Int)/\(∃ ys,m3 e=some (Cel.l ys))/\mN [.cel a,.dat (TH ts),.cel c] m3 fun x m2=>∃ xs p,x=D.dat p/\m2 e=some (Cel.l xs)/\xs.length<sizeLine/\k2 [some (.cel a),some (.dat (TH ts)),some (.dat (.tuple ps)),some (I 24),some (.dat (.bool true)),some (.cel c),some (.cel e),o] (aW m2 e (.l (xs++[p]))))):=fun m3 o hf5 r1 r2=>by
   by_cases c1:(ts.length:Int)<=1
   ·exact .inl ⟨c1,none' m3 o (hf5.mono #[0]) r1 r2⟩
   ·exact .inr ⟨by omega,⟨_,r1⟩,may m3 o #[0] hf5 r1 r2⟩
  simp[Ea];refine⟨ts,rfl,h6,fun es hel hes=>?_⟩;simp
  by_cases c1:(es.length:Int)<=1
  ·exact .inl ⟨c1,either m2 _ (hf4.mono #[0]) q1 q2⟩
  ·refine .inr ⟨by omega,?_⟩
   by_cases c2:(ts.length:Int)<2
   ·exact .inr ⟨c2,⟨_,q1⟩,gap m2 _ #[0] (hf4.mono #[0]) q1 q2⟩
   ·refine .inl ⟨by omega,?_⟩
    refine iO #[1] #[1] #[0] #[0] hf4 fun s m3 s0 s1 hf5 hk5=>?_
    have r1:=hk5 e _ ne q1
    have r2:=hk5 c _ nc q2
    simp[PyData.canLay0,PyData.depth]
    cases (PyData.int s).eqv (PyData.int 0) with
    | false=>exact .inl ⟨rfl,either m3 _ hf5 r1 r2⟩
    | true=>exact .inr ⟨rfl,⟨_,r1⟩,gap m3 _ #[0] hf5 r1 r2⟩
theorem O0{ts:List (Str×Bool)}(hN:Nm ts):wA 6000 (TH ts):=by
 have h6:=hN.2.1
 refine(fL (n:=100) (d:=2) (N:=1000) (fun p hp=>?_) (by simp;omega)).shw #[1] #[1]
 obtain⟨t,ht,rfl⟩:=List.mem_map.mp hp;refine fL (n:=20) (d:=1) (fun q hq=>?_) #[2]
 simp at hq;rcases hq with rfl | rfl
 ·exact hN.sh ht
 ·refine xN ?_
  cases t.2<;>decide +kernel
theorem M2:∀ ds m R,ds.length=Pc.length->rR ds m R->vJ (EN R) (bN Dr ds) m:=by
 rintro ds m R hl ⟨a,L,rfl,hL,hT,h⟩;simp[vJ];refine⟨a,12,L,rfl,by decide,by decide,by omega,hT,fun ts m1 hN hf1=>?_⟩
 simp[Gw];refine⟨a,ts,L+10,rfl,hN.2.1,by omega,hf1.1,fun ps m2 hps hf2=>?_⟩
 refine⟨a,ts,ps,L+10+20,rfl,hN,hps,by omega,hf2.1,fun ss m3 hs1 hs2 hf3=>?_⟩
 simp[sz];have e:L+(10+20)=L+10+20:=by omega
 refine h ts ss m3 hN hs1 hs2 (Fed.mono (b:=10+20+1000) (Fed.trans (hf1.trans hf2) ?_) #[1])
 rw[e];exact hf3
theorem Rb{a:Addr}{L:Int}{m0:Mu}{Q:List PyData->Mu->Prop}(hL:L<=9000000):∀ (ys ws:List Str) (b:Int) (m:Mu) (o:Option D),(ws++ys).Sublist bK->0<=b->b+ys.length<=50000->Fed b L m0 m a ->
  (∀ (ws':List Str) m',ws'.Sublist bK->Fed (b+ys.length) L m0 m' a->(∀ c x,c≠a->m c=some x->m' c=some x)->Q (ws'.map .str) m') ->
  dR (gN 0) (bL (aF cR (aT 2 cU (aB (aA 1) (aB (aE (.int 3)) aG))) (aE (.int 0)))) (aA 0) (ys.map fun z=>.dat (.str z)) (ws.map .str) [o,some (.cel a)] m Q
 | [],ws,b,m,o,hs,_,_,hf,h=>h ws m #[4,hs] #[4,hf] fun _ _ _ q=>q
 | y::ys,ws,b,m,o,hs,h0,hb,hf,h=>by
  have hlen:(ws++y::ys).length<=13:=hs.length_le
  simp at hlen hb;obtain⟨K,hK⟩:∃ K,K=dR (gN 0) (bL (aF cR (aT 2 cU (aB (aA 1) (aB (aE (.int 3)) aG))) (aE (.int 0)))) (aA 0) (ys.map fun z=>.dat (.str z)):=⟨_,rfl⟩;simp only[au,dR];rw[<- hK];simp;refine iO #[1] #[1] hL #[0] hf fun s m4 s0 s1 hf4 hk4=>?_
  have e:b+1+(ys.length:Int)=b+((y::ys).length:Int):=by simp;omega
  have nx:∀ ws2:List Str,(ws2++ys).Sublist bK->∀ o',K (ws2.map .str) [o',some (.cel a)] m4 Q:=fun ws2 h2 o'=>by
   rw[hK];refine Rb hL ys ws2 (b+1) m4 o' h2 #[0] #[0] hf4 fun ws' m' q1 q2 q3=>h ws' m' q1 (by rw[<- e];exact q2) fun c x hc hx=>q3 c x hc (hk4 c x hc hx)
  have t0:=nx ws (((List.Sublist.refl ws).append (List.sublist_cons_self y ys)).trans hs)
  have t1:=nx (ws++[y]) #[4,hs]
  simp[PyData.canLay0,PyData.depth]at t1 ⊢
  cases (PyData.int s).eqv (PyData.int 0) with
  | false=>exact .inl ⟨rfl,t0 _⟩
  | true=>exact .inr ⟨rfl,aj #[0] (sz (n:=100) #[1]),t1 _⟩
theorem D1{k l:Bool}{m:Mu}{R:DK}(h:∀ zs:List Str,zs.Sublist bK->R (.dat (.list (zs.map .str))) m):mT [.dat (.str (kd k)),.dat (.str (kd l))] m R:=⟨k,l,rfl,h⟩
theorem Th:∀ ds m R,ds.length=Av.length->xC ds m R->uI (EN R) (bN Dm ds) m:=by
 rintro ds m R hl ⟨rfl,h⟩;simp[uI,Ch,sz];exact h
theorem FO:bK.Nodup:=by decide +kernel
theorem N9{α:Type}[DecidableEq α]{ws l:List α}(h:ws.Sublist l)(hn:l.Nodup):l.filter (fun z=>decide (z∈ws))=ws:=by
 induction h with
 | slnil=>rfl
 | cons a h ih =>
  rename_i ws l;obtain⟨n1,n2⟩:=List.nodup_cons.mp hn;have:a∉ws:=fun z=>n1 (h.subset z)
  rw[List.filter_cons_of_neg #[4,this]]
  exact ih n2
 | cons_cons a h ih =>
  rename_i ws l;obtain⟨n1,n2⟩:=List.nodup_cons.mp hn;rw[List.filter_cons_of_pos #[2]]
  congr 1
  rw[<- ih n2];refine List.filter_congr fun x hx=>?_;have:x≠a:=by rintro rfl;exact n1 hx
  rw[ih n2];simp[this]
theorem Kp.refl{m:Mu}:Kp m m:=fun _ _=>rfl
theorem Kp.trans{m m1 m2:Mu}(h:Kp m m1)(q:Kp m1 m2):Kp m m2:=fun c hc=>by rw[q c (by rw[h c hc];exact hc),h c hc]
theorem Kp.new{m m1:Mu}{c:Addr}{x:Cel}(h:Kp m m1)(hc:m1 c=none):Kp m (aW m1 c x):=fun e he=>by
 have ne:e≠c:=by
  rintro rfl;have:=h e he
  rw[hc]at this;rw[<- this]at he
  cases he
 rw[cE ne];exact h e he
theorem Kp.none{m m1:Mu}{c:Addr}(h:Kp m m1)(hc:m1 c=.none):m c=.none:=by
 cases e:m c with
 | none=>rfl
 | some x =>
  have:=h c (by rw[e];rfl)
  rw[hc,e]at this
  cases this
theorem Kp.get{m m1:Mu}{c:Addr}{x:Cel}(h:Kp m m1)(hc:m c=some x):m1 c=some x:=by rw[h c (by rw[hc];rfl)];exact hc
theorem Fed.kp{b n:Int}{m0 m m':Mu}{a:Addr}(h:Fed b n m0 m a)(k:Kp m m'):Fed b n m0 m' a:=by
 obtain⟨⟨ns,i,j,q1,q⟩,h2⟩:=h;refine⟨⟨ns,i,j,k.get q1,q⟩,fun c hc hs=>?_⟩;have:=h2 c hc hs
 rw[k c (by rw[this];exact hs)]
 exact this
theorem Kp.upd{m m1:Mu}{c:Addr}{x:Cel}(h:Kp m m1)(hc:m c=.none):Kp m (aW m1 c x):=fun e he=>by
 have ne:e≠c:=by
  rintro rfl;rw[hc]at he
  cases he
 rw[cE ne];exact h e he
theorem Pz:∀ z∈bK,bT (bK.map PyData.str) (12-(bK.idxOf z:Int))=some (.str (tn z)):=by
 intro z hz;have h1:bK.idxOf z<bK.length:=List.idxOf_lt_length_iff.mpr hz
 have h2:bK.length=13:=rfl
 obtain⟨k,hk⟩:∃ k,bK.idxOf z=k:=⟨_,rfl⟩;rw[h2,hk]at h1;unfold tn;rw[hk,show(12:Int)-(k:Int)=((12-k:Nat):Int) by omega]
 refine iD ?_;rw[List.getElem?_map,List.getD_eq_getElem?_getD,List.getElem?_eq_getElem #[0]]
 rfl
theorem O8:∀ ds m R,ds.length=Aw.length->wQ ds m R->yK (EN R) (bN Mf ds) m:=by
 rintro ds m R hl ⟨z,rfl,hz,h⟩;have q:=Pz z hz
 unfold yK;simp only[aI,bG,aF,aE,fD,oN,aA,bN];refine⟨_,rfl,z,rfl,hz,?_⟩;exact⟨_,q,h⟩
theorem GD:∀ ds m R,ds.length=Pj.length->tJ ds m R->xJ (EN R) (bN Ao ds) m:=by
 rintro ds m R hl ⟨zs,rfl,hz,hn,h⟩;unfold xJ;simp only[aI,bG,bD,aB,aG,cW,rA,aA,bN];refine⟨_,rfl,_,rfl,?_⟩;refine fT (fun rest acc d m'=>m'=m/\(∃ o,d=[o])/\∃ done todo,zs.reverse=done++todo/\rest=todo.map (fun z=>.dat (.str z))/\acc=(done.map tn).map .str) ?_ ?_ _ _ _ _ ⟨rfl,⟨none,rfl⟩,[],zs.reverse,rfl,by rw[<- List.map_reverse,List.map_map];rfl,rfl⟩
 ·rintro acc d m' ⟨rfl,_,done,todo,e1,e2,rfl⟩;have e3:todo=[]:=by simpa using e2.symm
  subst e3;rw[List.append_nil]at e1;simp only[dU];rw[<- e1];exact h
 ·rintro x xs acc d m' k ⟨rfl,⟨o,rfl⟩,done,todo,e1,e2,rfl⟩ hk
  cases todo with
  | nil=>simp at e2
  | cons z todo =>
   obtain⟨rfl,rfl⟩:=List.cons.inj e2;have hzz:z∈zs:=by
    rw[<- List.mem_reverse,e1];simp
   have hln:done.length<100:=by
    have:=congrArg List.length e1
    simp at this;omega
   simp only[gN,cX,if_true,aT,aB,aG,aA];refine⟨_,rfl,rfl,z,rfl,hz z hzz,_,rfl,by rw[av,av];exact aj hln (sz #[1]),hk _ _ _ ⟨rfl,⟨_,rfl⟩,done++[z],todo,by rw[e1];simp,rfl,by simp⟩⟩
theorem G5:∀ ds m R,ds.length=Qw.length->nE ds m R->sG (EN R) (bN Jc ds) m:=by
 rintro ds m R hl ⟨ts,rfl,hn,h⟩;simp[sG,bP];refine fT (fun rest acc d m'=>m'=m/\(∃ o1 o2,d=[o1,o2])/\∃ done todo,ts=done++todo/\rest=todo.map (fun t=>.dat (.tuple [.str t.1,.str (kd t.2)]))/\acc=done.map fun t=>.str t.1) ?_ ?_ _ _ _ _ ⟨rfl,⟨_,_,rfl⟩,[],ts,rfl,by first | rfl | (rw[List.map_map];rfl) | simp,rfl⟩
 ·rintro acc d m1 ⟨rfl,_,done,todo,e1,e2,rfl⟩;have e3:todo=[]:=by simpa using e2.symm
  subst e3;rw[List.append_nil]at e1;subst e1;exact h
 ·rintro x xs acc d m1 k ⟨rfl,⟨o1,o2,rfl⟩,done,todo,e1,e2,rfl⟩ hk
  cases todo with
  | nil=>simp at e2
  | cons t todo =>
   obtain⟨rfl,rfl⟩:=List.cons.inj e2;have hln:done.length<7:=by
    have:=congrArg List.length e1
    simp at this;omega
   simp;exact⟨aj hln (sz (n:=7) #[1]),hk _ _ _ ⟨rfl,⟨_,_,rfl⟩,done++[t],todo,by rw[e1];simp,rfl,by simp⟩⟩
theorem Sm:∀ ds m R,ds.length=Cw.length->sT ds m R->vG (EN R) (bN Jk ds) m:=by
 rintro ds m R hl ⟨ts,ps,z,p,rfl,hn,hz,hp,h⟩;simp[vG];refine⟨ts,rfl,hn,?_⟩;refine⟨ts.map (·.1),.inr #[2],hz,?_⟩
 exact⟨p,iD hp,h⟩
theorem oZ{xs:List PyData}{n:Nat}(h:n<=xs.length):cP xs (some (n:Int)) none=xs.drop n:=by
 unfold cP;have e1:HT.sIx xs.length 0 (some (n:Int))=n:=by
  have q:¬ ((n:Int)<0):=by omega
  simp[HT.sIx,q];exact Nat.min_eq_left h
 have e2:HT.sIx xs.length xs.length none=xs.length:=rfl
 rw[e1,e2];exact List.take_of_length_le (by rw[List.length_drop];omega)
abbrev Oj(z:Str×Str):PyData:=.tuple [.str z.1,.str z.2]
theorem Dy{i:D}{a:Str}{N:Option D}{m:Mu}{Q:List PyData->bI->Mu->Prop}:∀ (rest:List Str) (acc:List PyData) (o:Option D),acc.length+rest.length<=100->(∀ o,Q (acc++(rest.map fun k=>(a,k)).map Oj) [some i,some (.dat (.str a)),o,N] m) ->
  cH (DL.stepI (gN 2) cX (bQ (aB (aA 1) (aB (aA 2) aG)))) ((rest.map PyData.str).map .dat) acc [some i,some (.dat (.str a)),o,N] m Q
 | [],acc,o,_,h=>by simpa[cH] using h o
 | b::rest,acc,o,hl,h=>by
  rw[List.length_cons]at hl;have ih:=Dy (i:=i) (a:=a) (N:=N) (m:=m) (Q:=Q) rest
  obtain⟨K,hK⟩:∃ K,K=cH (DL.stepI (gN 2) cX (bQ (aB (aA 1) (aB (aA 2) aG)))) ((rest.map PyData.str).map .dat):=⟨_,rfl⟩;rw[<- hK]at ih;simp only[au,cH];rw[<- hK];have hz:acc.length<sizeLine:=aj (show acc.length<1000 by omega) (sz #[1])
  simp[DL.stepI,sz,hz];refine ih _ _ (by simp;omega) fun o'=>?_
  have:=h o'
  simpa using this
theorem Qp{N:List Str}{m:Mu}{Q:List PyData->bI->Mu->Prop}(hN:N.length<=6):∀ (todo done:List Str) (acc:List PyData) (o0 o1 o2:Option D),N=done++todo->acc.length+6*todo.length<=36->(∀ d,Q (acc++(bO todo).map Oj) d m) ->
  cH (fY (gT 2 (bC (gN 0) (bC (gN 1) cG))) cX (cJ (dG (aA 3) (cY (aF cF (aA 0) (aE (.int 1)))) fH)) (DL.stepI (gN 2) cX (bQ (aB (aA 1) (aB (aA 2) aG))))) ((todo.zipIdx done.length).map fun z=>.dat (.tuple [.int z.2,.str z.1])) acc [o0,o1,o2,some (.dat (.list (N.map .str)))] m Q
 | [],done,acc,o0,o1,o2,_,_,h=>by simpa[cH,bO] using h _
 | a::todo,done,acc,o0,o1,o2,e,hl,h=>by
  rw[List.length_cons]at hl;have ih:=fun acc o0 o1 o2 h1 h2=>Qp (N:=N) (m:=m) (Q:=Q) hN todo (done++[a]) acc o0 o1 o2 (by rw[e];simp) h1 h2
  rw[List.length_append,List.length_singleton]at ih;simp only[List.zipIdx_cons,au,cH];obtain⟨K,hK⟩:∃ K,K=cH (fY (gT 2 (bC (gN 0) (bC (gN 1) cG))) cX (cJ (dG (aA 3) (cY (aF cF (aA 0) (aE (.int 1)))) fH)) (DL.stepI (gN 2) cX (bQ (aB (aA 1) (aB (aA 2) aG))))) ((todo.zipIdx (done.length+1)).map fun z=>.dat (.tuple [.int z.2,.str z.1])):=⟨_,rfl⟩;rw[<- hK]at ih ⊢;have ln:N.length=done.length+(todo.length+1):=by rw[e];simp
  have ec:cP (N.map PyData.str) (some ((done.length:Int)+1)) none=todo.map .str:=by
   rw[show((done.length:Int)+1)=((done.length+1:Nat):Int) by omega,oZ (by rw[av];omega),<- List.map_drop]
   congr 1
   rw[e,show done++a::todo=(done++[a])++todo by simp,List.drop_left' #[2]]
  simp[fY,ec];have e2:List.map (D.dat∘PyData.str) todo=(todo.map PyData.str).map .dat:=by rw[List.map_map]
  rw[e2];refine Dy todo acc o2 #[0] fun o=>?_
  refine ih _ _ _ _ (by simp;omega) fun d=>?_
  have:=h d
  simpa[bO] using this
theorem Ym:∀ ds m R,ds.length=Ma.length->tW ds m R->vQ (EN R) (bN Dn ds) m:=by
 rintro ds m R hl ⟨ts,rfl,hn,h⟩;simp[vQ];refine⟨ts,rfl,hn,?_⟩;simp[Bh,bP,kZ];have q:=Qp (N:=ts.map (·.1)) (m:=m) (Q:=fun ps _ m2=>R (.dat (.list ps)) m2) #[4,hn] (ts.map (·.1)) [] [] none none none rfl (by simp;omega) (fun d=>by simpa using h)
 simpa[List.zipIdx_map,Function.comp_def] using q
theorem B0:∀ z∈eQ,PyData.strOk z=true:=by decide +kernel
theorem rL{z:Str}(h:nV z):PyData.strOk z=true:=B0 z h
theorem Wt:∀ ds m R,ds.length=zD.length->tR ds m R->rS (EN R) (bN Br ds) m:=by
 rintro ds m R hl ⟨p,rs,x,y,rfl,ok,gx,gy,h⟩;have o1:=rL gx
 have o2:=rL gy
 simp only[rS,aI,dQ,cJ,aA,bN];refine⟨_,rfl,.inr ⟨_,rfl,?_⟩⟩;have lp:∀ (todo:List dO) (o4 o5 o6:Option D),(∀ r∈todo,tM r)->R (.dat (mO x y todo)) m->bW (gT 3 (bC (gN 4) (bC (gN 5) (bC (gN 6) cG)))) oO {nx:=uN (EN R),rt:=R} ((todo.map iC).map .dat) [some (.dat p),some (.dat (TB rs)),some (.dat (.str x)),some (.dat (.str y)),o4,o5,o6] m:=by
  intro todo
  induction todo with
  | nil =>
   intro o4 o5 o6 _ h;simp[bW,uN];exact h
  | cons r todo ih =>
   intro o4 o5 o6 ok h;have ih:=fun o4 o5 o6=>ih o4 o5 o6 (fun s hs=>ok s (aq _ hs))
   obtain⟨g1,g2,g3,g4⟩:=ok r List.mem_cons_self;have o3:=rL g1
   have o4':=rL g2
   simp only[au,bW]
   generalize hG:bW _ oO _ ((todo.map _).map .dat)=G at ih ⊢
   simp only[mO]at h;simp[oO,PyData.canLay0,PyData.canLayAll0,PyData.depth,PyData.depthAll,o1,o2,o3,o4',sz,PyData.eqvAll,PyData.eqv]
   split
   ·rename_i c;rw[if_pos c]at h;exact h
   ·rename_i c;rw[if_neg c]at h;simp[Of,PyData.canLay0,PyData.canLayAll0,PyData.depth,PyData.depthAll,o1,o2,o3,o4',sz,PyData.eqvAll,PyData.eqv]
    split
    ·rename_i c2;rw[if_pos c2]at h;exact⟨r.2.2,rfl,g4,by omega,h⟩
    ·rename_i c2;rw[if_neg c2]at h;exact ih _ _ _ h
 exact lp rs none none none ok h
theorem Zi{lo:Int}{n i:Nat}(h:i<n):(dD lo n).drop i=I (lo+(i:Int))::(dD lo n).drop (i+1):=by
 unfold dD;rw[List.drop_eq_getElem_cons #[4,h]]
 congr 1
 rw[List.getElem_map,List.getElem_range]
theorem Rs{g:DG}{b:DS}{E:Ends2}{lo:Int}{n:Nat}(J:Nat->bI->Mu->Prop)(hd:∀ d m,J n d m->E.nx d m)
  (step:∀ i,i<n->∀ (k:bI->Mu->Prop),(∀ d m,J (i+1) d m->k d m)->∀ d m,J i d m->g (I (lo+(i:Int))) d m fun d' m'=>b {E with nx:=k,ct:=k,bk:=E.nx} d' m'):∀ d m,J 0 d m->bW g b E (dD lo n) d m:=by
 have key:∀ (r i:Nat),r+i=n->∀ d m,J i d m->bW g b E ((dD lo n).drop i) d m:=by
  intro r
  induction r with
  | zero =>
   intro i hi d m hj;have:i=n:=by omega
   subst this;rw[show(dD lo i).drop i=[] by rw[List.drop_eq_nil_iff];unfold dD;simp]
   exact hd d m hj
  | succ r ih =>
   intro i hi d m hj;rw[Zi #[0]]
   exact step i #[0] _ (ih (i+1) #[0]) d m hj
 intro d m h;have:=key n 0 #[0] d m h
 simpa using this
theorem Cs{ts:List (Str×Bool)}{i:Nat}(h:i<ts.length):bT (ts.map fun t=>PyData.tuple [.str t.1,.str (kd t.2)]) (i:Int)=some (.tuple [.str ts[i].1,.str (kd ts[i].2)]):=xM h
theorem No{N:List Str}{i:Nat}(h:i<N.length):bO (N.drop i)=(N.drop (i+1)).map (fun k=>(N[i],k))++bO (N.drop (i+1)):=by
 rw[List.drop_eq_getElem_cons h];rfl
theorem oE:∀ N:List Str,(bO N).length<=N.length*N.length
 | []=>by simp[bO]
 | n::ns=>by
  have:=oE ns
  simp only[bO,List.length_append,av,List.length_cons];have e:(ns.length+1)*(ns.length+1)=ns.length*ns.length+2*ns.length+1:=by
   rw[Nat.mul_add,Nat.add_mul];omega
  omega
theorem BV:∀ ds m R,ds.length=Ab.length->tP ds m R->tX (EN R) (bN Gk ds) m:=by
 rintro ds m R hl ⟨a,ts,L,rfl,hN,hL,hT,h⟩;have hf:=Fed.refl hT
 have h6:=hN.2.1
 obtain⟨N,eN⟩:∃ N,N=ts.map (·.1):=⟨_,rfl⟩;have lN:N.length=ts.length:=by rw[eN];simp
 simp[tX];intro c hc;obtain⟨nc,hc0⟩:=hf.new hc;simp[Bp];refine⟨by omega,?_⟩
 refine lY (n:=ts.length) (fun i d m'=>∃ (rs:List dO) (o3 o4 o5:Option D),d=[some (.cel a),some (.dat (TH ts)),some (.cel c),o3,o4,o5]/\m' c=some (.l (rs.map iC))/\rs.map key++bO (N.drop i)=bO N/\rs.length<=6*i/\(∀ r∈rs,r.2.2.Sublist bK)/\∃ b:Int,0<=b/\b<=80*(i:Int)/\Fed b L m m' a) ?_ ?_ _ _ ⟨[],_,_,_,rfl,by rw[bM];rfl,by simp,by simp,by simp,0,by decide,by simp,hf.upd nc hc0⟩
 ·rintro d m2 ⟨rs,o3,o4,o5,rfl,q1,qk,q2,q3,b,b0,b1,hf2⟩;simp[Gz,q1];refine h rs m2 ⟨?_,q3⟩ (hf2.mono #[0])
  rw[List.drop_of_length_le #[0]]at qk
  rw[<- eN];simpa[bO] using qk
 ·rintro i hi k hk d m2 ⟨rs0,o3,o4,o5,rfl,q1,qk,q2,q3,b,b0,b1,hf2⟩;simp[Rt];refine⟨⟨by omega,by omega,by omega⟩,?_⟩
  have en:((ts.length:Int)-((i:Int)+1)).toNat=ts.length-(i+1):=by omega
  rw[en];have hiN:i<N.length:=by omega
  rw[No hiN]at qk;refine Rs (fun j d m'=>∃ (rs:List dO) (o4 o5:Option D),d=[some (.cel a),some (.dat (TH ts)),some (.cel c),some (I (i:Int)),o4,o5]/\m' c=some (.l (rs.map iC))/\rs.map key++((N.drop (i+1+j)).map (fun k=>(N[i],k))++bO (N.drop (i+1)))=bO N/\rs.length<=6*i+j/\(∀ r∈rs,r.2.2.Sublist bK)/\∃ b:Int,0<=b/\b<=80*(i:Int)+13*(j:Int)/\Fed b L m m' a) ?_ ?_ _ _ ⟨rs0,_,_,rfl,q1,qk,by omega,q3,b,b0,by omega,hf2⟩
  ·rintro d m3 ⟨rs,o4,o5,rfl,r1,rk,r2,r4,b',b0',b1',hf3⟩;refine hk _ _ ⟨rs,_,_,_,rfl,r1,?_,by omega,r4,b',b0',by push_cast;omega,hf3⟩
   rw[List.drop_of_length_le (show N.length<=i+1+(ts.length-(i+1)) by omega)]at rk
   simpa using rk
  ·rintro j hj k2 hk2 d m3 ⟨rs,o4,o5,rfl,r1,rk,r2,r4,b',b0',b1',hf3⟩;have et:=Cs (ts:=ts) (i:=i) hi
   have hy:i+1+j<ts.length:=by omega
   have eu:=Cs (ts:=ts) (i:=i+1+j) hy
   have ey:((i:Int)+1+(j:Int))=((i+1+j:Nat):Int):=by omega
   rw[ey];simp[Il,bP];refine⟨_,et,?_⟩;simp;rw[show((i:Int)+1+(j:Int))=((i+1+j:Nat):Int) by omega]
   refine⟨_,eu,?_⟩;simp;refine D1 fun zs hzs=>?_;have hz1:zs.length<=13:=hzs.length_le
   simp[Function.comp_def];refine Rb (L:=L) (m0:=m) #[0] zs [] b' m3 none #[4,hzs] b0' #[0] hf3 fun ws m4 hw hf4 hk4=>?_
   have hm4:=hk4 c _ nc r1
   have hz:rs.length<sizeLine:=aj #[0] (sz (n:=100) #[1])
   simp[Pp,hm4];refine⟨_,et,?_⟩;simp;rw[show((i:Int)+1+(j:Int))=((i+1+j:Nat):Int) by omega]
   refine⟨_,eu,?_⟩;simp[sz,hm4,hz];refine hk2 _ _ ⟨rs++[(ts[i].1,ts[i+1+j].1,ws)],_,_,rfl,by rw[bM];simp,?_,by simp;omega,fun r hr=>by
    rcases List.mem_append.mp hr with hr | hr
    ·exact r4 r hr
    ·have:r=(ts[i].1,ts[i+1+j].1,ws):=by simpa using hr
     rw[this];exact hw,b'+zs.length,by omega,by push_cast;omega,hf4.upd nc hc0⟩
   rw[List.drop_eq_getElem_cons (show i+1+j<N.length by omega)]at rk
   have e1:N[i]=ts[i].1:=by simp[eN]
   have e2:N[i+1+j]=ts[i+1+j].1:=by simp[eN]
   rw[<- rk];rw[List.map_append,List.append_assoc];simp only[au,List.map_nil,List.cons_append,List.nil_append,key];rw[e1,e2];rfl
theorem b6{a b:Str}(h:lI a b)(g:lI b a):False:=List.lt_irrefl _ (List.lt_trans h g)
theorem Bk{α β:Type}{f:α->β}{l:List α}(h:(l.map f).Nodup):∀ {a b:α},a∈l->b∈l->f a=f b->a=b:=by
 induction l with
 | nil=>intro a b ha;cases ha
 | cons x l ih =>
  simp only[au,List.nodup_cons]at h;intro a b ha hb e;rcases List.mem_cons.mp ha with ea | ha'<;>rcases List.mem_cons.mp hb with eb | hb'
  ·rw[ea,eb]
  ·exact absurd (List.mem_map.mpr ⟨b,hb',by rw[<- e,ea]⟩) h.1
  ·exact absurd (List.mem_map.mpr ⟨a,ha',by rw[e,eb]⟩) h.1
  ·exact ih h.2 ha' hb' e
theorem vF{zs:List (Str×Str)}{x:Str}(h:x∈zs.map (·.1)):(x,rn zs x)∈zs:=by
 unfold rn
 cases e:zs.find? fun z=>decide (z.1=x) with
 | none =>
  obtain⟨z,hz,rfl⟩:=List.mem_map.mp h;have:=List.find?_eq_none.mp e z hz
  simp at this
 | some z =>
  have h1:=List.mem_of_find?_eq_some e
  have h2:z.1=x:=by simpa using List.find?_some e
  subst h2;exact h1
theorem sZ{zs:List (Str×Str)}(nk:(zs.map (·.1)).Nodup){z:Str×Str}(hz:z∈zs):rn zs z.1=z.2:=by
 have h:=vF (List.mem_map.mpr ⟨z,hz,rfl⟩:z.1∈zs.map (·.1))
 exact congrArg Prod.snd (Bk nk h hz rfl)
theorem eU{x:Str}:∀ {zs:List (Str×Str)},x∈zs.map (·.1)->fW (zs.map dC) (.str x)=some (.str (rn zs x))
 | [],h=>by simp at h
 | z::zs,h=>by
  rw[au,nK];unfold rn
  by_cases e:z.1=x
  ·rw[if_pos (by simp[e]),List.find?_cons_of_pos #[4,e]]
   rfl
  ·have h:x∈zs.map (·.1):=by
    simp only[au,List.mem_cons]at h;exact h.resolve_left (fun q=>e q.symm)
   rw[if_neg (by simp[e]),List.find?_cons_of_neg #[4,e]]
   exact eU h
theorem oA(zs:List (Str×Str)):(bk zs).map (·.1)=zs.map (·.2):=by unfold bk;rw[List.map_map];rfl
theorem Yx(zs:List (Str×Str)):(bk zs).map (·.2)=zs.map (·.1):=by unfold bk;rw[List.map_map];rfl
theorem Oy(zs:List (Str×Str)):bk (bk zs)=zs:=by unfold bk;rw[List.map_map];simp[Function.comp_def]
section
variable {ts ts':List (Str×Bool)}{zs:List (Str×Str)}{x:Str}
theorem Zn.in(z:Zn ts zs)(h:x∈ts.map (·.1)):x∈zs.map (·.1):=z.keys.mem_iff.mpr h
theorem Zn.rnN(z:Zn ts zs)(h:x∈ts.map (·.1)):rn zs x∈eQ:=(z.inN _ (vF (z.in h))).2
theorem Zn.back(z:Zn ts zs)(h:x∈ts.map (·.1)):rn (bk zs) (rn zs x)=x:=by
 have h1:=vF (z.in h)
 have nv:((bk zs).map (·.1)).Nodup:=by rw[oA];exact z.nv
 exact sZ nv (z:=(rn zs x,x)) (List.mem_map.mpr ⟨_,h1,rfl⟩)
theorem Zn.inj(z:Zn ts zs){y:Str}(hx:x∈ts.map (·.1))(hy:y∈ts.map (·.1))(e:rn zs x=rn zs y):x=y:=by
 rw[<- z.back hx,<- z.back hy,e]
theorem Am(ts:List (Str×Bool)):lA (ts.map (·.1))↔ts.Pairwise fun a b=>lI a.1 b.1:=List.pairwise_map
theorem RT.uniq{a b:List (Str×Bool)}(h:RT zs ts a)(g:RT zs ts b):a=b :=
 List.Perm.eq_of_pairwise (le:=fun a b=>lI a.1 b.1) (fun x y _ _ p q=>(b6 p q).elim) ((Am a).mp h.2) ((Am b).mp g.2) (h.1.trans g.1.symm)
theorem RT.names(h:RT zs ts ts'):(ts'.map (·.1)).Perm ((ts.map (·.1)).map (rn zs)):=by
 have:=h.1.map (·.1)
 rw[List.map_map]at this;rw[List.map_map];exact this
theorem RT.mem(h:RT zs ts ts'){k:Bool}:(rn zs x,k)∈ts' ↔ ∃ t∈ts,rn zs t.1=rn zs x/\t.2=k:=by
 rw[h.1.mem_iff,List.mem_map]
 constructor
 ·rintro⟨t,ht,e⟩;exact⟨t,ht,(Prod.mk.inj e).1,(Prod.mk.inj e).2⟩
 ·rintro⟨t,ht,e1,e2⟩;exact⟨t,ht,Prod.ext e1 e2⟩
theorem RT.in(h:RT zs ts ts')(hx:x∈ts.map (·.1)):rn zs x∈ts'.map (·.1):=h.names.mem_iff.mpr (List.mem_map.mpr ⟨x,hx,rfl⟩)
theorem RT.out(h:RT zs ts ts')(hx:x∈ts'.map (·.1)):∃ y∈ts.map (·.1),rn zs y=x:=List.mem_map.mp (h.names.mem_iff.mp hx)
theorem RT.nm(hN:Nm ts)(z:Zn ts zs)(h:RT zs ts ts'):Nm ts':=by
 have hl:=h.1.length_eq
 rw[av]at hl;refine⟨by rw[hl];exact hN.1,by rw[hl];exact hN.2.1,fun t ht=>?_,h.2⟩
 obtain⟨y,hy,e⟩:=h.out (List.mem_map.mpr ⟨t,ht,rfl⟩);rw[<- e];exact z.rnN hy
theorem Pl{zs:List (Str×Str)}(nk:(zs.map (·.1)).Nodup):(zs.map (·.1)).map (rn zs)=zs.map (·.2):=by
 rw[List.map_map];exact List.map_congr_left fun z hz=>sZ nk hz
theorem Zn.bk(hN:Nm ts)(z:Zn ts zs)(h:RT zs ts ts'):Zn ts' (K83.bk zs):=by
 refine⟨fun e=>z.ne (by simpa[K83.bk] using e),by unfold K83.bk;rw[av];exact z.len,?_,by rw[oA];exact z.nv,by rw[Yx];exact z.nk,fun y hy=>?_⟩
 ·rw[oA,<- Pl z.nk];exact(z.keys.map _).trans h.names.symm
 ·obtain⟨w,hw,rfl⟩:=List.mem_map.mp hy;exact⟨(z.inN w hw).2,(z.inN w hw).1⟩
theorem RT.bk(hN:Nm ts)(z:Zn ts zs)(h:RT zs ts ts'):RT (K83.bk zs) ts' ts:=by
 refine⟨?_,hN.2.2.2⟩;have h1:=h.1.map (fun t=>(rn (K83.bk zs) t.1,t.2))
 rw[List.map_map]at h1;have e:ts.map ((fun t:Str×Bool=>(rn (K83.bk zs) t.1,t.2))∘fun t=>(rn zs t.1,t.2))=ts:=by
  have:ts.map ((fun t:Str×Bool=>(rn (K83.bk zs) t.1,t.2))∘fun t=>(rn zs t.1,t.2))=ts.map id:=List.map_congr_left fun t ht=>by
   show(rn (K83.bk zs) (rn zs t.1),t.2)=t
   rw[z.back (List.mem_map.mpr ⟨t,ht,rfl⟩)]
  rw[this,List.map_id]
 rw[e]at h1;exact h1.symm
theorem qN(nd:(ts.map (·.1)).Nodup){t:Str×Bool}(ht:t∈ts):dJ ts t.1=t.2:=by
 unfold dJ
 cases e:ts.find? fun u=>decide (u.1=t.1) with
 | none =>
  have:=List.find?_eq_none.mp e t ht
  simp at this
 | some u =>
  have h1:=List.mem_of_find?_eq_some e
  have h2:u.1=t.1:=by simpa using List.find?_some e
  rw[Bk nd h1 ht h2];rfl
theorem zG(h:x∈ts.map (·.1))(nd:(ts.map (·.1)).Nodup):(x,dJ ts x)∈ts:=by
 obtain⟨t,ht,rfl⟩:=List.mem_map.mp h;rw[qN nd ht];exact ht
theorem Nm.nd(hN:Nm ts):(ts.map (·.1)).Nodup:=xL hN.2.2.2
theorem R9(hN:Nm ts)(z:Zn ts zs)(h:RT zs ts ts')(hx:x∈ts.map (·.1)):dJ ts' (rn zs x)=dJ ts x:=by
 have m:(rn zs x,dJ ts x)∈ts':=h.mem.mpr ⟨_,zG hx hN.nd,rfl,rfl⟩
 exact qN (xL h.2) m
theorem Yj{g:Str->PyData}(h:x∈ts.map (·.1)):dE ts (ts.map fun t=>g t.1) x=g x:=by
 unfold dE;have h1:=List.idxOf_lt_length_iff.mpr h
 have h2:(ts.map (·.1)).idxOf x<ts.length:=by simpa using h1
 have h3:=List.getElem_idxOf h1
 rw[List.getD_eq_getElem?_getD,List.getElem?_map,List.getElem?_eq_getElem h2];rw[List.getElem_map]at h3;show g (ts[(ts.map (·.1)).idxOf x]).1=g x
 rw[h3]
theorem L7{l:List Str}(nd:l.Nodup){i:Nat}(h:i<l.length):l.idxOf l[i]=i:=by
 have h1:l.idxOf l[i]<l.length:=List.idxOf_lt_length_iff.mpr (List.getElem_mem h)
 have h2:=List.getElem_idxOf h1
 have nd:=List.pairwise_iff_getElem.mp nd
 rcases Nat.lt_trichotomy (l.idxOf l[i]) i with c | c | c
 ·exact absurd h2 (nd _ _ h1 h c)
 ·exact c
 ·exact absurd h2.symm (nd _ _ h h1 c)
theorem T8{ps:List PyData}(nd:(ts.map (·.1)).Nodup)(hl:ps.length=ts.length):(ts.map fun t=>dE ts ps t.1)=ps:=by
 refine List.ext_getElem (by simp[hl]) fun i h1 h2=>?_
 have hi:i<ts.length:=by simpa using h1
 rw[List.getElem_map];unfold dE;have e:(ts.map (·.1))[i]'#[4,hi]=ts[i].1:=by rw[List.getElem_map]
 rw[<- e,L7 nd #[4,hi],List.getD_eq_getElem?_getD,List.getElem?_eq_getElem h2]
 rfl
theorem Jd{ps:List PyData}(z:Zn ts zs)(h:RT zs ts ts')(hx:x∈ts.map (·.1)):dE ts' (fG zs ts ts' ps) (rn zs x)=dE ts ps x:=by
 unfold fG;rw[Yj (g:=fun y=>dE ts ps (rn (bk zs) y)) (h.in hx)];show dE ts ps (rn (bk zs) (rn zs x))=_
 rw[z.back hx]
theorem P9{ps:List PyData}(hN:Nm ts)(z:Zn ts zs)(h:RT zs ts ts')(hl:ps.length=ts.length):fG (bk zs) ts' ts (fG zs ts ts' ps)=ps:=by
 have:fG (bk zs) ts' ts (fG zs ts ts' ps)=ts.map fun t=>dE ts ps t.1:=by
  unfold fG;refine List.map_congr_left fun t ht=>?_;rw[Oy];exact Jd z h (List.mem_map.mpr ⟨t,ht,rfl⟩)
 rw[this,T8 hN.nd hl]
theorem Mc{g:Str×Bool->PyData}:∀ {us:List (Str×Bool)},(∀ t∈us,Tm t.2 (g t))->TmAll us (us.map g)
 | [],_=>trivial
 | t::us,h=>⟨h t List.mem_cons_self,Mc fun u hu=>h u (aq _ hu)⟩
theorem Zr{ps:List PyData}(hN:Nm ts)(z:Zn ts zs)(h:RT zs ts ts')(hp:TmAll ts ps):TmAll ts' (fG zs ts ts' ps):=by
 unfold fG;refine Mc fun t ht=>?_;have h1:=h.1.mem_iff.mp ht
 obtain⟨u,hu,rfl⟩:=List.mem_map.mp h1;have hx:u.1∈ts.map (·.1):=List.mem_map.mpr ⟨u,hu,rfl⟩
 show Tm u.2 (dE ts ps (rn (bk zs) (rn zs u.1)))
 rw[z.back hx,<- qN hN.nd hu];exact(kK hp hx).2
theorem iR{e:Str×Int}(h:e∈iG ts):e.1∈ts.map (·.1):=by
 obtain⟨⟨t,ht,q⟩,_⟩:=nJ h;rw[q];exact List.mem_map.mpr ⟨t,ht,rfl⟩
theorem El{e:Str×Int}(h:RT zs ts ts')(he:e∈iG ts):(rn zs e.1,e.2)∈iG ts':=by
 obtain⟨t,ht,q⟩:=List.mem_flatMap.mp he;refine List.mem_flatMap.mpr ⟨(rn zs t.1,t.2),h.mem.mpr ⟨t,ht,rfl,rfl⟩,?_⟩;unfold lO at q ⊢
 split at q<;>rename_i c<;>simp[c]at q ⊢
 ·rcases q with rfl | rfl<;>simp
 ·subst q;simp
theorem B2{s:Say}(h:RT zs ts ts')(hs:s.ok ts):(s.ren zs).ok ts':=by
 cases s with
 | may a b ws=>exact⟨h.in hs.1,h.in hs.2.1,hs.2.2⟩
 | gap x y q st=>exact⟨El h hs.1,El h hs.2.1,hs.2.2⟩
theorem CN{s:Say}(z:Zn ts zs)(hs:s.ok ts):(s.ren zs).ren (bk zs)=s:=by
 cases s with
 | may a b ws =>
  show Say.may (rn (bk zs) (rn zs a)) (rn (bk zs) (rn zs b)) ws=_
  rw[z.back hs.1,z.back hs.2.1]
 | gap x y q st =>
  show Say.gap (rn (bk zs) (rn zs x.1),x.2) (rn (bk zs) (rn zs y.1),y.2) q st=_
  rw[z.back (iR hs.1),z.back (iR hs.2.1)]
theorem AA{ps:List PyData}{s:Say}(hN:Nm ts)(z:Zn ts zs)(h:RT zs ts ts')(hs:s.ok ts):fQ (lk ts' (fG zs ts ts' ps)) (s.ren zs)=fQ (lk ts ps) s:=by
 have e:∀ x,x∈ts.map (·.1)->lk ts' (fG zs ts ts' ps) (rn zs x)=lk ts ps x:=fun x hx=>by
  unfold lk;rw[R9 hN z h hx,Jd z h hx]
 cases s with
 | may a b ws=>simp only[Say.ren,fQ,e a hs.1,e b hs.2.1]
 | gap x y q st=>simp only[Say.ren,fQ,e x.1 (iR hs.1),e y.1 (iR hs.2.1)]
end
theorem tE:∀ z∈bK,tn (tn z)=z:=by decide +kernel
theorem t9:bK.reverse.map tn=bK:=by decide +kernel
abbrev gS(ws:List Str):List Str:=ws.reverse.map tn
theorem Mk{ws:List Str}(h:ws.Sublist bK):(gS ws).Sublist bK:=by
 have:=(h.reverse).map tn
 rw[t9]at this;exact this
theorem yU{ws:List Str}(h:ws.Sublist bK):gS (gS ws)=ws:=by
 unfold gS;rw[<- List.map_reverse,List.reverse_reverse,List.map_map];have:ws.map (tn∘tn)=ws.map id:=List.map_congr_left fun z hz=>tE z (h.subset hz)
 rw[this,List.map_id]
theorem Ue{ws:List Str}(h:ws.Sublist bK):bK.filter (fun w=>decide (tn w∈ws))=gS ws:=by
 rw[<- N9 (Mk h) FO];refine List.filter_congr fun w hw=>?_;rw[decide_eq_decide]
 constructor
 ·exact fun q=>List.mem_map.mpr ⟨tn w,List.mem_reverse.mpr q,tE w hw⟩
 ·intro q;obtain⟨z,hz,e⟩:=List.mem_map.mp q;have hz:=List.mem_reverse.mp hz
  rw[<- e,tE z (h.subset hz)];exact hz
theorem gI:∀ {N:List Str} {a b:Str},(a,b)∈bO N->a∈N/\b∈N
 | [],_,_,h=>by simp[bO]at h
 | n::N,a,b,h=>by
  simp only[bO,List.mem_append,List.mem_map]at h;rcases h with⟨k,hk,e⟩ | h
  ·cases e
   exact⟨List.mem_cons_self,aq _ hk⟩
  ·exact⟨aq _ (gI h).1,aq _ (gI h).2⟩
theorem oG:∀ {N:List Str} {a b:Str},a∈N->b∈N->a≠b->(a,b)∈bO N\/(b,a)∈bO N
 | [],_,_,h,_,_=>by cases h
 | n::N,a,b,ha,hb,ne=>by
  simp only[bO,List.mem_append,List.mem_map];rcases List.mem_cons.mp ha with ea | ha'<;>rcases List.mem_cons.mp hb with eb | hb'
  ·exact absurd (ea.trans eb.symm) ne
  ·exact .inl (.inl ⟨b,hb',by rw[ea]⟩)
  ·exact .inr (.inl ⟨a,ha',by rw[eb]⟩)
  ·rcases oG ha' hb' ne with h | h
   ·exact .inl (.inr h)
   ·exact .inr (.inr h)
theorem lJ:∀ {N:List Str} {a b:Str},N.Nodup->(a,b)∈bO N->a≠b/\(b,a)∉bO N
 | [],_,_,_,h=>by simp[bO]at h
 | n::N,a,b,nd,h=>by
  obtain⟨n1,n2⟩:=List.nodup_cons.mp nd;simp only[bO,List.mem_append,List.mem_map]at h ⊢;rcases h with⟨k,hk,e⟩ | h
  ·cases e
   refine⟨fun e=>n1 (e▸hk),?_⟩;rintro (⟨k',hk',e⟩ | q)
   ·cases e
    exact n1 hk
   ·exact n1 (gI q).2
  ·obtain⟨i1,i2⟩:=lJ n2 h;refine⟨i1,?_⟩;rintro (⟨k',hk',e⟩ | q)
   ·cases e
    exact n1 (gI h).2
   ·exact i2 q
theorem Ld:∀ {N:List Str},N.Nodup->(bO N).Nodup
 | [],_=>by simp[bO]
 | n::N,nd=>by
  obtain⟨n1,n2⟩:=List.nodup_cons.mp nd;simp only[bO];rw[List.nodup_append];refine⟨?_,Ld n2,?_⟩
  ·exact List.pairwise_map.mpr (List.Pairwise.imp (fun {a b} q e=>q (Prod.mk.inj e).2) n2)
  ·intro x hx y hy e;obtain⟨k,hk,rfl⟩:=List.mem_map.mp hx;subst e;exact n1 (gI hy).1
theorem jW:∀ {rs:List dO} {r:dO},(rs.map key).Nodup->(∀ q∈rs,∀ u∈rs,¬ (q.1=u.2.1/\q.2.1=u.1))->r∈rs->wt rs r.1 r.2.1=r.2.2/\wt rs r.2.1 r.1=gS r.2.2
 | [],_,_,_,h=>by cases h
 | q::rs,r,nd,ns,h=>by
  simp only[au,List.nodup_cons]at nd;unfold wt
  by_cases e:q=r
  ·subst e;have:=ns q List.mem_cons_self q List.mem_cons_self
   rw[if_pos ⟨rfl,rfl⟩,if_neg this,if_pos ⟨rfl,rfl⟩];exact⟨rfl,rfl⟩
  ·have hr:r∈rs:=(List.mem_cons.mp h).resolve_left (fun z=>e z.symm)
   have k1:¬ (q.1=r.1/\q.2.1=r.2.1):=fun z=>nd.1 (List.mem_map.mpr ⟨r,hr,Prod.ext z.1.symm z.2.symm⟩)
   have k2:=ns q List.mem_cons_self r h
   rw[if_neg k1,if_neg k2,if_neg k2,if_neg k1];exact jW nd.2 (fun a ha b hb=>ns a (aq _ ha) b (aq _ hb)) hr
theorem Mi:∀ {rs:List dO} {x y:Str},(∃ r∈rs,(r.1=x/\r.2.1=y)\/(r.1=y/\r.2.1=x))->mO x y rs=.tuple ((wt rs x y).map .str)
 | [],_,_,⟨_,h,_⟩=>by cases h
 | q::rs,x,y,⟨r,hr,e⟩=>by
  unfold mO wt
  by_cases c1:q.1=x/\q.2.1=y
  ·rw[if_pos c1,if_pos c1]
  ·rw[if_neg c1,if_neg c1]
   by_cases c2:q.1=y/\q.2.1=x
   ·rw[if_pos c2,if_pos c2]
   ·rw[if_neg c2,if_neg c2];refine Mi ⟨r,(List.mem_cons.mp hr).resolve_left ?_,e⟩;rintro rfl;exact e.elim c1 c2
section
variable {ts ts':List (Str×Bool)}{zs:List (Str×Str)}{rs:List dO}
theorem TabOk.nd(hN:Nm ts)(h:TabOk ts rs):(rs.map key).Nodup:=by rw[h.1];exact Ld hN.nd
theorem TabOk.ns(hN:Nm ts)(h:TabOk ts rs):∀ q∈rs,∀ u∈rs,¬ (q.1=u.2.1/\q.2.1=u.1):=fun q hq u hu e=>by
 have h1:(q.1,q.2.1)∈bO (ts.map (·.1)):=by rw[<- h.1];exact List.mem_map.mpr ⟨q,hq,rfl⟩
 have h2:(u.1,u.2.1)∈bO (ts.map (·.1)):=by rw[<- h.1];exact List.mem_map.mpr ⟨u,hu,rfl⟩
 rw[<- e.1,<- e.2]at h2;exact(lJ hN.nd h1).2 h2
theorem TabOk.row(h:TabOk ts rs){a b:Str}(hp:(a,b)∈bO (ts.map (·.1))):∃ r∈rs,r.1=a/\r.2.1=b:=by
 rw[<- h.1]at hp;obtain⟨r,hr,e⟩:=List.mem_map.mp hp;exact⟨r,hr,(Prod.mk.inj e).1,(Prod.mk.inj e).2⟩
theorem TabOk.two(hN:Nm ts)(h:TabOk ts rs){a b:Str}(ha:a∈ts.map (·.1))(hb:b∈ts.map (·.1))(ne:a≠b) :
  (∃ r∈rs,(r.1=a/\r.2.1=b)\/(r.1=b/\r.2.1=a))/\(wt rs a b).Sublist bK/\wt rs b a=gS (wt rs a b):=by
 rcases oG ha hb ne with hp | hp
 ·obtain⟨r,hr,rfl,rfl⟩:=h.row hp;obtain⟨w1,w2⟩:=jW (h.nd hN) (h.ns hN) hr;exact⟨⟨r,hr,.inl ⟨rfl,rfl⟩⟩,by rw[w1];exact h.2 r hr,by rw[w1,w2]⟩
 ·obtain⟨r,hr,rfl,rfl⟩:=h.row hp;obtain⟨w1,w2⟩:=jW (h.nd hN) (h.ns hN) hr;exact⟨⟨r,hr,.inr ⟨rfl,rfl⟩⟩,by rw[w2];exact Mk (h.2 r hr),by rw[w1,w2,yU (h.2 r hr)]⟩
theorem RT.elder(z:Zn ts zs)(h:RT zs ts ts'){x:Str}(hx:x∈ts'.map (·.1)):rn (K83.bk zs) x∈ts.map (·.1)/\rn zs (rn (K83.bk zs) x)=x:=by
 obtain⟨y,hy,rfl⟩:=h.out hx;rw[z.back hy];exact⟨hy,rfl⟩
theorem w5:(fK zs ts' rs).map key=bO (ts'.map (·.1)):=by
 unfold fK;rw[List.map_map];have:(bO (ts'.map (·.1))).map (key∘fun p=>(p.1,p.2,wt rs (rn (bk zs) p.1) (rn (bk zs) p.2)))=(bO (ts'.map (·.1))).map id:=List.map_congr_left fun _ _=>rfl
 rw[this,List.map_id]
theorem En(hN:Nm ts)(z:Zn ts zs)(h:RT zs ts ts')(ht:TabOk ts rs):TabOk ts' (fK zs ts' rs):=by
 refine⟨w5,fun r hr=>?_⟩;obtain⟨p,hp,rfl⟩:=List.mem_map.mp hr;have m:=gI (a:=p.1) (b:=p.2) hp
 have e1:=h.elder z m.1
 have e2:=h.elder z m.2
 refine(ht.two hN e1.1 e2.1 fun e=>?_).2.1;have:=(lJ (h.nm hN z).nd (a:=p.1) (b:=p.2) hp).1
 rw[<- e1.2,<- e2.2,e]at this;exact this rfl
theorem Tu(hN:Nm ts)(z:Zn ts zs)(h:RT zs ts ts')(ht:TabOk ts rs):fK (bk zs) ts (fK zs ts' rs)=rs:=by
 have hN':=h.nm hN z
 have ht':=En hN z h ht
 have:fK (bk zs) ts (fK zs ts' rs)=rs.map id:=by
  show(bO (ts.map (·.1))).map _=_
  rw[<- ht.1,List.map_map];refine List.map_congr_left fun r hr=>?_;have hp:(r.1,r.2.1)∈bO (ts.map (·.1)):=by rw[<- ht.1];exact List.mem_map.mpr ⟨r,hr,rfl⟩
  have m:=gI hp
  have ne:=(lJ hN.nd hp).1
  show(r.1,r.2.1,wt (fK zs ts' rs) (rn (bk (bk zs)) r.1) (rn (bk (bk zs)) r.2.1))=r
  rw[Oy];have m1:=h.in m.1
  have m2:=h.in m.2
  have ne':rn zs r.1≠rn zs r.2.1:=fun e=>ne (z.inj m.1 m.2 e)
  obtain⟨w1,w2⟩:=jW (ht.nd hN) (ht.ns hN) hr;have goal:wt (fK zs ts' rs) (rn zs r.1) (rn zs r.2.1)=r.2.2:=by
   rcases oG m1 m2 ne' with q | q
   ·have mem:(rn zs r.1,rn zs r.2.1,wt rs (rn (bk zs) (rn zs r.1)) (rn (bk zs) (rn zs r.2.1)))∈fK zs ts' rs:=List.mem_map.mpr ⟨_,q,rfl⟩
    rw[(jW (ht'.nd hN') (ht'.ns hN') mem).1];show wt rs (rn (bk zs) (rn zs r.1)) (rn (bk zs) (rn zs r.2.1))=_
    rw[z.back m.1,z.back m.2,w1]
   ·have mem:(rn zs r.2.1,rn zs r.1,wt rs (rn (bk zs) (rn zs r.2.1)) (rn (bk zs) (rn zs r.1)))∈fK zs ts' rs:=List.mem_map.mpr ⟨_,q,rfl⟩
    rw[(jW (ht'.nd hN') (ht'.ns hN') mem).2];show gS (wt rs (rn (bk zs) (rn zs r.2.1)) (rn (bk zs) (rn zs r.1)))=_
    rw[z.back m.1,z.back m.2,w2,yU (ht.2 r hr)]
  rw[goal]
 rw[this,List.map_id]
end
def kb(s:Str):Bool:=decide (s=kd true)
theorem Is(k:Bool):kb (kd k)=k:=by cases k<;>decide
theorem BQ{zs:List (Str×Str)}{ts:List (Str×Bool)}{ys:List (Str×Str)}(hp:ys.Perm (ts.map fun t=>(rn zs t.1,kd t.2)))(hs:ys.Pairwise fun a b=>lI a.1 b.1):∃ ts',RT zs ts ts'/\ys=ts'.map fun t=>(t.1,kd t.2):=by
 refine⟨ys.map fun y=>(y.1,kb y.2),⟨?_,?_⟩,?_⟩
 ·have:=hp.map fun y=>(y.1,kb y.2)
  rw[List.map_map]at this;have e:ts.map ((fun y:Str×Str=>(y.1,kb y.2))∘fun t=>(rn zs t.1,kd t.2))=ts.map fun t=>(rn zs t.1,t.2):=List.map_congr_left fun t _=>by simp[Is]
  rw[e]at this;exact this
 ·rw[List.map_map];exact List.pairwise_map.mpr hs
 ·rw[List.map_map];have:ys.map ((fun t:Str×Bool=>(t.1,kd t.2))∘fun y=>(y.1,kb y.2))=ys.map id:=List.map_congr_left fun y hy=>by
   obtain⟨t,ht,rfl⟩:=List.mem_map.mp (hp.mem_iff.mp hy);simp[Is]
  rw[this,List.map_id]
theorem Xw:∀ ds m R,ds.length=Nn.length->nW ds m R->xS (EN R) (bN Bq ds) m:=by
 rintro ds m R hl ⟨ts,zs,rfl,hN,hZ,h⟩;have h6:=hN.2.1
 simp only[xS,aI,bG,bD,aB,aG,cW,cJ,aA,bN];refine⟨_,rfl,.inr ⟨_,rfl,?_⟩⟩;refine fT (fun rest acc d m'=>m'=m/\(∃ o1 o2,d=[o1,o2,some (.dat (FD zs))])/\∃ done todo,ts=done++todo/\rest=todo.map (fun t=>.dat (.tuple [.str t.1,.str (kd t.2)]))/\acc=done.map fun t=>fJ (rn zs t.1,kd t.2)) ?_ ?_ _ _ _ _ ⟨rfl,⟨_,_,rfl⟩,[],ts,rfl,by simp[Function.comp_def],rfl⟩
 ·rintro acc d m1 ⟨rfl,_,done,todo,e1,e2,rfl⟩;have e3:todo=[]:=by simpa using e2.symm
  subst e3;rw[List.append_nil]at e1;subst e1;refine⟨ts.map fun t=>(rn zs t.1,kd t.2),by rw[List.map_map];rfl,by rw[av];omega,?_,fun ys hp hs=>?_⟩
  ·rw[List.map_map];have e:ts.map ((·.1)∘fun t:Str×Bool=>(rn zs t.1,kd t.2))=(ts.map (·.1)).map (rn zs):=by rw[List.map_map];rfl
   rw[e];refine List.pairwise_map.mpr (List.Pairwise.imp_of_mem (fun {a b} ha hb q e=>q (hZ.inj ha hb e)) hN.nd)
  ·obtain⟨ts',rt,rfl⟩:=BQ hp hs;simp only[dU];rw[List.map_map];exact h ts' rt
 ·rintro x xs acc d m1 k ⟨rfl,⟨o1,o2,rfl⟩,done,todo,e1,e2,rfl⟩ hk
  cases todo with
  | nil=>simp at e2
  | cons t todo =>
   obtain⟨rfl,rfl⟩:=List.cons.inj e2;have hln:done.length<7:=by
    have:=congrArg List.length e1
    simp at this;omega
   have hx:t.1∈zs.map (·.1):=hZ.in (by rw[e1];simp)
   simp[sz];exact⟨_,rfl,_,eU hx,aj hln (sz (n:=7) #[1]),hk _ _ _ ⟨rfl,⟨_,_,rfl⟩,done++[t],todo,by rw[e1];simp,rfl,by simp⟩⟩
abbrev cs(zs:List (Str×Str)):List (aL×PyData):=zs.map fun z=>(Sum.inr z.1,PyData.str z.2)
theorem vD{zs:List (Str×Str)}{x y:Str}(h:x∉zs.map (·.1)):cD (cs zs) (.inr x) (.str y)=cs (zs++[(x,y)]):=by
 rw[tD (by
  intro q;rw[List.map_map]at q;obtain⟨z,hz,e⟩:=List.mem_map.mp q;exact h (List.mem_map.mpr ⟨z,hz,Sum.inr.inj e⟩))]
 simp
theorem vK{l:List Str}{x:Str}{r:List Str}(h:(l++x::r).Nodup):x∉l:=fun q=>by
 rw[List.nodup_append]at h;exact h.2.2 x q x List.mem_cons_self rfl
theorem FR:∀ ds m R,ds.length=At.length->qS ds m R->wK (EN R) (bN Ak ds) m:=by
 rintro ds m R hl ⟨zs,rfl,hz,h6,nv,h⟩;simp only[wK,aI,bG,nF,qG,aA,bN];refine⟨_,rfl,zs,rfl,hz,?_⟩;have lp:∀ (todo done:List (Str×Str)) (o0 o1:Option D),zs=done++todo ->
   fM (gT 2 (bC (gN 0) (bC (gN 1) cG))) cX (fun d m kvs Q=>aA 1 d m fun x m1=>∃ k,iE x=some k/\aA 0 d m1 fun y m2=>∃ p,y=.dat p/\kvs.length<sizeLine/\Q (cD kvs k p) m2) (todo.map fun z=>.dat (fJ z)) (cs (bk done)) [o0,o1] m fun kvs m2=>∀ a,m2 a=none->R (.cel a) (aW m2 a (.d kvs)):=by
  intro todo
  induction todo with
  | nil =>
   intro done o0 o1 e;rw[List.append_nil]at e;subst e;exact h
  | cons z todo ih =>
   intro done o0 o1 e;have nv':z.2∉(bk done).map (·.1):=by
    rw[oA];rw[e,List.map_append,au]at nv;exact vK nv
   have ln:(cs (bk done)).length<sizeLine:=by
    have:=congrArg List.length e
    simp at this;refine aj (show(cs (bk done)).length<1000 by simp[bk];omega) (sz #[1])
   have ih:=ih (done++[z]) (some (.dat (.str z.1))) (some (.dat (.str z.2))) (by rw[e];simp)
   have e2:cs (bk (done++[z]))=cD (cs (bk done)) (.inr z.2) (.str z.1):=by
    rw[vD nv'];simp[bk]
   rw[e2]at ih;simp only[au,fM]
   generalize hG:fM _ cX _ (todo.map _)=G at ih ⊢
   simp[iE];exact⟨by simpa using ln,ih⟩
 exact lp zs [] none none rfl
theorem U3:∀ ds m R,ds.length=Nv.length->pO ds m R->sQ (EN R) (bN Fj ds) m:=by
 rintro ds m R hl ⟨e,zs,rfl,he,h⟩;simp[sQ,sz];exact⟨_,rfl,_,eU he,h⟩
theorem Wa:∀ ds m R,ds.length=Al.length->sF ds m R->rJ (EN R) (bN Hs ds) m:=by
 rintro ds m R hl ⟨ts,s,zs,rfl,hZ,hs,h⟩
 cases s with
 | may a b ws =>
  simp (decide:=true) [rJ,Mm,Md,Say.p,sz,PyData.canLay0,PyData.depth,PyData.eqv];exact⟨_,rfl,_,eU (hZ.in hs.1),_,rfl,_,eU (hZ.in hs.2.1),h⟩
 | gap x y q st =>
  simp (decide:=true) [rJ,zU,Bn,Say.p,sz,PyData.canLay0,PyData.depth,PyData.eqv];refine⟨x,zs,rfl,hZ.in (iR hs.1),y,zs,rfl,hZ.in (iR hs.2.1),?_⟩;simp[sz];exact h
theorem Zz:∀ ds m R,ds.length=Nq.length->oM ds m R->yJ (EN R) (bN Fd ds) m:=by
 rintro ds m R hl ⟨ts,ss,zs,rfl,hN,hZ,hl2,hs,h⟩;simp[yJ,sz];simp[zI,bP];refine⟨ts,zs,rfl,hN,hZ,fun ts' rt=>?_⟩;refine fT (fun rest acc d m'=>m'=m/\(∃ o1,d=[o1,some (.dat (FD zs))])/\∃ done todo,ss=done++todo/\rest=todo.map (fun s=>.dat (Say.p s))/\acc=done.map fun s=>(s.ren zs).p) ?_ ?_ _ _ _ _ ⟨rfl,⟨_,rfl⟩,[],ss,rfl,by simp[Function.comp_def],rfl⟩
 ·rintro acc d m1 ⟨rfl,_,done,todo,e1,e2,rfl⟩;have e3:todo=[]:=by simpa using e2.symm
  subst e3;rw[List.append_nil]at e1;subst e1;have:=h ts' rt
  simp only[dM,List.map_map]at this;simp[sz];exact this
 ·rintro x xs acc d m1 k ⟨rfl,⟨o1,rfl⟩,done,todo,e1,e2,rfl⟩ hk
  cases todo with
  | nil=>simp at e2
  | cons s todo =>
   obtain⟨rfl,rfl⟩:=List.cons.inj e2;have hln:done.length<25:=by
    have:=congrArg List.length e1
    simp at this;omega
   simp;exact⟨ts,s,zs,rfl,hZ,hs s (by rw[e1];simp),_,rfl,aj hln (sz (n:=25) #[1]),hk _ _ _ ⟨rfl,⟨_,rfl⟩,done++[s],todo,by rw[e1];simp,rfl,by simp⟩⟩
theorem yL{m:Mu}{c:Addr}{x:Cel}(h:m c=none):Kp m (eL (aW m c x) c):=fun b hb=>by
 have:b≠c:=by rintro rfl;rw[h]at hb;cases hb
 unfold eL;rw[if_neg this,cE this]
theorem Ac{ts:List (Str×Bool)}{ps:List PyData}(hl:ps.length=ts.length){x:Str}(hx:x∈ts.map (·.1)):ps[(ts.map (·.1)).idxOf x]?=some (dE ts ps x):=by
 have h1:=List.idxOf_lt_length_iff.mpr hx
 have h2:(ts.map (·.1)).idxOf x<ps.length:=by rw[hl];simpa using h1
 unfold dE;rw[List.getD_eq_getElem?_getD,List.getElem?_eq_getElem h2];rfl
theorem Zs:∀ ds m R,ds.length=Ov.length->mY ds m R->vM (EN R) (bN Ic ds) m:=by
 rintro ds m R hl ⟨ts,zs,ps,rfl,hN,hZ,hpl,h⟩;have key:∀ m',Kp m m'->vR (EN R) [some (.dat (TH ts)),some (.dat (FD zs)),some (.dat (.tuple ps)),some (.dat (FD (bk zs)))] m':=by
  intro m' km;simp[vR,bP];refine⟨ts,zs,rfl,hN,hZ,fun ts' rt=>?_⟩;have hN':=rt.nm hN hZ
  refine⟨ts',rfl,hN'.2.1,?_⟩;simp;refine fT (fun rest acc d m1=>m1=m'/\(∃ o1,d=[o1,some (.dat (TH ts)),some (.dat (.tuple ps)),some (.dat (FD (bk zs)))])/\∃ done todo,ts'=done++todo/\rest=todo.map (fun t=>.dat (.str t.1))/\acc=done.map fun t=>dE ts ps (rn (bk zs) t.1)) ?_ ?_ _ _ _ _ ⟨rfl,⟨_,rfl⟩,[],ts',rfl,by simp[Function.comp_def],rfl⟩
  ·rintro acc d m1 ⟨rfl,_,done,todo,e1,e2,rfl⟩;have e3:todo=[]:=by simpa using e2.symm
   subst e3;rw[List.append_nil]at e1;subst e1;exact h ts' _ rt km
  ·rintro x xs acc d m1 k ⟨rfl,⟨o1,rfl⟩,done,todo,e1,e2,rfl⟩ hk
   cases todo with
   | nil=>simp at e2
   | cons t todo =>
    obtain⟨rfl,rfl⟩:=List.cons.inj e2;have hln:done.length<7:=by
     have:=congrArg List.length e1
     have:=hN'.2.1
     simp at *;omega
    have ht:t.1∈ts'.map (·.1):=by rw[e1];simp
    have he:=rt.elder hZ ht
    have hb:t.1∈(bk zs).map (·.1):=(hZ.bk hN rt).in ht
    simp;exact⟨_,rfl,_,eU hb,ts,ps,_,_,rfl,hN.2.1,he.1,Ac hpl he.1,_,rfl,aj hln (sz (n:=7) #[1]),hk _ _ _ ⟨rfl,⟨_,rfl⟩,done++[t],todo,by rw[e1];simp,rfl,by simp⟩⟩
 simp[vM];refine⟨zs,rfl,hZ.ne,hZ.len,hZ.nv,fun c hc=>⟨c,rfl,hc,_,bM,_,rfl,?_⟩⟩;have:=key _ (yL (x:=.d (cs (bk zs))) hc)
 rw[List.map_map];exact this
theorem l7:∀ ds m R,ds.length=Ji.length->mX ds m R->vE (EN R) (bN zP ds) m:=by
 rintro ds m R hl ⟨ts,zs,rs,rfl,hN,hZ,hT,h⟩;have key:∀ m',Kp m m'->uJ (EN R) [some (.dat (TH ts)),some (.dat (FD zs)),some (.dat (TB rs)),some (.dat (FD (bk zs))),none] m':=by
  intro m' km;simp[uJ];refine⟨ts,zs,rfl,hN,hZ,fun ts' rt=>?_⟩;have hN':=rt.nm hN hZ
  refine⟨ts',rfl,hN'.2.1,?_⟩;have rsS:∀ r∈rs,tM r:=fun r hr=>by
   have hp:(r.1,r.2.1)∈bO (ts.map (·.1)):=by rw[<- hT.1];exact List.mem_map.mpr ⟨r,hr,rfl⟩
   have m:=gI hp
   exact⟨hN.mem m.1,hN.mem m.2,(hT.2 r hr).length_le,fun z hz=>(hT.2 r hr).subset hz⟩
  simp[Mn,bP];refine fT (fun rest acc d m1=>m1=m'/\(∃ o1 o2,d=[o1,o2,some (.dat (TH ts)),some (.dat (TB rs)),some (.dat (FD (bk zs)))])/\∃ done todo,bO (ts'.map (·.1))=done++todo/\rest=todo.map (fun p=>.dat (.tuple [.str p.1,.str p.2]))/\acc=done.map fun p=>iC (p.1,p.2,wt rs (rn (bk zs) p.1) (rn (bk zs) p.2))) ?_ ?_ _ _ _ _ ⟨rfl,⟨_,_,rfl⟩,[],bO (ts'.map (·.1)),rfl,by simp[Function.comp_def],rfl⟩
  ·rintro acc d m1 ⟨rfl,_,done,todo,e1,e2,rfl⟩;have e3:todo=[]:=by simpa using e2.symm
   subst e3;rw[List.append_nil]at e1;have:=h ts' _ rt km
   unfold fK at this;rw[TB,List.map_map,e1]at this;exact this
  ·rintro x xs acc d m1 k ⟨rfl,⟨o1,o2,rfl⟩,done,todo,e1,e2,rfl⟩ hk
   cases todo with
   | nil=>simp at e2
   | cons p todo =>
    obtain⟨rfl,rfl⟩:=List.cons.inj e2;have hp:(p.1,p.2)∈bO (ts'.map (·.1)):=by rw[e1];simp
    have hln:done.length<37:=by
     have l1:=congrArg List.length e1
     have l2:=oE (ts'.map (·.1))
     have l3:=hN'.2.1
     rw[av]at l2;have:ts'.length*ts'.length<=6*6:=Nat.mul_le_mul l3 l3
     simp at l1;omega
    have mm:=gI hp
    have ne:=(lJ hN'.nd hp).1
    have h1:=rt.elder hZ mm.1
    have h2:=rt.elder hZ mm.2
    have b1:=(hZ.bk hN rt).in mm.1
    have b2:=(hZ.bk hN rt).in mm.2
    have ne2:rn (bk zs) p.1≠rn (bk zs) p.2:=fun e=>ne (by rw[<- h1.2,<- h2.2,e])
    have two:=(hT.two hN h1.1 h2.1 ne2).1
    simp;refine⟨_,rfl,_,eU b1,_,rfl,_,eU b2,_,rs,_,_,rfl,rsS,hN.mem h1.1,hN.mem h2.1,?_⟩;rw[Mi two];simp[sz];exact⟨aj hln (sz (n:=37) #[1]),hk _ _ _ ⟨rfl,⟨_,_,rfl⟩,done++[p],todo,by rw[e1];simp,rfl,by simp⟩⟩
 simp[vE];refine⟨zs,rfl,hZ.ne,hZ.len,hZ.nv,fun c hc=>⟨c,rfl,hc,_,bM,_,rfl,?_⟩⟩;have:=key _ (yL (x:=.d (cs (bk zs))) hc)
 rw[List.map_map];exact this
theorem Tr:∀ ds m R,ds.length=Qm.length->qE ds m R->uZ (EN R) (bN Rp ds) m:=by
 rintro ds m R hl ⟨z,hz,rfl,h⟩;have q:=Pz z hz
 simp[uZ,Pe,Ke,sz];exact⟨bK,rfl,hz,_,q,h⟩
theorem D8:∀ ds m R,ds.length=Mo.length->wY ds m R->oX (EN R) (bN Nc ds) m:=by
 rintro ds m R hl ⟨c,ts,ps,s,rfl,hc,hT,hN,hs,h⟩
 cases s with
 | may a b ws =>
  obtain⟨a1,a2⟩:=kK hT hs.1;obtain⟨b1,b2⟩:=kK hT hs.2.1;simp (decide:=true) [oX,Say.p,PyData.canLay0,PyData.depth,PyData.eqv,hc];refine⟨_,a1,_,rfl,_,rfl,_,b1,_,_,_,_,rfl,a2,b2,_,rfl,?_⟩;have:=h
  simp only[fQ,lk]at this;simp;refine⟨ws,rfl,?_⟩
  by_cases c:lR (dJ ts a) (dJ ts b) (dE ts ps a) (dE ts ps b)∈ws
  ·simp only[c,decide_true]at this ⊢;exact this
  ·simp only[c,decide_false]at this ⊢;exact this
 | gap x y q st =>
  obtain⟨x1,x2⟩:=kK hT (iR hs.1);obtain⟨y1,y2⟩:=kK hT (iR hs.2.1);obtain⟨_,ex⟩:=nJ hs.1;obtain⟨_,ey⟩:=nJ hs.2.1;obtain⟨_,_,_,_,u,eu,u0,u1,u2⟩:=pY x2 ex;obtain⟨_,_,_,_,v,ev,v0,v1,v2⟩:=pY y2 ey;have h:=h
  simp only[fQ,lk,eu,ev,fo]at h;simp (decide:=true) [oX,Pa,Say.p,PyData.canLay0,PyData.depth,PyData.eqv,hc];refine⟨c,_,x.1,_,_,x.2,rfl,hc,x1,x2,ex,_,rfl,c,_,y.1,_,_,y.2,rfl,hc,y1,y2,ey,?_⟩;rw[eu,ev];refine⟨_,_,⟨rfl,rfl⟩,?_⟩;simp[Lr];refine⟨_,rfl,?_⟩;simp[Nx,sz];refine⟨u1.mulOk v2 #[1],v1.mulOk u2 #[1],u2.mulOk v2 #[1],?_⟩
  refine⟨(u.1*v.2-v.1*u.2,u.2*v.2),q,rfl,(Bd.sub (n:=40) (u1.mul v2) (v1.mul u2)).mono #[1],(u2.mul v2).mono #[1],hs.2.2.1.mono #[1],hs.2.2.2.mono #[1],?_⟩
  simp[Gj,PyData.canLay0,PyData.depth,PyData.eqv]
  generalize iW (u.1*v.2-v.1*u.2,u.2*v.2) q=w at h ⊢
  by_cases c1:w<0
  ·refine .inr ⟨c1,?_⟩;simpa[c1] using h
  ·refine .inl ⟨by omega,?_⟩
   by_cases c2:w=0
   ·refine .inr ⟨c2,_,rfl,?_⟩;subst c2
    cases st with
    | false=>exact .inl ⟨rfl,by simpa using h⟩
    | true=>exact .inr ⟨rfl,by simpa using h⟩
   ·refine .inl ⟨c2,?_⟩;simpa[c1,c2] using h
theorem F7:∀ ds m R,ds.length=Db.length->qY ds m R->xW (EN R) (bN Dw ds) m:=by
 rintro ds m R hl ⟨ts,ss,ps,rfl,hN,hT,hl2,hs,h⟩;simp[xW];refine⟨ts,ps,rfl,hN.2.1,hT.out.1,hN.nd,fun c hc=>?_⟩;have km:Kp m (aW m c (.d (fI ts ps))):=Kp.refl.new hc
 have hmc:(aW m c (.d (fI ts ps))) c=some (.d (fI ts ps)):=bM
 obtain⟨m',em⟩:∃ m',m'=aW m c (.d (fI ts ps)):=⟨_,rfl⟩;rw[<- em]at km hmc ⊢;simp[Ei,bP];refine fT (fun rest acc d m1=>m1=m'/\(∃ o1,d=[o1,some (.cel c)])/\∃ done todo,ss=done++todo/\rest=todo.map (fun s=>.dat (Say.p s))/\acc=done.map fun s=>.bool (fQ (lk ts ps) s)) ?_ ?_ _ _ _ _ ⟨rfl,⟨_,rfl⟩,[],ss,rfl,by simp[Function.comp_def],rfl⟩
 ·rintro acc d m1 ⟨rfl,_,done,todo,e1,e2,rfl⟩;have e3:todo=[]:=by simpa using e2.symm
  subst e3;rw[List.append_nil]at e1;subst e1;refine⟨ss.map (fQ (lk ts ps)),by rw[List.map_map];rfl,?_⟩
  have:=h _ km
  rw[List.all_map];exact this
 ·rintro x xs acc d m1 k ⟨rfl,⟨o1,rfl⟩,done,todo,e1,e2,rfl⟩ hk
  cases todo with
  | nil=>simp at e2
  | cons s todo =>
   obtain⟨rfl,rfl⟩:=List.cons.inj e2;have hln:done.length<25:=by
    have:=congrArg List.length e1
    simp at this;omega
   simp;exact⟨c,ts,ps,s,rfl,hmc,hT,hN,hs s (by rw[e1];simp),_,rfl,aj hln (sz (n:=25) #[1]),hk _ _ _ ⟨rfl,⟨_,rfl⟩,done++[s],todo,by rw[e1];simp,rfl,by simp⟩⟩
theorem Ht:∀ a b:List Nat,ltCps a b=false->ltCps b a=false->a=b
 | [],[],_,_=>rfl
 | [],_::_,h,_=>by simp[ltCps]at h
 | _::_,[],_,h=>by simp[ltCps]at h
 | a::r,b::t,h,g=>by
  simp[ltCps]at h g;have e:a=b:=by omega
  subst e;rw[Ht r t #[4,h] #[4,g]]
theorem Bl:∀ a b c:List Nat,ltCps a b=true->ltCps b c=true->ltCps a c=true
 | [],[],_,h,_=>by simp[ltCps]at h
 | [],_::_,[],_,g=>by simp[ltCps]at g
 | [],_::_,_::_,_,_=>rfl
 | _::_,[],_,h,_=>by simp[ltCps]at h
 | _::_,_::_,[],_,g=>by simp[ltCps]at g
 | a::r,b::t,c::u,h,g=>by
  simp[ltCps]at h g ⊢;rcases h with h | ⟨rfl,h⟩
  ·rcases g with g | ⟨rfl,g⟩
   ·exact .inl #[0]
   ·exact .inl h
  ·rcases g with g | ⟨rfl,g⟩
   ·exact .inl g
   ·exact .inr ⟨rfl,Bl r t u h g⟩
abbrev Lt(x y:Str):Prop:=ltCps x.cps.toList y.cps.toList=true
theorem CV{x y:Str}(h:x.cps.toList=y.cps.toList):x=y:=by
 cases x;cases y
 simp at h;rw[h]
def up:Str->List Str->Bool
 | _,[]=>true
 | l,z::zs=>ltCps l.cps.toList z.cps.toList&&up z zs
theorem Li:∀ {zs:List Str} {l:Str},up l zs=true->List.Pairwise Lt (l::zs)
 | [],l,_=>by simp
 | z::zs,l,h=>by
  simp only[up,Bool.and_eq_true]at h;have ih:=Li h.2
  refine List.pairwise_cons.mpr ⟨fun y hy=>?_,ih⟩;rcases List.mem_cons.mp hy with rfl | hy
  ·exact h.1
  ·exact Bl _ _ _ h.1 ((List.pairwise_cons.mp ih).1 y hy)
theorem Hu:∀ {zs:List Str} {l:Str},risingS l zs=true->(l::zs).Nodup->up l zs=true
 | [],l,_,_=>rfl
 | z::zs,l,h,nd=>by
  simp only[risingS,Bool.and_eq_true,Bool.not_eq_true']at h;simp only[up,Bool.and_eq_true];have nd2:=(List.nodup_cons.mp nd)
  refine⟨?_,Hu h.2 nd2.2⟩
  cases e:ltCps l.cps.toList z.cps.toList
  ·exact(nd2.1 (by rw[CV (Ht _ _ e h.1)];exact List.mem_cons_self)).elim
  ·rfl
theorem Sw{ys:List Str}(h:sortedS ys=true)(nd:ys.Nodup):List.Pairwise Lt ys:=by
 cases ys with
 | nil=>simp
 | cons y ys=>exact Li (Hu h nd)
theorem Zf{ys:List Str}(h:sortedS ys=true)(nd:ys.Nodup):lA ys:=List.Pairwise.imp (fun {a b} q=>by
 have q:ltCps a.cps.toList b.cps.toList=true:=q
 rw[ltCps_eq]at q;show a.cps.toList<b.cps.toList
 exact of_decide_eq_true q) (Sw h nd)
theorem CQ:∀ ds m R,ds.length=Ip.length->yA ds m R->uH (EN R) (bN zZ ds) m:=by
 rintro ds m R hl ⟨zs,rfl,h6,nk,nv,h⟩;simp[uH];intro c hc;simp only[Ec,aI,dQ,rC,aA];refine⟨_,rfl,zs.map dC,rfl,?_⟩;have lp:∀ (todo done:List (Str×Str)) (o:Option D),zs=done++todo ->
   bW (gN 2) pD {nx:=sD (EN R),rt:=R} (todo.map fun z=>.dat (.str z.1)) [some (.dat (FD zs)),some (.cel c),o] (aW m c (.d (cs (bk done)))):=by
  intro todo
  induction todo with
  | nil =>
   intro done o e;rw[List.append_nil]at e;subst e;simp[bW,sD];exact h c hc
  | cons z todo ih =>
   intro done o e;have hz:z∈zs:=by rw[e];simp
   have nv':z.2∉(bk done).map (·.1):=by
    rw[oA];rw[e,List.map_append,au]at nv;exact vK nv
   have ln:(cs (bk done)).length<sizeLine:=by
    have:=congrArg List.length e
    simp at this;refine aj (show(cs (bk done)).length<1000 by simp[bk];omega) (sz #[1])
   have ih:=ih (done++[z]) (some (.dat (.str z.1))) (by rw[e];simp)
   have e2:cs (bk (done++[z]))=cD (cs (bk done)) (.inr z.2) (.str z.1):=by
    rw[vD nv'];simp[bk]
   rw[e2]at ih;have hv:=eU (zs:=zs) (x:=z.1) (List.mem_map.mpr ⟨z,hz,rfl⟩)
   rw[sZ nk hz]at hv;simp only[au,bW]
   generalize hG:bW _ pD _ (todo.map _)=G at ih ⊢
   simp only[gN,pD,aI,kI,aA,dW,List.set];refine⟨_,rfl,_,rfl,_,rfl,_,rfl,zs.map dC,_,_,rfl,rfl,hv,c,_,_,_,rfl,rfl,rfl,bM,ln,?_⟩;simp only[aQ,gG];exact ih
 have:=lp zs [] none rfl
 simpa[bk,Function.comp_def] using this
theorem oR{ts:List (Str×Bool)}{zs:List (Str×Str)}(hN:Nm ts)(hZ:Zn ts zs):((ts.map (·.1)).map (rn zs)).Nodup :=
 List.pairwise_map.mpr (List.Pairwise.imp_of_mem (fun {a b} ha hb q e=>q (hZ.inj ha hb e)) hN.nd)
theorem wD{ts:List (Str×Bool)}{zs:List (Str×Str)}{ys:List Str}(hN:Nm ts)(hZ:Zn ts zs)(hp:ys.Perm ((ts.map (·.1)).map (rn zs)))(hs:sortedS ys=true) :
  RT zs ts (ys.map fun y=>(y,dJ ts (rn (bk zs) y))):=by
 refine⟨?_,?_⟩
 ·have h1:=hp.map fun y=>(y,dJ ts (rn (bk zs) y))
  rw[List.map_map,List.map_map]at h1;have e:ts.map (((fun y=>(y,dJ ts (rn (bk zs) y)))∘rn zs)∘fun t=>t.1)=ts.map fun t=>(rn zs t.1,t.2):=List.map_congr_left fun t ht=>by
   show(rn zs t.1,dJ ts (rn (bk zs) (rn zs t.1)))=_
   rw[hZ.back (List.mem_map.mpr ⟨t,ht,rfl⟩),qN hN.nd ht]
  rw[e]at h1;exact h1
 ·rw[List.map_map];have e:ys.map ((·.1)∘fun y=>(y,dJ ts (rn (bk zs) y)))=ys.map id:=List.map_congr_left fun _ _=>rfl
  rw[e,List.map_id];exact Zf hs (hp.nodup_iff.mpr (oR hN hZ))
def cZ(es:List (Str×PyData)):List (aL×PyData):=es.map fun kv=>(Sum.inr kv.1,kv.2)
theorem Xv{e:Str×PyData}{es:List (Str×PyData)}:cZ (e::es)=(Sum.inr e.1,e.2)::cZ es:=rfl
theorem Hx{es:List (Str×PyData)}:(cZ es).length=es.length:=by simp[cZ]
theorem xK:∀ {es:List (Str×PyData)} {x:Str} {p:PyData},(es.map (·.1)).Nodup->(x,p)∈es->cM (cZ es) (.inr x)=some p
 | [],_,_,_,h=>by cases h
 | e::es,x,p,nd,h=>by
  simp only[au,List.nodup_cons]at nd;unfold cM;rw[Xv]
  by_cases c:e.1=x
  ·rw[List.find?_cons_of_pos (by simp[c])]
   rcases List.mem_cons.mp h with q | q
   ·rw[<- q];rfl
   ·exact absurd (List.mem_map.mpr ⟨_,q,c.symm⟩) nd.1
  ·rw[List.find?_cons_of_neg (by simp[c])]
   have q:=(List.mem_cons.mp h).resolve_left (fun z=>c (by rw[<- z]))
   exact xK nd.2 q
theorem Ms{es:List (Str×PyData)}(nd:(es.map (·.1)).Nodup){i:Nat}(hi:i<es.length):cD (cZ (es.take i)) (.inr es[i].1) es[i].2=cZ (es.take (i+1)):=by
 rw[tD]
 ·rw[List.take_add_one,List.getElem?_eq_getElem hi];unfold cZ;rw[List.map_append];rfl
 ·intro q;unfold cZ at q;rw[List.map_map]at q;obtain⟨z,hz,e⟩:=List.mem_map.mp q;have e:z.1=es[i].1:=Sum.inr.inj e
  obtain⟨j,hj,rfl⟩:=List.getElem_of_mem hz;rw[List.getElem_take]at e;have hj2:j<i:=by simp at hj;omega
  have nd:=List.pairwise_iff_getElem.mp nd j i (by simp;omega) #[4,hi] hj2
  rw[List.getElem_map,List.getElem_map]at nd;exact nd e
theorem AT:∀ ds m R,ds.length=Ij.length->uM ds m R->xU (EN R) (bN Dj ds) m:=by
 rintro ds m R hl ⟨ts,zs,ps,rfl,hN,hZ,hpl,h⟩;have h6:=hN.2.1
 obtain⟨es,ees⟩:∃ es:List (Str×PyData),es=(ts.zip ps).map fun q=>(rn zs q.1.1,q.2):=⟨_,rfl⟩;have les:es.length=ts.length:=by rw[ees];simp[hpl]
 have kes:es.map (·.1)=(ts.map (·.1)).map (rn zs):=by
  rw[ees,List.map_map];have e1:(ts.zip ps).map ((·.1)∘fun q:(Str×Bool)×PyData=>(rn zs q.1.1,q.2))=((ts.zip ps).map (·.1)).map fun t=>rn zs t.1:=by rw[List.map_map];rfl
  rw[e1,List.map_fst_zip #[0],List.map_map]
  rfl
 have nd:(es.map (·.1)).Nodup:=by rw[kes];exact oR hN hZ
 have esi:∀ i (hi:i<ts.length),es[i]'#[0]=(rn zs ts[i].1,ps[i]'#[0]):=fun i hi=>by subst ees;simp
 simp[xU];intro c hc;simp[Ll];refine⟨by omega,?_⟩
 refine lY (n:=ts.length) (fun i d m'=>∃ o,d=[some (.dat (TH ts)),some (.dat (FD zs)),some (.dat (.tuple ps)),some (.cel c),o]/\m'=aW m c (.d (cZ (es.take i)))) ?_ ?_ _ _ ⟨_,rfl,rfl⟩
 ·rintro d m1 ⟨o,rfl,rfl⟩;rw[<- les,List.take_length];have km:Kp m (aW m c (.d (cZ es))):=Kp.refl.new hc
  have hmc:(aW m c (.d (cZ es))) c=some (.d (cZ es)):=bM
  obtain⟨m',em⟩:∃ m',m'=aW m c (.d (cZ es)):=⟨_,rfl⟩;rw[<- em]at km hmc ⊢;simp only[Af,aI,bG,bD,aB,aG,cW,cJ,aA];refine⟨_,rfl,es,hmc,by omega,fun ys hp hs=>?_⟩
  rw[kes]at hp;have rt:=wD hN hZ hp hs
  refine .inl ⟨_,rfl,?_⟩;refine fT (fun rest acc d m1=>m1=m'/\(∃ o1,d=[o1,some (.cel c)])/\∃ done todo,ys=done++todo/\rest=todo.map (fun y=>.dat (.str y))/\acc=done.map fun y=>dE ts ps (rn (bk zs) y)) ?_ ?_ _ _ _ _ ⟨rfl,⟨_,rfl⟩,[],ys,rfl,by simp[Function.comp_def],rfl⟩
  ·rintro acc d m1 ⟨rfl,_,done,todo,e1,e2,rfl⟩;have e3:todo=[]:=by simpa using e2.symm
   subst e3;rw[List.append_nil]at e1;subst e1;have:=h _ _ rt km
   unfold fG at this;rw[List.map_map]at this;exact this
  ·rintro x xs acc d m1 k ⟨rfl,⟨o1,rfl⟩,done,todo,e1,e2,rfl⟩ hk
   cases todo with
   | nil=>simp at e2
   | cons y todo =>
    obtain⟨rfl,rfl⟩:=List.cons.inj e2;have hln:done.length<7:=by
     have l1:=congrArg List.length e1
     have l2:=hp.length_eq
     simp at l1 l2;omega
    obtain⟨x,hx,ex⟩:=List.mem_map.mp (hp.mem_iff.mp (show y∈ys by rw[e1];simp))
    have hv:cM (cZ es) (.inr y)=some (dE ts ps (rn (bk zs) y)):=by
     refine xK nd ?_;rw[<- ex,hZ.back hx];have h1:=List.idxOf_lt_length_iff.mpr hx
     have h2:(ts.map (·.1)).idxOf x<ts.length:=by simpa using h1
     have h3:=List.getElem_idxOf h1
     rw[List.getElem_map]at h3;have h4:=esi _ h2
     rw[h3]at h4;have h5:=Ac hpl hx
     rw[List.getElem?_eq_getElem #[0]]at h5
     rw[Option.some.inj h5]at h4;rw[<- h4];exact List.getElem_mem _
    simp[hmc];exact⟨_,hv,aj hln (sz (n:=7) #[1]),hk _ _ _ ⟨rfl,⟨_,rfl⟩,done++[y],todo,by rw[e1];simp,rfl,by simp⟩⟩
 ·rintro i hi k hk d m1 ⟨o,rfl,rfl⟩;have et:=xM (ts:=ts) (i:=i) hi
  have ep:bT ps (i:Int)=some (ps[i]'#[0]):=iD (List.getElem?_eq_getElem #[0])
  have hv:=eU (zs:=zs) (x:=ts[i].1) (hZ.in (List.mem_map.mpr ⟨_,List.getElem_mem hi,rfl⟩))
  have e2:=Ms nd (i:=i) #[0]
  rw[esi i hi]at e2;simp[Ml];refine⟨_,ep,_,et,?_⟩;simp;refine⟨_,rfl,_,hv,_,rfl,_,bM,?_,?_⟩
  ·rw[Hx,List.length_take];exact aj (show min i es.length<1000 by omega) (sz #[1])
  ·rw[gG,e2];exact hk _ _ ⟨_,rfl,rfl⟩
theorem EJ{ts:List (Str×Bool)}{zs:List (Str×Str)}{s:Say}{d0:D}{e:Addr}{o4 o5 o6 o7 o8:Option D}{E:Ends2}{m:Mu}{acc:List PyData}(hZ:Zn ts zs)(hs:s.ok ts)(hm:m e=some (.l acc))(hl:acc.length<100)
  (h:∀ o4 o5,E.nx [some d0,some (.dat (FD zs)),some (.cel e),some (.dat s.p),o4,o5,o6,o7,o8] (aW m e (.l (acc++[(s.ren zs).p])))) :
  lM E [some d0,some (.dat (FD zs)),some (.cel e),some (.dat s.p),o4,o5,o6,o7,o8] m:=by
 have hz:acc.length<sizeLine:=aj hl (sz (n:=100) #[1])
 cases s with
 | may a b ws =>
  simp (decide:=true) [lM,Say.p,PyData.canLay0,PyData.depth,PyData.eqv,hm,sz];exact⟨_,rfl,_,eU (hZ.in hs.1),_,rfl,_,rfl,_,eU (hZ.in hs.2.1),_,rfl,hz,h _ _⟩
 | gap x y q st =>
  simp (decide:=true) [lM,Mb,Say.p,PyData.canLay0,PyData.depth,PyData.eqv,hm,bP];rw[show cP [PyData.str (Str.ofString "gap"),dF x,dF y,fq q,PyData.bool st] (some 1) (some 3)=[dF x,dF y] from rfl]
  have z0:(0:Nat)<sizeLine:=aj (by decide:0<100) (sz (n:=100) #[1])
  have z1:(1:Nat)<sizeLine:=aj (by decide:1<100) (sz (n:=100) #[1])
  simp[dR,sz,z0,z1];refine⟨_,rfl,_,eU (hZ.in (iR hs.1)),_,rfl,_,eU (hZ.in (iR hs.2.1)),?_⟩;simp[Cg,hm,sz];exact⟨_,rfl,_,rfl,hz,h _ _⟩
theorem Wz:∀ ds m R,ds.length=Gg.length->xG ds m R->vO (EN R) (bN Jg ds) m:=by
 rintro ds m R hl ⟨ts,ss,zs,rfl,hN,hZ,hl2,hs,h⟩;have h6:=hN.2.1
 obtain⟨es,ees⟩:∃ es:List (Str×PyData),es=ts.map fun t=>(rn zs t.1,.str (kd t.2)):=⟨_,rfl⟩;have les:es.length=ts.length:=by rw[ees];simp
 have kes:es.map (·.1)=(ts.map (·.1)).map (rn zs):=by rw[ees,List.map_map,List.map_map];rfl
 have nd:(es.map (·.1)).Nodup:=by rw[kes];exact oR hN hZ
 simp[vO];intro e he;simp[Hh];have last:∀ (o3 o4 o5:Option D),qM (EN R) [some (.dat (dM ts ss)),some (.dat (FD zs)),some (.cel e),o3,o4,o5,none,none,none] (aW m e (.l (ss.map fun s=>(s.ren zs).p))):=by
  intro o3 o4 o5;simp[qM];intro c hc;have nec:e≠c:=by rintro rfl;rw[bM]at hc;cases hc
  have hc0:m c=none:=by rwa [cE (Ne.symm nec)]at hc
  obtain⟨m1,em1⟩:∃ m1,m1=aW m e (.l (ss.map fun s=>(s.ren zs).p)):=⟨_,rfl⟩;have km1:Kp m m1:=by rw[em1];exact Kp.refl.new he
  have hm1:m1 e=some (.l (ss.map fun s=>(s.ren zs).p)):=by rw[em1];exact bM
  rw[<- em1]at hc ⊢;simp[Ie];have fin:∀ (o7 o8:Option D),oT (EN R) [some (.dat (dM ts ss)),some (.dat (FD zs)),some (.cel e),o3,o4,o5,some (.cel c),o7,o8] (aW m1 c (.d (cZ es))):=by
   intro o7 o8;have km:Kp m (aW m1 c (.d (cZ es))):=km1.upd hc0
   have hmc:(aW m1 c (.d (cZ es))) c=some (.d (cZ es)):=bM
   have hme:(aW m1 c (.d (cZ es))) e=some (.l (ss.map fun s=>(s.ren zs).p)):=by rw[cE nec];exact hm1
   obtain⟨m',em⟩:∃ m',m'=aW m1 c (.d (cZ es)):=⟨_,rfl⟩;rw[<- em]at km hmc hme ⊢;simp only[oT,aI,bG,bQ,bD,aB,aG,cW,cJ,aA];refine⟨_,rfl,es,hmc,by omega,fun ys hp hs'=>?_⟩
   rw[kes]at hp;have rt:=wD hN hZ hp hs'
   refine .inl ⟨_,rfl,?_⟩;refine fT (fun rest acc d m1=>m1=m'/\(∃ o1,d=[o1,some (.cel c)])/\∃ done todo,ys=done++todo/\rest=todo.map (fun y=>.dat (.str y))/\acc=done.map fun y=>.tuple [.str y,.str (kd (dJ ts (rn (bk zs) y)))]) ?_ ?_ _ _ _ _ ⟨rfl,⟨_,rfl⟩,[],ys,rfl,by simp[Function.comp_def],rfl⟩
   ·rintro acc d m1 ⟨rfl,_,done,todo,e1,e2,rfl⟩;have e3:todo=[]:=by simpa using e2.symm
    subst e3;rw[List.append_nil]at e1;subst e1;have:=h _ _ rt km
    simp only[dM,TH,List.map_map]at this;simp[hme,sz];exact this
   ·rintro x xs acc d m1 k ⟨rfl,⟨o1,rfl⟩,done,todo,e1,e2,rfl⟩ hk
    cases todo with
    | nil=>simp at e2
    | cons y todo =>
     obtain⟨rfl,rfl⟩:=List.cons.inj e2;have hln:done.length<7:=by
      have l1:=congrArg List.length e1
      have l2:=hp.length_eq
      simp at l1 l2;omega
     obtain⟨x,hx,ex⟩:=List.mem_map.mp (hp.mem_iff.mp (show y∈ys by rw[e1];simp))
     have hv:cM (cZ es) (.inr y)=some (.str (kd (dJ ts (rn (bk zs) y)))):=by
      refine xK nd ?_;rw[<- ex,hZ.back hx,ees];exact List.mem_map.mpr ⟨_,zG hx hN.nd,rfl⟩
     simp[hmc,sz];exact⟨_,hv,aj hln (sz (n:=7) #[1]),hk _ _ _ ⟨rfl,⟨_,rfl⟩,done++[y],todo,by rw[e1];simp,rfl,by simp⟩⟩
  have lp:∀ (todo done:List (Str×Bool)) (o7 o8:Option D),ts=done++todo ->
    bW (gT 2 (bC (gN 7) (bC (gN 8) cG))) pJ {nx:=oT (EN R),rt:=R} (todo.map fun t=>.dat (.tuple [.str t.1,.str (kd t.2)])) [some (.dat (dM ts ss)),some (.dat (FD zs)),some (.cel e),o3,o4,o5,some (.cel c),o7,o8] (aW m1 c (.d (cZ (es.take done.length)))):=by
   intro todo
   induction todo with
   | nil =>
    intro done o7 o8 e1;rw[List.append_nil]at e1;rw[<- e1,<- les,List.take_length];exact fin o7 o8
   | cons t todo ih =>
    intro done o7 o8 e1;have ih:=ih (done++[t]) (some (.dat (.str t.1))) (some (.dat (.str (kd t.2)))) (by rw[e1];simp)
    have hi:done.length<es.length:=by rw[les,e1];simp
    have esi:es[done.length]=(rn zs t.1,.str (kd t.2)):=by subst ees;simp[e1]
    have e2:=Ms nd hi
    rw[esi]at e2;rw[List.length_append,List.length_singleton,<- e2]at ih;have hv:=eU (zs:=zs) (x:=t.1) (hZ.in (by rw[e1];simp))
    have ln:(cZ (es.take done.length)).length<sizeLine:=by
     rw[Hx,List.length_take];exact aj (show min done.length es.length<1000 by omega) (sz #[1])
    simp only[au,bW]
    generalize hG:bW _ pJ _ (todo.map _)=G at ih ⊢
    simp[pJ,bM,gG];exact⟨_,rfl,_,hv,_,rfl,ln,ih⟩
  have:=lp ts [] none none rfl
  simpa[Function.comp_def,cZ] using this
 have lp:∀ (todo done:List Say) (o3 o4 o5:Option D),ss=done++todo ->
   bW (gN 3) lM {nx:=qM (EN R),rt:=R} (todo.map fun s=>.dat (Say.p s)) [some (.dat (dM ts ss)),some (.dat (FD zs)),some (.cel e),o3,o4,o5,none,none,none] (aW m e (.l (done.map fun s=>(s.ren zs).p))):=by
  intro todo
  induction todo with
  | nil =>
   intro done o3 o4 o5 e1;rw[List.append_nil]at e1;subst e1;exact last o3 o4 o5
  | cons s todo ih =>
   intro done o3 o4 o5 e1;have hln:done.length<25:=by
    have:=congrArg List.length e1
    simp at this;omega
   have ih:=fun o4 o5=>ih (done++[s]) (some (.dat s.p)) o4 o5 (by rw[e1];simp)
   simp only[au,bW]
   generalize hG:bW _ lM _ (todo.map _)=G at ih ⊢
   simp only[gN,List.set];refine EJ (acc:=done.map fun s=>(s.ren zs).p) hZ (hs s (by rw[e1];simp)) bM (by rw[av];omega) fun o4 o5=>?_
   have:=ih o4 o5
   rw[List.map_append]at this;rw[gG];exact this
 have:=lp ss [] none none none rfl
 simpa[Function.comp_def] using this
section
variable {κ:Type}[DecidableEq κ]
theorem Gb{kvs:List (κ×PyData)}{k:κ}{p:PyData}:cM (cD kvs k p) k=some p:=by
 unfold cD
 split
 ·rename_i h
  induction kvs with
  | nil=>simp at h
  | cons e kvs ih =>
   unfold cM at ih ⊢
   by_cases c:e.1=k
   ·rw[au,if_pos c,List.find?_cons_of_pos #[4,c]]
    rfl
   ·rw[au,if_neg c,List.find?_cons_of_neg #[4,c]]
    refine ih ?_;simpa[c] using h
 ·rename_i h;have h:∀ x∈kvs,¬ x.1=k:=fun x hx q=>h (List.any_eq_true.mpr ⟨x,hx,by simpa using q⟩)
  unfold cM;rw[List.find?_append,List.find?_eq_none.mpr (fun x hx=>by simpa using h x hx)]
  simp
theorem Kc{j k:κ}{p:PyData}(ne:j≠k):∀ kvs:List (κ×PyData),cM (kvs.map fun kv=>if kv.1=k then (kv.1,p) else kv) j=cM kvs j
 | []=>rfl
 | e::kvs=>by
  have ih:=Kc (p:=p) ne kvs
  unfold cM at ih ⊢
  by_cases c:e.1=k
  ·have c2:¬ e.1=j:=fun q=>ne (q.symm.trans c)
   rw[au,if_pos c,List.find?_cons_of_neg #[4,c2],List.find?_cons_of_neg #[4,c2]]
   exact ih
  ·rw[au,if_neg c]
   by_cases c2:e.1=j
   ·rw[List.find?_cons_of_pos #[4,c2],List.find?_cons_of_pos #[4,c2]]
   ·rw[List.find?_cons_of_neg #[4,c2],List.find?_cons_of_neg #[4,c2]]
    exact ih
theorem nB{kvs:List (κ×PyData)}{j k:κ}{p:PyData}(ne:j≠k):cM (cD kvs k p) j=cM kvs j:=by
 unfold cD
 split
 ·exact Kc ne kvs
 ·unfold cM;rw[List.find?_append]
  cases h:kvs.find? fun kv=>decide (kv.1=j) with
  | some x=>rfl
  | none=>simp[Ne.symm ne]
theorem Cz{kvs:List (κ×PyData)}{k:κ}{p:PyData}:(cD kvs k p).length<=kvs.length+1:=by
 unfold cD
 split
 ·rw[av];omega
 ·simp
end
abbrev k2(a b:Str):List aL:=[.inr a,.inr b]
theorem iV{a b c d:Str}(h:k2 a b=k2 c d):a=c/\b=d:=by
 simp only[k2,List.cons.injEq,Sum.inr.injEq,and_true]at h;exact h
abbrev tup(ws:List Str):PyData:=.tuple (ws.map .str)
def KR(zs:List (Str×Str))(kvs:List (List aL×PyData))(r:dO):Prop:=cM kvs (k2 (rn zs r.1) (rn zs r.2.1))=some (tup r.2.2)/\cM kvs (k2 (rn zs r.2.1) (rn zs r.1))=some (tup (gS r.2.2))
theorem Z0{m:Mu}{ws:List Str}{Q:List PyData->Mu->Prop}(h:Q ((bK.filter fun w=>decide (tn w∈ws)).map .str) m) :
  dR (gN 0) (bL (aF lS (aT 1 qE (aB (aA 0) aG)) (aA 1))) (aA 0) (bK.map fun z=>.dat (.str z)) [] [none,some (.dat (tup ws))] m Q:=by
 refine fT (fun rest acc d m'=>m'=m/\(∃ o,d=[o,some (.dat (tup ws))])/\∃ done todo,bK=done++todo/\rest=todo.map (fun z=>.dat (.str z))/\acc=(done.filter fun w=>decide (tn w∈ws)).map .str) ?_ ?_ _ _ _ _ ⟨rfl,⟨_,rfl⟩,[],bK,rfl,rfl,rfl⟩
 ·rintro acc d m' ⟨rfl,_,done,todo,e1,e2,rfl⟩;have e3:todo=[]:=by simpa using e2.symm
  subst e3;rw[List.append_nil]at e1;rw[<- e1];exact h
 ·rintro x xs acc d m' k ⟨rfl,⟨o,rfl⟩,done,todo,e1,e2,rfl⟩ hk
  cases todo with
  | nil=>simp at e2
  | cons z todo =>
   obtain⟨rfl,rfl⟩:=List.cons.inj e2;have hz:z∈bK:=by rw[e1];simp
   have hln:done.length<13:=by
    have l1:=congrArg List.length e1
    have l2:bK.length=13:=rfl
    simp at l1;omega
   have hf:(done.filter fun w=>decide (tn w∈ws)).length<=done.length:=List.length_filter_le _ _
   simp;refine⟨z,hz,rfl,ws,rfl,?_⟩
   by_cases c:tn z∈ws
   ·refine .inr ⟨by simp[c],Nat.lt_of_le_of_lt hf (aj (show done.length<100 by omega) (sz (n:=100) #[1])),hk _ _ _ ⟨rfl,⟨_,rfl⟩,done++[z],todo,by rw[e1];simp,rfl,by simp[c]⟩⟩
   ·exact .inl ⟨by simp[c],hk _ _ _ ⟨rfl,⟨_,rfl⟩,done++[z],todo,by rw[e1];simp,rfl,by simp[c]⟩⟩
theorem Yu:∀ ds m R,ds.length=Cr.length->vC ds m R->sY (EN R) (bN Cn ds) m:=by
 rintro ds m R hl ⟨ts,zs,rs,rfl,hN,hZ,hT,h⟩;have h6:=hN.2.1
 have hk:∀ r∈rs,(r.1,r.2.1)∈bO (ts.map (·.1)):=fun r hr=>by rw[<- hT.1];exact List.mem_map.mpr ⟨r,hr,rfl⟩
 have lrs:rs.length<=36:=by
  have l1:=congrArg List.length hT.1
  have l2:=oE (ts.map (·.1))
  rw[av]at l1;rw[av]at l2;have:ts.length*ts.length<=6*6:=Nat.mul_le_mul h6 h6
  omega
 simp[sY];intro c hc;simp[La];have last:∀ (kvs:List (List aL×PyData)) (o4 o5 o6:Option D),(∀ r∈rs,KR zs kvs r)->pT (EN R) [some (.dat (TH ts)),some (.dat (FD zs)),some (.dat (TB rs)),some (.cel c),o4,o5,o6,none,none,none,none] (aW m c (.t kvs)):=by
  intro kvs o4 o5 o6 hkv;simp only[pT,aI,aZ,pI,aA];refine⟨_,rfl,zs,rfl,hZ.ne,Nat.lt_of_le_of_lt hZ.len #[1],fun ys hp hs=>?_⟩
  have hp:ys.Perm ((ts.map (·.1)).map (rn zs)):=by
   rw[<- Pl hZ.nk]at hp;exact hp.trans (hZ.keys.map _)
  have rt:=wD hN hZ hp hs
  have ety:(ys.map fun y=>(y,dJ ts (rn (bk zs) y))).map (·.1)=ys:=by
   rw[List.map_map];have:ys.map ((·.1)∘fun y=>(y,dJ ts (rn (bk zs) y)))=ys.map id:=List.map_congr_left fun _ _=>rfl
   rw[this,List.map_id]
  have ly:ys.length<=6:=by have:=hp.length_eq;simp at this;omega
  obtain⟨F,eF⟩:∃ F:Str×Str->dO,F=fun p=>(p.1,p.2,wt rs (rn (bk zs) p.1) (rn (bk zs) p.2)):=⟨_,rfl⟩;have get:∀ a∈ys,∀ b∈ys,a≠b->cM kvs (k2 a b)=some (tup (F (a,b)).2.2):=by
   intro a ha b hb ne;obtain⟨a',ha',rfl⟩:=List.mem_map.mp (hp.mem_iff.mp ha);obtain⟨b',hb',rfl⟩:=List.mem_map.mp (hp.mem_iff.mp hb);have ne':a'≠b':=fun e=>ne (by rw[e])
   rw[eF];show _=some (tup (wt rs (rn (bk zs) (rn zs a')) (rn (bk zs) (rn zs b'))))
   rw[hZ.back ha',hZ.back hb'];rcases oG ha' hb' ne' with q | q
   ·obtain⟨r,hr,rfl,rfl⟩:=hT.row q;rw[(jW (hT.nd hN) (hT.ns hN) hr).1];exact(hkv r hr).1
   ·obtain⟨r,hr,rfl,rfl⟩:=hT.row q;rw[(jW (hT.nd hN) (hT.ns hN) hr).2];exact(hkv r hr).2
  have ndy:ys.Nodup:=hp.nodup_iff.mpr (oR hN hZ)
  have km:Kp m (aW m c (.t kvs)):=Kp.refl.new hc
  have hmc:(aW m c (.t kvs)) c=some (.t kvs):=bM
  obtain⟨m1,em⟩:∃ m1,m1=aW m c (.t kvs):=⟨_,rfl⟩;rw[<- em]at km hmc ⊢;simp[Pb];intro e he;have nec:c≠e:=by rintro rfl;rw[hmc]at he;cases he
  simp[Dt];refine⟨by omega,?_⟩
  refine lY (n:=ys.length) (fun i d m'=>∃ (ps:List (Str×Str)) (o9 oa:Option D),d=[some (.dat (TH ts)),some (.dat (FD zs)),some (.dat (TB rs)),some (.cel c),o4,o5,o6,some (.dat (.list (ys.map .str))),some (.cel e),o9,oa]/\m'=aW m1 e (.l (ps.map fun p=>iC (F p)))/\ps++bO (ys.drop i)=bO ys/\ps.length<=6*i) ?_ ?_ _ _ ⟨[],_,_,rfl,rfl,by simp,by simp⟩
  ·rintro d m' ⟨ps,o9,oa,rfl,rfl,qk,ql⟩;rw[List.drop_of_length_le (ak _)]at qk;have qk:ps=bO ys:=by simpa[bO] using qk
   simp[Om,bM];have:=h _ _ rt (km.new (x:=.l (ps.map fun p=>iC (F p))) he)
   unfold fK at this;rw[TB,List.map_map,ety,<- qk]at this;rw[eF];rw[eF]at this;exact this
  ·rintro i hi k hk2 d m' ⟨ps0,o9,oa,rfl,rfl,qk,ql⟩;rw[No hi]at qk;simp[Qj];refine⟨⟨by omega,by omega,by omega⟩,?_⟩
   have en:((ys.length:Int)-((i:Int)+1)).toNat=ys.length-(i+1):=by omega
   rw[en];refine Rs (fun j d m'=>∃ (ps:List (Str×Str)) (oa:Option D),d=[some (.dat (TH ts)),some (.dat (FD zs)),some (.dat (TB rs)),some (.cel c),o4,o5,o6,some (.dat (.list (ys.map .str))),some (.cel e),some (I (i:Int)),oa]/\m'=aW m1 e (.l (ps.map fun p=>iC (F p)))/\ps++((ys.drop (i+1+j)).map (fun k=>(ys[i],k))++bO (ys.drop (i+1)))=bO ys/\ps.length<=6*i+j) ?_ ?_ _ _ ⟨ps0,_,rfl,rfl,qk,by omega⟩
   ·rintro d m' ⟨ps,oa,rfl,rfl,rk,rl⟩;refine hk2 _ _ ⟨ps,_,_,rfl,rfl,?_,by omega⟩
    rw[List.drop_of_length_le (show ys.length<=i+1+(ys.length-(i+1)) by omega)]at rk
    simpa using rk
   ·rintro j hj k3 hk3 d m' ⟨ps,oa,rfl,rfl,rk,rl⟩;have hy:i+1+j<ys.length:=by omega
    have a1:bT (ys.map PyData.str) (i:Int)=some (.str ys[i]):=iD (by rw[List.getElem?_map,List.getElem?_eq_getElem hi];rfl)
    have a2:bT (ys.map PyData.str) (((i+1+j:Nat):Int))=some (.str ys[i+1+j]):=iD (by rw[List.getElem?_map,List.getElem?_eq_getElem hy];rfl)
    have ne:ys[i]≠ys[i+1+j]:=List.pairwise_iff_getElem.mp ndy i (i+1+j) hi hy #[0]
    have hv:=get _ (List.getElem_mem hi) _ (List.getElem_mem hy) ne
    have hmc2:(aW m1 e (.l (ps.map fun p=>iC (F p)))) c=some (.t kvs):=by rw[cE nec];exact hmc
    have ey:((i:Int)+1+(j:Int))=((i+1+j:Nat):Int):=by omega
    have hz:ps.length<sizeLine:=aj #[0] (sz (n:=100) #[1])
    rw[ey];simp only[gN,List.set,Op,aI,eW,fF,aA,bQ,aB,aG,aF,aN,pA];refine⟨_,rfl,e,rfl,⟨_,bM⟩,_,rfl,_,rfl,_,a1,_,rfl,_,rfl,_,a2,_,rfl,_,rfl,_,rfl,_,a1,_,rfl,_,rfl,_,a2,c,_,kvs,_,rfl,rfl,hmc2,?_,hv,?_⟩
    ·exact sz (n:=2) #[1]
    refine⟨_,rfl,sz (n:=3) #[1],_,_,rfl,bM,by rw[av];exact hz,?_⟩
    show k3 _ _
    rw[gG];refine hk3 _ _ ⟨ps++[(ys[i],ys[i+1+j])],_,rfl,?_,?_,by simp;omega⟩
    ·rw[List.map_append]
     congr 3
     rw[eF];rfl
    ·rw[List.drop_eq_getElem_cons hy]at rk;rw[<- rk];simp[Nat.add_assoc]
 have lp:∀ (todo done:List dO) (kvs:List (List aL×PyData)) (o4 o5 o6:Option D),rs=done++todo->kvs.length<=2*done.length->(∀ r∈done,KR zs kvs r) ->
   bW (gT 3 (bC (gN 4) (bC (gN 5) (bC (gN 6) cG)))) pK {nx:=pT (EN R),rt:=R} (todo.map fun r=>.dat (iC r)) [some (.dat (TH ts)),some (.dat (FD zs)),some (.dat (TB rs)),some (.cel c),o4,o5,o6,none,none,none,none] (aW m c (.t kvs)):=by
  intro todo
  induction todo with
  | nil =>
   intro done kvs o4 o5 o6 e1 hl hkv;rw[List.append_nil]at e1;subst e1;exact last kvs o4 o5 o6 hkv
  | cons r todo ih =>
   intro done kvs o4 o5 o6 e1 hl hkv;have hr:r∈rs:=by rw[e1];simp
   have m12:=gI (hk r hr)
   have ne:=(lJ hN.nd (hk r hr)).1
   have v1:=eU (zs:=zs) (x:=r.1) (hZ.in m12.1)
   have v2:=eU (zs:=zs) (x:=r.2.1) (hZ.in m12.2)
   have dl:done.length<36:=by
    have:=congrArg List.length e1
    simp at this;omega
   have nf:rn zs r.1≠rn zs r.2.1:=fun e=>ne (hZ.inj m12.1 m12.2 e)
   have kk:k2 (rn zs r.1) (rn zs r.2.1)≠k2 (rn zs r.2.1) (rn zs r.1):=fun e=>nf (iV e).1
   obtain⟨kv1,ek1⟩:∃ kv1,kv1=cD kvs (k2 (rn zs r.1) (rn zs r.2.1)) (tup r.2.2):=⟨_,rfl⟩;obtain⟨kv2,ek2⟩:∃ kv2,kv2=cD kv1 (k2 (rn zs r.2.1) (rn zs r.1)) (tup (gS r.2.2)):=⟨_,rfl⟩;have l1:kv1.length<=kvs.length+1:=by rw[ek1];exact Cz
   have l2:kv2.length<=kv1.length+1:=by rw[ek2];exact Cz
   have z0:kvs.length<sizeLine:=aj (show kvs.length<100 by omega) (sz (n:=100) #[1])
   have z1:kv1.length<sizeLine:=aj (show kv1.length<100 by omega) (sz (n:=100) #[1])
   have ih:=ih (done++[r]) kv2 (some (.dat (.str r.1))) (some (.dat (.str r.2.1))) (some (.dat (tup r.2.2))) (by rw[e1];simp) (by simp;omega) (fun q hq=>by
    rcases List.mem_append.mp hq with hq | hq
    ·have hq':q∈rs:=by rw[e1];simp[hq]
     have mq:=gI (hk q hq')
     have nk:¬ (q.1=r.1/\q.2.1=r.2.1):=fun e=>by
      have nd:=hT.nd hN
      rw[e1,List.map_append,au,List.nodup_append]at nd;exact nd.2.2 _ (List.mem_map.mpr ⟨q,hq,rfl⟩) _ List.mem_cons_self (Prod.ext e.1 e.2)
     have ns:=hT.ns hN q hq' r hr
     have d1:k2 (rn zs q.1) (rn zs q.2.1)≠k2 (rn zs r.1) (rn zs r.2.1):=fun e=>nk ⟨hZ.inj mq.1 m12.1 (iV e).1,hZ.inj mq.2 m12.2 (iV e).2⟩
     have d2:k2 (rn zs q.1) (rn zs q.2.1)≠k2 (rn zs r.2.1) (rn zs r.1):=fun e=>ns ⟨hZ.inj mq.1 m12.2 (iV e).1,hZ.inj mq.2 m12.1 (iV e).2⟩
     have d3:k2 (rn zs q.2.1) (rn zs q.1)≠k2 (rn zs r.1) (rn zs r.2.1):=fun e=>ns ⟨hZ.inj mq.1 m12.2 (iV e).2,hZ.inj mq.2 m12.1 (iV e).1⟩
     have d4:k2 (rn zs q.2.1) (rn zs q.1)≠k2 (rn zs r.2.1) (rn zs r.1):=fun e=>nk ⟨hZ.inj mq.1 m12.1 (iV e).2,hZ.inj mq.2 m12.2 (iV e).1⟩
     obtain⟨b1,b2⟩:=hkv q hq;refine⟨?_,?_⟩
     ·rw[ek2,nB d2,ek1,nB d1];exact b1
     ·rw[ek2,nB d4,ek1,nB d3];exact b2
    ·have e:q=r:=by simpa using hq
     subst e;refine⟨?_,?_⟩
     ·rw[ek2,nB kk,ek1,Gb]
     ·rw[ek2,Gb])
   simp only[au,bW]
   generalize hG:bW _ pK _ (todo.map _)=G at ih ⊢
   simp[pK,bM,gG,sz];refine⟨_,rfl,_,v1,_,rfl,_,v2,_,rfl,z0,sz (n:=2) #[1],?_⟩
   rw[show cD kvs [Sum.inr (rn zs r.1),Sum.inr (rn zs r.2.1)] (PyData.tuple (r.2.2.map .str))=kv1 from ek1.symm]
   simp only[Fp,aI,mU,bD,aB,aG,cW,cJ,aT,aA];refine⟨rfl,rfl,.inl ⟨_,rfl,?_⟩⟩;have e9:List.map D.dat (bK.map PyData.str)=bK.map fun z=>.dat (.str z):=by rw[List.map_map];rfl
   rw[e9];refine Z0 ?_;rw[Ue (hT.2 r hr)];refine⟨_,rfl,_,rfl,_,rfl,_,_,_,rfl,rfl,v2,_,rfl,_,rfl,_,_,_,rfl,rfl,v1,c,_,kv1,_,rfl,rfl,rfl,bM,z1,sz (n:=2) #[1],?_⟩
   show G _ _
   rw[gG,show cD kv1 [Sum.inr (rn zs r.2.1),Sum.inr (rn zs r.1)] (tup (gS r.2.2))=kv2 from ek2.symm]
   exact ih
 have:=lp rs [] [] none none none rfl #[2] #[2]
 simpa[Function.comp_def] using this
theorem B7:∀ n<7,sliceRange (sliceBounds none none (some 1) n).1 (sliceBounds none none (some 1) n).2.1 (sliceBounds none none (some 1) n).2.2=List.range n:=by decide +kernel
theorem Zq:∀ n<7,sliceRange (sliceBounds none none (some (-1)) n).1 (sliceBounds none none (some (-1)) n).2.1 (sliceBounds none none (some (-1)) n).2.2=(List.range n).reverse:=by decide +kernel
theorem Ap{α:Type}(xs:List α):(List.range xs.length).filterMap (xs[·]?)=xs:=by
 induction xs with
 | nil=>rfl
 | cons x xs ih =>
  rw[List.length_cons,List.range_succ_eq_map,List.filterMap_cons];simp only[List.getElem?_cons_zero,List.filterMap_map]
  congr 1
theorem L8{α:Type}(xs:List α)(h:xs.length<=6):eM 1 xs=xs:=by
 unfold eM;rw[B7 xs.length #[0]]
 exact Ap xs
theorem Vc{α:Type}(xs:List α)(h:xs.length<=6):eM (-1) xs=xs.reverse:=by
 unfold eM;rw[Zq xs.length #[0],List.filterMap_reverse,Ap]
theorem Od{xs:List PyData}{n:Nat}(h:n<=xs.length):cP xs none (some (n:Int))=xs.take n:=by
 unfold cP;have e2:HT.sIx xs.length xs.length (some (n:Int))=n:=by
  have q:¬ ((n:Int)<0):=by omega
  simp[HT.sIx,q];exact Nat.min_eq_left h
 have e1:HT.sIx xs.length 0 none=0:=rfl
 rw[e1,e2];simp
theorem Xk{ts:List (Str×Bool)}{m:Mu}{Q:List PyData->Mu->Prop}(hn:ts.length<=6)(h:Q ((ts.map (·.1)).map .str) m) :
  dR (gT 2 (bC (gN 0) (bC (gN 1) cG))) cX (aA 0) (ts.map (D.dat∘fun t=>PyData.tuple [.str t.1,.str (kd t.2)])) [] [none,none] m Q:=by
 refine fT (fun rest acc d m'=>m'=m/\(∃ o1 o2,d=[o1,o2])/\∃ done todo,ts=done++todo/\rest=todo.map (D.dat∘fun t=>PyData.tuple [.str t.1,.str (kd t.2)])/\acc=done.map fun t=>.str t.1) ?_ ?_ _ _ _ _ ⟨rfl,⟨_,_,rfl⟩,[],ts,rfl,rfl,rfl⟩
 ·rintro acc d m1 ⟨rfl,_,done,todo,e1,e2,rfl⟩;have e3:todo=[]:=by simpa using e2.symm
  subst e3;rw[List.append_nil]at e1;subst e1;rw[List.map_map]at h;exact h
 ·rintro x xs acc d m1 k ⟨rfl,⟨o1,o2,rfl⟩,done,todo,e1,e2,rfl⟩ hk
  cases todo with
  | nil=>simp at e2
  | cons t todo =>
   obtain⟨rfl,rfl⟩:=List.cons.inj e2;have hln:done.length<7:=by
    have:=congrArg List.length e1
    simp at this;omega
   simp;exact⟨aj hln (sz (n:=7) #[1]),hk _ _ _ ⟨rfl,⟨_,_,rfl⟩,done++[t],todo,by rw[e1];simp,rfl,by simp⟩⟩
def SM:List (List Str):=[["y","x","xy","r","q","qqqqqqqq"],["gap","may","point","strict","end","stretch"],["met","same","behind","ahead","told","any"]]
theorem R5:∀ S∈SM,S.length=6/\(∀ z∈S,z∈eQ)/\∀ r<3,∀ n<7,((S.drop r++S).take n).Nodup:=by decide +kernel
def Wn(N W:List Str):Prop:=N.length<=W.length/\(W.take N.length).Nodup/\∀ z∈W,z∈eQ
theorem Lb:∀ {N W:List Str},N.length<=W.length->(N.zip W).map (·.1)=N/\(N.zip W).map (·.2)=W.take N.length
 | [],W,_=>by simp
 | n::N,[],h=>by simp at h
 | n::N,w::W,h=>by
  obtain⟨h1,h2⟩:=Lb (N:=N) (W:=W) #[4,h]
  simp[h1,h2]
theorem E6{ts:List (Str×Bool)}{W:List Str}{k:Nat}(hN:Nm ts)(h:Wn (ts.map (·.1)) W)(zs:List (Str×Str))(e:zs=((ts.map (·.1)).zip W).drop k++((ts.map (·.1)).zip W).take k):Zn ts zs:=by
 obtain⟨h1,h2,h3⟩:=h;obtain⟨z1,z2⟩:=Lb h1;have pm:zs.Perm ((ts.map (·.1)).zip W):=by
  rw[e];exact(List.perm_append_comm).trans (by rw[List.take_append_drop])
 have pk:=pm.map (·.1)
 have pv:=pm.map (·.2)
 rw[z1]at pk;rw[z2]at pv;have ln:zs.length=ts.length:=by have:=pk.length_eq;simpa using this
 have:=hN.1
 have:=hN.2.1
 refine⟨fun q=>by rw[q]at ln;simp at ln;omega,by omega,pk,pk.nodup_iff.mpr hN.nd,pv.nodup_iff.mpr h2,fun z hz=>⟨?_,?_⟩⟩
 ·exact hN.mem (pk.mem_iff.mp (List.mem_map.mpr ⟨z,hz,rfl⟩))
 ·exact h3 _ (List.mem_of_mem_take (pv.mem_iff.mp (List.mem_map.mpr ⟨z,hz,rfl⟩)))
theorem By:∀ (zs acc:List (Str×Str)),((acc++zs).map (·.1)).Nodup->iA (cs acc) (cs zs)=cs (acc++zs)
 | [],acc,_=>by simp[iA]
 | z::zs,acc,nd=>by
  have h1:z.1∉acc.map (·.1):=by
   rw[List.map_append,au]at nd;exact vK nd
  have e:iA (cs acc) (cs (z::zs))=iA (cD (cs acc) (.inr z.1) (.str z.2)) (cs zs):=rfl
  rw[e,vD h1,By zs (acc++[z]) #[4,nd]]
  simp
theorem Wd:∀ ds m R,ds.length=Hz.length->rZ ds m R->xQ (EN R) (bN Gn ds) m:=by
 rintro ds m R hl ⟨a,ts,L,rfl,hN,hL,hT,h⟩;have h6:=hN.2.1
 have h1:=hN.1
 have hf:=Fed.refl hT
 obtain⟨N,eN⟩:∃ N,N=ts.map (·.1):=⟨_,rfl⟩;have lN:N.length=ts.length:=by rw[eN];simp
 simp[xQ,bP];refine Xk h6 ?_;rw[<- eN];simp[Au];refine⟨sz (n:=6) #[1],sz (n:=2) #[1],fun c hc=>?_⟩
 obtain⟨nc,hc0⟩:=hf.new hc;simp[Fu,bM,gG,sz];refine⟨aj (by decide:2<100) (sz (n:=100) #[1]),?_⟩
 have tail:∀ (W:List Str) (f:Int) (b:Int) (m1:Mu) (o6:Option D),Wn N W->b<=5->Fed b L m m1 a->uO (EN R) [some (.cel a),some (.dat (TH ts)),some (.dat (.list (N.map .str))),some (.cel c),some (I f),some (.dat (.list (W.map .str))),o6,none] m1:=by
  intro W f b m1 o6 hW hb hf1;obtain⟨w1,w2,w3⟩:=hW;obtain⟨Z,eZ⟩:∃ Z,Z=N.zip W:=⟨_,rfl⟩;have lZ:Z.length=N.length:=by rw[eZ];simp;omega
  have eP:((N.map PyData.str).zip (W.map PyData.str)).map (fun z=>PyData.tuple [z.1,z.2])=Z.map fJ:=by
   rw[eZ,List.zip_map,List.map_map];rfl
  simp[uO];refine⟨by omega,by omega,by omega,?_⟩
  rw[eP];simp[Qc];refine gH #[0] #[0] #[0] #[0] hf1 fun r m2 r0 r1 hf2=>?_
  obtain⟨k,rfl⟩:∃ k:Nat,r=k:=⟨r.toNat,by omega⟩
  have hk:k<=(Z.map fJ).length:=by simp;omega
  simp[zM];rw[oZ hk,Od hk];obtain⟨zs,ezs⟩:∃ zs,zs=Z.drop k++Z.take k:=⟨_,rfl⟩;have zn:Zn ts zs:=E6 (k:=k) hN (by rw[<- eN];exact⟨w1,w2,w3⟩) zs (by rw[<- eN,<- eZ];exact ezs)
  have z6:=zn.len
  have ee:(Z.map fJ).drop k++(Z.map fJ).take k=(cs zs).map fun kv=>PyData.tuple [mP kv.1,kv.2]:=by
   rw[<- List.map_drop,<- List.map_take,<- List.map_append,<- ezs,List.map_map];rfl
  refine⟨?_,cs zs,ee,?_,fun c' hc'=>?_⟩
  ·refine Nat.le_trans (show _<=100 from ?_) (sz #[1])
   simp;omega
  ·rw[av];exact Nat.le_trans (show zs.length<=100 by omega) (sz #[1])
  ·obtain⟨ne,hn⟩:=hf2.new hc';rw[show([]:List (aL×PyData))=cs [] from rfl,By zs [] #[4,zn.nk]]
   exact h zs c' _ zn hn (by rw[bM];rfl) ne ((hf2.upd ne hn).mono #[0])
 simp[Er];refine iO #[1] #[1] #[0] #[1] (hf.upd nc hc0) fun f m1 f0 f1 hf1 hk1=>?_
 have q1:=hk1 c _ nc bM
 simp[Jh]
 by_cases c3:f<3
 ·right
  obtain⟨i,rfl⟩:∃ i:Nat,f=i:=⟨f.toNat,by omega⟩
  have hi:i<SM.length:=by show i<3;omega
  have q1:m1 c=some (.l (SM.map fun S=>.list (S.map .str))):=q1
  have ei:bT (SM.map fun S=>PyData.list (S.map .str)) (i:Int)=some (.list (SM[i].map .str)):=iD (by rw[List.getElem?_map,List.getElem?_eq_getElem hi];rfl)
  obtain⟨s1,s2,s3⟩:=R5 SM[i] (List.getElem_mem hi);refine⟨c3,_,q1,_,ei,?_⟩;refine iO #[1] #[1] #[0] #[1] hf1 fun r m2 r0 r1 hf2 hk2=>?_
  have q2:=hk2 c _ nc q1
  obtain⟨k,rfl⟩:∃ k:Nat,r=k:=⟨r.toNat,by omega⟩
  refine⟨_,rfl,.inr (.inl ⟨_,rfl,_,q2,_,ei,?_⟩)⟩;rw[oZ (by rw[av,s1];omega)]
  have e9:(SM[i].map PyData.str).drop k++SM[i].map PyData.str=(SM[i].drop k++SM[i]).map .str:=by rw[List.map_append,List.map_drop]
  refine⟨?_,?_⟩
  ·refine Nat.le_trans (show _<=100 from ?_) (sz #[1])
   simp;omega
  rw[e9];refine tail _ _ _ _ _ ⟨?_,?_,fun z hz=>?_⟩ #[1] hf2
  ·simp;omega
  ·exact s3 k #[0] N.length #[0]
  ·rcases List.mem_append.mp hz with hz | hz
   ·exact s2 z (List.mem_of_mem_drop hz)
   ·exact s2 z hz
 ·left
  refine⟨by omega,?_⟩
  simp[Eg];refine gH #[0] #[0] #[0] #[1] hf1 fun r m2 r0 r1 hf2=>?_
  obtain⟨k,rfl⟩:∃ k:Nat,r=k:=⟨r.toNat,by omega⟩
  have hk:k<=(N.map PyData.str).length:=by simp;omega
  simp[Mq];rw[oZ hk,Od hk];have e9:(N.map PyData.str).drop k++(N.map PyData.str).take k=(N.drop k++N.take k).map .str:=by rw[List.map_append,List.map_drop,List.map_take]
  have pm:(N.drop k++N.take k).Perm N:=(List.perm_append_comm).trans (by rw[List.take_append_drop])
  have l9:((N.drop k++N.take k).map PyData.str).length<=6:=by rw[av,pm.length_eq];omega
  have wn:∀ W:List Str,W.Perm N->Wn N W:=fun W pw=>by
   refine⟨by rw[pw.length_eq];exact ak _,?_,fun z hz=>hN.mem (by rw[<- eN];exact pw.mem_iff.mp hz)⟩
   rw[List.take_of_length_le (by rw[pw.length_eq];exact ak _)]
   exact pw.nodup_iff.mpr (by rw[eN];exact hN.nd)
  refine⟨?_,sz (n:=2) #[1],?_⟩
  ·refine Nat.le_trans (show _<=100 from ?_) (sz #[1])
   simp;omega
  rw[e9];obtain rfl | rfl:f=3\/f=4:=by omega
  ·refine⟨_,rfl,_,rfl,by decide,?_⟩
   rw[L8 _ l9];exact tail _ _ _ _ _ (wn _ pm) #[1] hf2
  ·refine⟨_,rfl,_,rfl,by decide,?_⟩
   rw[Vc _ l9,<- List.map_reverse];exact tail _ _ _ _ _ (wn _ ((List.reverse_perm _).trans pm)) #[1] hf2
theorem Sh.rep{n d:Nat}{p:PyData}(h:Sh n d p)(hn:n<=1000000)(hd:d<=100):p.showable=true/\p.shown.length<=sizeLine/\p.depth<=100 :=
 ⟨h.1,Nat.le_trans h.2.1 (Nat.le_trans hn (by rw[sizeLine_eq];decide)),Nat.le_trans h.2.2 hd⟩
theorem vA{p:PyData}(h:Fr 20 p):Sh 200 2 p:=by
 obtain⟨x,rfl,_,h1,h2⟩:=h;refine fL (n:=70) (d:=1) (fun p hp=>?_) #[2]
 simp at hp;rcases hp with rfl | rfl
 ·exact nR (h1.mono #[1])
 ·exact nR (h2.mono #[1])
theorem Vz{k:Bool}{p:PyData}(h:Tm k p):Sh 500 3 p:=by
 rcases h with⟨_,h⟩ | ⟨_,x,y,rfl,hx,hy⟩
 ·exact(vA h).mono #[1] #[1]
 ·refine fL (n:=200) (d:=2) (fun p hp=>?_) #[2]
  simp at hp;rcases hp with rfl | rfl
  ·exact vA hx
  ·exact vA hy
theorem Me:∀ {ts:List (Str×Bool)} {ps:List PyData},TmAll ts ps->ps.length=ts.length/\∀ p∈ps,Sh 500 3 p
 | [],[],_=>⟨rfl,by simp⟩
 | t::ts,p::ps,h=>by
  obtain⟨q1,q2⟩:=Me h.2;refine⟨by simp[q1],fun x hx=>?_⟩
  rcases List.mem_cons.mp hx with rfl | hx
  ·exact Vz h.1
  ·exact q2 x hx
 | [],_::_,h=>h.elim
 | _::_,[],h=>h.elim
theorem Cy{ts:List (Str×Bool)}{ps:List PyData}(hn:ts.length<=6)(h:TmAll ts ps):Sh 6000 4 (.tuple ps):=by
 obtain⟨q1,q2⟩:=Me h;exact fL (n:=500) (d:=3) q2 #[0]
theorem pU{ts:List (Str×Bool)}{ss:List Say}(hN:Nm ts)(h2:ss.length<=24)(h3:∀ s∈ss,s.ok ts):Sh 400000 22 (dM ts ss):=by
 have s1:Sh 150000 21 (.tuple (ss.map Say.p)):=fL (n:=6000) (d:=20) (fun p hp=>by
  obtain⟨s,hs,rfl⟩:=List.mem_map.mp hp;exact Us hN (h3 s hs)) (by simp;omega)
 exact fL (n:=150000) (d:=21) (N:=400000) (fun p hp=>by
  simp at hp;rcases hp with rfl | rfl
  ·exact Sh.mono (n:=6000) (d:=20) (O0 hN) #[1] #[1]
  ·exact s1) #[2]
theorem Mp{ts:List (Str×Bool)}{rs:List dO}(hN:Nm ts)(h:TabOk ts rs):Sh 60000 4 (TB rs):=by
 have lrs:rs.length<=36:=by
  have l1:=congrArg List.length h.1
  have l2:=oE (ts.map (·.1))
  rw[av]at l1;rw[av]at l2;have:=hN.2.1
  have:ts.length*ts.length<=6*6:=Nat.mul_le_mul this this
  omega
 refine fL (n:=1000) (d:=3) (fun p hp=>?_) (by simp;omega)
 obtain⟨r,hr,rfl⟩:=List.mem_map.mp hp;have hp:(r.1,r.2.1)∈bO (ts.map (·.1)):=by rw[<- h.1];exact List.mem_map.mpr ⟨r,hr,rfl⟩
 have m:=gI hp
 refine fL (n:=320) (d:=2) (fun q hq=>?_) #[2]
 simp at hq;rcases hq with rfl | rfl | rfl
 ·exact(rH (hN.mem m.1)).mono #[1] #[1]
 ·exact(rH (hN.mem m.2)).mono #[1] #[1]
 ·exact Ox (h.2 r hr)
theorem Fm:∀ {zs:List (Str×Str)},(∀ z∈zs,z.1∈eQ/\z.2∈eQ)->((PyData.shownKv (zs.map dC)).map (·.length)).sum<=42*zs.length
 | [],_=>by simp[PyData.shownKv]
 | z::zs,h=>by
  have ih:=Fm (zs:=zs) fun y hy=>h y (aq _ hy)
  have h1:=(mF _ (h z List.mem_cons_self).1).2
  have h2:=(mF _ (h z List.mem_cons_self).2).2
  simp only[au,PyData.shownKv,List.sum_cons,List.length_cons];rw[strLen_append,strLen_append];have e:(": " : Str).length=2:=rfl
  omega
theorem Vh{ts:List (Str×Bool)}{zs:List (Str×Str)}(h:Zn ts zs):Sh 300 3 (.dict (zs.map dC)):=by
 refine⟨by simpa only[PyData.showable] using sU zs,?_,rX zs⟩
 have h1:=Fm h.inN
 have h2:=dictText_len_le (PyData.shownKv (zs.map dC))
 have h3:=PyData.shownKv_length (zs.map dC)
 have h4:=h.len
 rw[av]at h3;simp only[PyData.shown];omega
theorem pM{α:Type}{f:α->PyData}:∀ {l:List α},(∀ x∈l,iL (f x)=true)->noLs (l.map f)=true
 | [],_=>rfl
 | x::l,h=>by
  simp only[au,noLs,h x List.mem_cons_self,pM fun y hy=>h y (aq _ hy),Bool.and_self]
theorem FN(ts:List (Str×Bool))(ss:List Say):iL (dM ts ss)=true:=by
 have h1:noLs (ts.map fun t=>PyData.tuple [.str t.1,.str (kd t.2)])=true:=pM fun _ _=>rfl
 have h2:noLs (ss.map Say.p)=true:=pM fun s _=>by
  cases s with
  | may a b ws =>
   have:noLs (ws.map PyData.str)=true:=pM fun _ _=>rfl
   simp[Say.p,iL,noLs,this]
  | gap x y q st=>rfl
 simp[iL,noLs,h1,h2]
theorem DY{ts:List (Str×Bool)}{ss:List Say}{zs:List (Str×Str)}(hN:Nm ts)(hZ:Zn ts zs)(h2:ss.length<=24)(h3:∀ s∈ss,s.ok ts):Sh 900000 23 (.tuple [dM ts ss,.dict (zs.map dC)]):=by
 refine fL (n:=400000) (d:=22) (fun p hp=>?_) #[2]
 simp only[List.mem_cons,List.not_mem_nil,or_false]at hp;rcases hp with rfl | rfl
 ·exact pU hN h2 h3
 ·exact(Vh hZ).mono #[1] #[1]
theorem O9{b n:Int}{m0 m:Mu}{a c:Addr}(h:Fed b n m0 m a)(ne:c≠a)(hc:m0 c=none):Fed b n m0 (eL m c) a:=by
 obtain⟨⟨ns,i,j,q1,q2⟩,h2⟩:=h;refine⟨⟨ns,i,j,?_,q2⟩,fun d hd hs=>?_⟩
 ·unfold eL;rw[if_neg (Ne.symm ne)];exact q1
 ·unfold eL;rw[if_neg]
  ·exact h2 d hd hs
  ·rintro rfl;rw[hc]at hs
   cases hs
theorem jB:0<=sizeLine:=sz #[1]
theorem jH:1<=sizeLine:=sz #[1]
theorem jD:2<=sizeLine:=sz #[1]
theorem jF:3<=sizeLine:=sz #[1]
theorem jM:4<=sizeLine:=sz #[1]
theorem jO:5<=sizeLine:=sz #[1]
theorem iZ:6<=sizeLine:=sz #[1]
theorem T6:∀ ds m R,ds.length=Qi.length->nH ds m R->uD (EN R) (bN Oi ds) m:=by
 rintro ds m R hl ⟨ns,rfl,hn,h⟩;simp[uD];refine⟨ns,rfl,hn,fun a m1 hT=>?_⟩;simp[Fv];refine lY (n:=3) (fun i d m'=>(∃ o2 o3 o4 o5 o6 o7 o8 o9 o10 o11 o12,d=[some (.dat (.list (ns.map .int))),some (.cel a),o2,o3,o4,o5,o6,o7,o8,o9,o10,o11,o12])/\Tp (3000*(i:Int)) m' a) ?_ ?_ _ _ ⟨⟨_,_,_,_,_,_,_,_,_,_,_,rfl⟩,by simpa using hT⟩
 ·rintro d m3 ⟨⟨o2,o3,o4,o5,o6,o7,o8,o9,o10,o11,o12,rfl⟩,_⟩
  repeat first | refine⟨rfl,?_⟩ | refine⟨_,rfl,?_⟩ | refine⟨jB,?_⟩ | refine⟨jH,?_⟩ | refine⟨jD,?_⟩ | refine⟨jF,?_⟩ | refine⟨jM,?_⟩ | refine⟨jO,?_⟩ | refine⟨iZ,?_⟩
  exact h m3
 ·rintro i hi k hk d m3 ⟨⟨o2,o3,o4,o5,o6,o7,o8,o9,o10,o11,o12,rfl⟩,hT3⟩
  repeat first | refine⟨rfl,?_⟩ | refine⟨_,rfl,?_⟩ | refine⟨jB,?_⟩ | refine⟨jH,?_⟩ | refine⟨jD,?_⟩ | refine⟨jF,?_⟩ | refine⟨jM,?_⟩ | refine⟨jO,?_⟩ | refine⟨iZ,?_⟩
  refine⟨a,3000*(i:Int),rfl,by omega,hT3,fun ts ss m4 hN hs1 hs2 hf4=>?_⟩
  repeat first | refine⟨rfl,?_⟩ | refine⟨_,rfl,?_⟩ | refine⟨jB,?_⟩ | refine⟨jH,?_⟩ | refine⟨jD,?_⟩ | refine⟨jF,?_⟩ | refine⟨jM,?_⟩ | refine⟨jO,?_⟩ | refine⟨iZ,?_⟩
  simp[Hd];refine⟨a,ts,3000*(i:Int)+2000,rfl,hN,by omega,hf4.1,fun zs c m5 hZ hc hm5 nc hf5=>?_⟩
  refine⟨c,rfl,hc,_,hm5,_,rfl,?_⟩;have hf6:=hf4.trans (O9 hf5 nc hc)
  have hZb:∀ {ts'},RT zs ts ts'->Zn ts' (bk zs):=fun rt=>hZ.bk hN rt
  rw[List.map_map];have body:∀ m6,Fed (2000+10) (3000*(i:Int)) m3 m6 a->xT {nx:=k,rt:=R,bk:=yE (EN R),ct:=k} [some (.dat (.list (ns.map .int))),some (.cel a),some (I (i:Int)),some (.dat (dM ts ss)),some (.dat (TH ts)),some (.dat (FD zs)),o6,o7,o8,o9,o10,o11,o12] m6:=by
   intro m6 hf6;obtain⟨sp1,sp2,sp3⟩:=DY hN hZ hs1 hs2;obtain⟨t1,t2,t3⟩:=(pU hN hs1 hs2).rep #[1] #[1]
   obtain⟨K,eK⟩:∃ K,K=(PyData.tuple [dM ts ss,.dict (zs.map dC)]).shown:=⟨_,rfl⟩;have spl:(PyData.tuple [dM ts ss,.dict (zs.map dC)]).shown.length<=sizeLine:=Nat.le_trans sp2 (by rw[sizeLine_eq];decide)
   have rep:∀ (m':Mu) (Q:DK),Q (.dat (.str K)) m'->lW [.dat (.tuple [dM ts ss,FD zs])] m' Q:=fun m' Q q=>by
    refine⟨zs,rfl,hZ.ne,FN ts ss,t1,spl,?_,?_⟩
    ·exact Nat.le_trans (pU hN hs1 hs2).2.2 #[1]
    ·rw[<- eK];exact q
   simp only[xT,aI,iQ,lH,aT,bD,aB,aG,bQ,aA];refine⟨_,rfl,rfl,⟨zs,rfl,hZ.len,hZ.nk,hZ.nv,fun c hc=>⟨c,_,_,rfl,hc,bM,rfl,?_⟩⟩⟩;refine⟨_,rfl,_,rfl,_,rfl,sz (n:=2) #[1],rep _ _ ⟨_,_,rfl,?_⟩⟩
   rw[List.map_map];have hf7:=hf6.kp (yL (x:=.d (cs (bk zs))) hc)
   have rest:∀ m7,Fed (2000+10) (3000*(i:Int)) m3 m7 a->Jx {nx:=k,rt:=R,bk:=yE (EN R),ct:=k} [some (.dat (.list (ns.map .int))),some (.cel a),some (I (i:Int)),some (.dat (dM ts ss)),some (.dat (TH ts)),some (.dat (FD zs)),some (.dat (FD (bk zs))),some (.dat (.str K)),o8,o9,o10,o11,o12] m7:=by
    intro m7 hf7
    repeat first | refine⟨rfl,?_⟩ | refine⟨_,rfl,?_⟩ | refine⟨jB,?_⟩ | refine⟨jH,?_⟩ | refine⟨jD,?_⟩ | refine⟨jF,?_⟩ | refine⟨jM,?_⟩ | refine⟨jO,?_⟩ | refine⟨iZ,?_⟩
    refine⟨ts,ss,zs,rfl,hN,hZ,hs1,hs2,fun ts' rt=>?_⟩;have hN':=rt.nm hN hZ
    have hZ':=hZ.bk hN rt
    have rtb:=rt.bk hN hZ
    obtain⟨ss',ess⟩:∃ ss',ss'=ss.map (Say.ren zs):=⟨_,rfl⟩;have hs1':ss'.length<=24:=by rw[ess];simpa using hs1
    have hs2':∀ s∈ss',s.ok ts':=fun s hs=>by
     rw[ess]at hs;obtain⟨u,hu,rfl⟩:=List.mem_map.mp hs;exact B2 rt (hs2 u hu)
    have esb:ss'.map (Say.ren (bk zs))=ss:=by
     rw[ess,List.map_map]
     conv=>rhs;rw[<- List.map_id ss]
     exact List.map_congr_left fun s hs=>CN hZ (hs2 s hs)
    obtain⟨u1,u2,u3⟩:=(pU hN' hs1' hs2').rep #[1] #[1]
    rw[<- ess];simp[yW,u1,u2,u3];refine⟨ts,ss,zs,rfl,hN,hZ,hs1,hs2,fun ts2 m8 rt2 k8=>?_⟩
    cases rt.uniq rt2
    have hf8:=hf7.kp k8
    rw[<- ess];simp[u1,u2,u3];refine⟨ts',ss',bk zs,rfl,hN',hZ',hs1',hs2',fun ts3 rt3=>?_⟩
    cases rtb.uniq rt3
    rw[esb];simp[t1,t2,t3];simp[Jb];refine lY (n:=2) (fun j d m'=>(∃ o9 o10 o11,d=[some (.dat (.list (ns.map .int))),some (.cel a),some (I (i:Int)),some (.dat (dM ts ss)),some (.dat (TH ts)),some (.dat (FD zs)),some (.dat (FD (bk zs))),some (.dat (.str K)),some (.dat (dM ts' ss')),o9,o10,o11,o12])/\Fed (2010+20*(j:Int)) (3000*(i:Int)) m3 m' a) ?_ ?_ _ _ ⟨⟨_,_,_,rfl⟩,hf8.mono #[1]⟩
    ·rintro d m9 ⟨⟨o9,o10,o11,rfl⟩,hf9⟩
     repeat first | refine⟨rfl,?_⟩ | refine⟨_,rfl,?_⟩ | refine⟨jB,?_⟩ | refine⟨jH,?_⟩ | refine⟨jD,?_⟩ | refine⟨jF,?_⟩ | refine⟨jM,?_⟩ | refine⟨jO,?_⟩ | refine⟨iZ,?_⟩
     refine⟨a,ts,_,rfl,hN,?_,hf9.1,fun rs m10 hT hf10=>?_⟩
     ·push_cast
      omega
     have hf10:=hf9.trans hf10
     have hT':=En hN hZ rt hT
     obtain⟨x1,x2,x3⟩:=(Mp hN hT).rep #[1] #[1]
     obtain⟨y1,y2,y3⟩:=(Mp hN' hT').rep #[1] #[1]
     have eb:=Tu hN hZ rt hT
     obtain⟨rs',ers⟩:∃ rs',rs'=fK zs ts' rs:=⟨_,rfl⟩
     repeat first | refine⟨rfl,?_⟩ | refine⟨_,rfl,?_⟩ | refine⟨jB,?_⟩ | refine⟨jH,?_⟩ | refine⟨jD,?_⟩ | refine⟨jF,?_⟩ | refine⟨jM,?_⟩ | refine⟨jO,?_⟩ | refine⟨iZ,?_⟩
     refine⟨ts,zs,rs,rfl,hN,hZ,hT,fun ts2 m11 rt2 k11=>?_⟩
     cases rt.uniq rt2
     have hf11:=hf10.kp k11
     rw[<- ers]at eb y1 y2 y3 hT' ⊢;simp[Lj,y1,y2,y3];refine⟨ts,zs,rs,rfl,hN,hZ,hT,fun ts2 m12 rt2 k12=>?_⟩
     cases rt.uniq rt2
     have hf12:=hf11.kp k12
     rw[<- ers];simp[y1,y2,y3];simp[Jn,-lW];refine⟨ts',bk zs,rs',rfl,hN',hZ',hT',fun ts2 m13 rt2 k13=>?_⟩
     cases rtb.uniq rt2
     have hf13:=hf12.kp k13
     rw[eb];simp only[fN];refine⟨x1,x2,x3,x1,x2,x3,.inl ⟨by simp,sz (n:=2) #[1],?_⟩⟩
     refine rep m13 _ ?_;refine .inl ⟨by simp,hk _ _ ⟨⟨_,_,_,_,_,_,_,_,_,_,_,rfl⟩,?_⟩⟩
     obtain⟨xs,u,v,r1,r2,r3,r4,r5⟩:=hf13.1;exact⟨xs,u,v,r1,r2,r3,by push_cast at r4 ⊢;omega,r5⟩
    ·rintro j hj k2 hk2 d m9 ⟨⟨o9,o10,o11,rfl⟩,hf9⟩
     repeat first | refine⟨rfl,?_⟩ | refine⟨_,rfl,?_⟩ | refine⟨jB,?_⟩ | refine⟨jH,?_⟩ | refine⟨jD,?_⟩ | refine⟨jF,?_⟩ | refine⟨jM,?_⟩ | refine⟨jO,?_⟩ | refine⟨iZ,?_⟩
     refine⟨a,ts,_,rfl,hN.2.1,?_,hf9.1,fun ps m10 hps hf10=>?_⟩
     ·omega
     have hf10:=hf9.trans hf10
     have hpl:=hps.out.1
     have hps':=Zr hN hZ rt hps
     have eb:=P9 hN hZ rt hpl
     obtain⟨v1,v2,v3⟩:=(Cy hN.2.1 hps).rep #[1] #[1]
     obtain⟨w1,w2,w3⟩:=(Cy hN'.2.1 hps').rep #[1] #[1]
     have ek:ss'.all (fQ (lk ts' (fG zs ts ts' ps)))=ss.all (fQ (lk ts ps)):=by
      rw[ess,List.all_map];have:∀ l:List Say,(∀ s∈l,s.ok ts)->(l.all (fQ (lk ts' (fG zs ts ts' ps))∘Say.ren zs))=l.all (fQ (lk ts ps)):=by
       intro l
       induction l with
       | nil=>intro _;rfl
       | cons s l ih =>
        intro hl;simp only[List.all_cons];rw[ih fun s hs=>hl s (aq _ hs)]
        congr 1
        exact AA hN hZ rt (hl s List.mem_cons_self)
      exact this ss hs2
     obtain⟨ps',eps⟩:∃ ps',ps'=fG zs ts ts' ps:=⟨_,rfl⟩
     repeat first | refine⟨rfl,?_⟩ | refine⟨_,rfl,?_⟩ | refine⟨jB,?_⟩ | refine⟨jH,?_⟩ | refine⟨jD,?_⟩ | refine⟨jF,?_⟩ | refine⟨jM,?_⟩ | refine⟨jO,?_⟩ | refine⟨iZ,?_⟩
     refine⟨ts,zs,ps,rfl,hN,hZ,hpl,fun ts2 m11 rt2 k11=>?_⟩
     cases rt.uniq rt2
     have hf11:=hf10.kp k11
     rw[<- eps]at eb w1 w2 w3 hps' ek ⊢;simp[Ai,w1,w2,w3];refine⟨ts,zs,ps,rfl,hN,hZ,hpl,fun ts2 m12 rt2 k12=>?_⟩
     cases rt.uniq rt2
     have hf12:=hf11.kp k12
     rw[<- eps];simp[w1,w2,w3]
     repeat first | refine⟨rfl,?_⟩ | refine⟨_,rfl,?_⟩ | refine⟨jB,?_⟩ | refine⟨jH,?_⟩ | refine⟨jD,?_⟩ | refine⟨jF,?_⟩ | refine⟨jM,?_⟩ | refine⟨jO,?_⟩ | refine⟨iZ,?_⟩
     refine⟨ts',bk zs,ps',rfl,hN',hZ',hps'.out.1,fun ts2 m13 rt2 k13=>?_⟩
     cases rtb.uniq rt2
     have hf13:=hf12.kp k13
     rw[eb];simp[v1,v2,v3];simp[Pi];refine⟨ts,ss,ps,rfl,hN,hps,hs1,hs2,fun m14 k14=>?_⟩;have hf14:=hf13.kp k14
     refine⟨ts',ss',ps',rfl,hN',hps',hs1',hs2',fun m15 k15=>?_⟩;have hf15:=hf14.kp k15
     rw[ek];simp[PyData.canLay0,PyData.depth];refine .inl ⟨SeqAt.eqv_refl _ rfl,hk2 _ _ ⟨⟨_,_,_,rfl⟩,hf15.mono (by push_cast;omega)⟩⟩
   exact rest _ hf7
  exact body _ hf6
end K83
namespace HD
open PySem PySem.W
section
variable {α β:Type}{tb:String->Option Builtin}{p:Program}{w:World}{n₀:Nat}{ann:Option Value}{c:Code}{B:List Frame}
theorem Ja{b:Nat}:∀ {n m:Nat} {s s1 s2:Shared} {t t1 t2:Thread},segGo tb p w n₀ ann b n s t=some (s1,t1)->segGo tb p w n₀ ann b m s1 t1=some (s2,t2)->segGo tb p w n₀ ann b (n+m) s t=some (s2,t2)
 | 0,m,s,s1,s2,t,t1,t2,h,k=>by
  obtain⟨rfl,rfl⟩:s=s1/\t=t1:=by simpa[segGo] using h
  rw[Nat.zero_add];exact k
 | n+1,m,s,s1,s2,t,t1,t2,h,k=>by
  rw[show n+1+m=n+m+1 by omega]
  unfold segGo at h ⊢
  cases he:endAt b t with
  | some f=>rw[he]at h;cases h
  | none =>
   rw[he]at h
   cases hk:stepOk n₀ ann t with
   | false=>rw[hk]at h;cases h
   | true =>
    rw[hk]at h
    cases hs:step (denote tb) p w s t with
    | halt o s'=>rw[hs]at h;cases h
    | go s' t'=>rw[hs]at h;exact Ja h k
def R(N:Nat)(tb:String->Option Builtin)(p:Program)(w:World)(n₀:Nat)(ann:Option Value)(c:Code)(B:List Frame)(m:Sem α)(s:Shared)(pos:Pos)(a:α)(s':Shared)(pos':Pos):Prop :=
 ∀ (K:α->Sem Fin) (H:Value->Sem Fin) (gd:Bool->Bool) (lv:List Value->List Value),∃ n,n<=N/\segGo tb p w n₀ ann B.length n s ⟨m.wrap K H gd lv,c,pos,B⟩=some (s',⟨K a,c,pos',B⟩)
variable {s s1 s':Shared}{pos pos1 pos':Pos}{N N1 N2:Nat}
theorem R.pure{a:α}:R 0 tb p w n₀ ann c B (Pure.pure a) s pos a s pos:=fun K H gd lv=>⟨0,ak _,rfl⟩
theorem R.mono{m:Sem α}{a:α}(hN:N1<=N)(h:R N1 tb p w n₀ ann c B m s pos a s' pos'):R N tb p w n₀ ann c B m s pos a s' pos':=fun K H gd lv=>let ⟨n,l,e⟩:=h K H gd lv;⟨n,Nat.le_trans l hN,e⟩
theorem R.bind{m:Sem α}{f:α->Sem β}{a:α}{b:β}(h:R N1 tb p w n₀ ann c B m s pos a s1 pos1)(k:R N2 tb p w n₀ ann c B (f a) s1 pos1 b s' pos'):R (N1+N2) tb p w n₀ ann c B (m>>=f) s pos b s' pos':=fun K H gd lv=>by
 obtain⟨n1,l1,e1⟩:=h (fun a=>(f a).wrap K H gd lv) H gd lv;obtain⟨n2,l2,e2⟩:=k K H gd lv;refine⟨n1+n2,Nat.add_le_add l1 l2,?_⟩;have e:(m>>=f).wrap K H gd lv=m.wrap (fun a=>(f a).wrap K H gd lv) H gd lv:=by
  rw[Sem.bind_eq_wrap',Sem.wrap_wrap];rfl
 rw[e];exact Ja e1 e2
end
section
variable {α β:Type}{tb:String->Option Builtin}{p:Program}{w:World}{n₀:Nat}{ann:Option Value}{c:Code}{B:List Frame}{s s1 s':Shared}{pos pos1 pos':Pos}
def keysOf:Stmt->List (Option Expr) | .Assign [.Name _ _] (.Dict ks _ _) _=>ks | _=>[]
end
end HD
set_option maxHeartbeats 0
namespace H83
open PySem PySem.W HD
abbrev prog:Program:=PySem.Challenge.pw_whens_k83_renamed
abbrev q0:Pos:=⟨0,0,0,0⟩
def mf(k:Nat)(cl:Value)(g:Addr)(clo:List (Str×Addr))(d kd dc pm:Value)(an:Option Addr)(cd ct:Value)(bi:Addr):Obj:=match prog.main.body.getD k (.Pass q0) with
 | .FunctionDef n a b _ _ _ s _ _ _=>⟨cl,none,.func ⟨n,n,a,.stmts b,s,g,clo,d,kd,dc,pm,an,cd,ct,bi⟩,#[]⟩
 | _=>⟨cl,none,.plain,#[]⟩
def tq(xs:List Value):Obj:=⟨.type "tuple",none,.seq xs.toArray,#[]⟩
def lf(o:Obj):BT:=.node o .nil .nil
def ts(t:Nat)(xs:List Str):Obj:=tq (xs.mapIdx fun i x=>.str x (t+i))
def fo(k:Nat)(m:Str)(t c:Nat):Obj:=mf k (.type "function") 3 [] .none .none .none (.str m t) none (.ref c) .none 0
def mz(k:Nat):Obj:=mf k .none 0 [] .none .none .none .none none .none .none 0
def oz:Obj:=⟨.none,none,.fields #[],#[]⟩
def cc(n:Str)(t:Nat)(L c:Int)(a b e:Nat)(x y:Value):Obj:=⟨.type "code",none,.fields #[.str n t,.str n (t+1),.str "/claim/cut.py" (t+2),.int L 0,.int c 0,.int 0 0,.int 0 0,.int 3 0,.ref a,.bool true,.int 181 0,.ref (a+1),.none,x,y,.ref b,.int (.ofNat e) 0,.int L 0,.str "/claim/cut.py" (e+1)],#[]⟩
def c0(n:Str)(t:Nat)(L c:Int)(a e:Nat):Obj:=cc n t L c a (a+2) e .none .none
def c1(n:Str)(t:Nat)(L c:Int)(a e:Nat):Obj:=cc n t L c a (a+4) e (.ref (a+2)) (.ref (a+3))
noncomputable section
def er(P:Params)(x:Str)(t a:Nat):DictEntry:=⟨PyData.keyHash P x,.str x t,.ref a⟩
def o3(P:Params):Obj:=⟨.type "dict",none,.dict #[⟨PyData.keyHash P "__name__",.str "__name__" 165,.str "law_whens_k83_renamed" 310⟩,⟨PyData.keyHash P "__doc__",.str "__doc__" 166,.none⟩,⟨PyData.keyHash P "__package__",.str "__package__" 167,.none⟩,⟨PyData.keyHash P "__loader__",.str "__loader__" 168,Value.builtin "__main__.__loader__#opaque"⟩,⟨PyData.keyHash P "__spec__",.str "__spec__" 169,.none⟩,er P "__annotations__" 170 6,er P "__builtins__" 171 4,⟨PyData.keyHash P "__file__",.str "__file__" 173,.str "/claim/cut.py" 172⟩,⟨PyData.keyHash P "__cached__",.str "__cached__" 174,.none⟩,er P "ORDER" 202 15,er P "turned" 209 22,er P "turned_may" 215 27,er P "names_of" 223 32,er P "pairs_of" 229 37,er P "times_of" 238 44,er P "words_at" 253 51,er P "renamed_things" 261 56,er P "elder_names" 267 61,er P "renamed_end" 275 68,er P "renamed_saying" 291 75,er P "renamed" 297 80,er P "renamed_telling" 303 85,er P "renamed_table" 309 90,er P "_law_tape" 318 97,er P "_law_draw" 330 104,er P "_law_frac" 340 111,er P "_law_cmp" 350 118,er P "_law_things" 366 125,er P "_law_telling" 379 132,er P "_law_pair" 387 139,er P "_law_word" 398 146,er P "_law_words" 407 153,er P "_law_by" 419 160,er P "_law_time" 429 167,er P "_law_may" 435 172,er P "_law_ends" 445 179,er P "_law_gap" 461 186,er P "_law_sayings" 475 193,er P "_law_talk" 486 200,er P "_law_so" 498 207,er P "_law_keeps" 504 212,er P "_law_table" 510 217,er P "_law_turned" 518 224,er P "_law_all_words" 525 231,er P "_law_new_names" 531 236,er P "_law_named_talk" 537 241,er P "_law_named_telling" 543 246,er P "_law_named_table" 549 251,er P "_law_back" 558 258,er P "law" 577 265] 50,#[]⟩
def o15:Obj:=ts 189 ["ahead","meets","overlaps","begins","within","ends","same","ended","holds","begun","lapped","met","behind"]
def n9:Obj:=tq []
def L4:Obj:=tq [.str "word" 206]
def Tv:Obj:=tq []
def o21:Obj:=c1 "turned" 203 3 1 16 207
def o22:Obj:=fo 2 "whens.words" 187 21
def FT:Obj:=tq []
def o26:Obj:=c0 "turned_may" 210 5 1 23 213
def o27:Obj:=fo 3 "whens.words" 187 26
def Vi:Obj:=tq []
def o31:Obj:=c0 "names_of" 218 8 1 28 221
def o32:Obj:=fo 5 "whens.tellings" 216 31
def Vd:Obj:=tq []
def o36:Obj:=c0 "pairs_of" 224 10 1 33 227
def o37:Obj:=fo 6 "whens.tellings" 216 36
def DD:Obj:=tq []
def Yo:Obj:=ts 233 ["things","telling","name"]
def W4:Obj:=tq []
def o43:Obj:=c1 "times_of" 230 13 3 38 236
def o44:Obj:=fo 7 "whens.tellings" 216 43
def Va:Obj:=tq []
def U6:Obj:=ts 244 ["things","table","a","b","first","second","words"]
def N0:Obj:=tq []
def o50:Obj:=c1 "words_at" 241 16 4 45 251
def o51:Obj:=fo 9 "whens.tables" 239 50
def G8:Obj:=tq []
def o55:Obj:=c0 "renamed_things" 256 24 2 52 259
def o56:Obj:=fo 11 "whens.renaming" 254 55
def ET:Obj:=tq []
def o60:Obj:=c0 "elder_names" 262 26 1 57 265
def o61:Obj:=fo 12 "whens.renaming" 254 60
def K0:Obj:=tq []
def Q8:Obj:=ts 271 ["end","names"]
def AC:Obj:=tq []
def o67:Obj:=c1 "renamed_end" 268 28 2 62 273
def o68:Obj:=fo 13 "whens.renaming" 254 67
def R8:Obj:=tq []
def DV:Obj:=ts 279 ["saying","names","word","a","b","words","x","y","number","strict"]
def DW:Obj:=tq []
def o74:Obj:=c1 "renamed_saying" 276 30 2 69 289
def o75:Obj:=fo 14 "whens.renaming" 254 74
def BN:Obj:=tq []
def o79:Obj:=c0 "renamed" 292 36 2 76 295
def o80:Obj:=fo 15 "whens.renaming" 254 79
def AQ:Obj:=tq []
def o84:Obj:=c0 "renamed_telling" 298 39 3 81 301
def o85:Obj:=fo 16 "whens.renaming" 254 84
def Xj:Obj:=tq []
def o89:Obj:=c0 "renamed_table" 304 42 3 86 307
def o90:Obj:=fo 17 "whens.renaming" 254 89
def w4:Obj:=tq []
def T9:Obj:=tq [.str "_law_script" 315]
def Xc:Obj:=tq []
def o96:Obj:=c1 "_law_tape" 312 47 1 91 316
def o97:Obj:=fo 19 "law_whens_k83_renamed" 310 96
def B9:Obj:=tq []
def Zb:Obj:=ts 322 ["_law_tape_here","_law_many","_law_found","_law_spot","_law_cell","_law_mixed"]
def M9:Obj:=tq []
def o103:Obj:=c1 "_law_draw" 319 49 2 98 328
def o104:Obj:=fo 20 "law_whens_k83_renamed" 310 103
def U1:Obj:=tq []
def P7:Obj:=ts 334 ["_law_top","_law_bottom","_law_one","_law_other"]
def FA:Obj:=tq []
def o110:Obj:=c1 "_law_frac" 331 65 2 105 338
def o111:Obj:=fo 21 "law_whens_k83_renamed" 310 110
def Sf:Obj:=tq []
def DP:Obj:=ts 344 ["_law_one","_law_other","_law_left","_law_right"]
def Ye:Obj:=tq []
def o117:Obj:=c1 "_law_cmp" 341 70 2 112 348
def o118:Obj:=fo 22 "law_whens_k83_renamed" 310 117
def Tx:Obj:=tq []
def J4:Obj:=ts 354 ["_law_tape_here","_law_most","_law_menu","_law_names","_law_many","_law_first","_law_things_here","_law_left","_law_name","_law_kind"]
def AI:Obj:=tq []
def o124:Obj:=c1 "_law_things" 351 74 2 119 364
def o125:Obj:=fo 23 "law_whens_k83_renamed" 310 124
def Q0:Obj:=tq []
def Zx:Obj:=ts 370 ["_law_tape_here","_law_things_here","_law_found","_law_name","_law_kind","_law_bottom","_law_begin"]
def EE:Obj:=tq []
def o131:Obj:=c1 "_law_telling" 367 92 2 126 377
def o132:Obj:=fo 24 "law_whens_k83_renamed" 310 131
def X2:Obj:=tq []
def v7:Obj:=ts 383 ["_law_kind","_law_when"]
def DF:Obj:=tq []
def o138:Obj:=c1 "_law_pair" 380 102 2 133 385
def o139:Obj:=fo 25 "law_whens_k83_renamed" 310 138
def Vo:Obj:=tq []
def Vf:Obj:=ts 391 ["_law_one","_law_other","_law_first","_law_second","_law_rows"]
def Ug:Obj:=tq []
def o145:Obj:=c1 "_law_word" 388 104 2 140 396
def o146:Obj:=fo 26 "law_whens_k83_renamed" 310 145
def k7:Obj:=tq []
def Td:Obj:=ts 402 ["_law_one","_law_other","_law_order"]
def b7:Obj:=tq []
def o152:Obj:=c1 "_law_words" 399 117 2 147 405
def o153:Obj:=fo 27 "law_whens_k83_renamed" 310 152
def Y7:Obj:=tq []
def AX:Obj:=ts 411 ["_law_things_here","_law_telling_here","_law_found","_law_name","_law_kind","_law_when"]
def A3:Obj:=tq []
def o159:Obj:=c1 "_law_by" 408 125 2 154 417
def o160:Obj:=fo 28 "law_whens_k83_renamed" 310 159
def Si:Obj:=tq []
def CP:Obj:=ts 423 ["_law_known","_law_end","_law_kind","_law_when"]
def P1:Obj:=tq []
def o166:Obj:=c1 "_law_time" 420 130 2 161 427
def o167:Obj:=fo 29 "law_whens_k83_renamed" 310 166
def Zh:Obj:=tq []
def o171:Obj:=c0 "_law_may" 430 133 3 168 433
def o172:Obj:=fo 30 "law_whens_k83_renamed" 310 171
def Ww:Obj:=tq []
def Wv:Obj:=ts 439 ["_law_things_here","_law_found","_law_name","_law_kind"]
def S0:Obj:=tq []
def o178:Obj:=c1 "_law_ends" 436 142 1 173 443
def o179:Obj:=fo 31 "law_whens_k83_renamed" 310 178
def Yz:Obj:=tq []
def Uk:Obj:=ts 449 ["_law_tape_here","_law_things_here","_law_known","_law_ends_here","_law_a","_law_b","_law_one","_law_other","_law_number","_law_more"]
def W8:Obj:=tq []
def o185:Obj:=c1 "_law_gap" 446 147 3 180 459
def o186:Obj:=fo 32 "law_whens_k83_renamed" 310 185
def DJ:Obj:=tq []
def z9:Obj:=ts 465 ["_law_tape_here","_law_things_here","_law_telling_here","_law_most","_law_gaps","_law_known","_law_found","_law_k"]
def Se:Obj:=tq []
def o192:Obj:=c1 "_law_sayings" 462 156 5 187 473
def o193:Obj:=fo 33 "law_whens_k83_renamed" 310 192
def x8:Obj:=tq []
def DH:Obj:=ts 479 ["_law_tape_here","_law_ends_here","_law_most","_law_gaps","_law_things_here"]
def Uj:Obj:=tq []
def o199:Obj:=c1 "_law_talk" 476 165 4 194 484
def o200:Obj:=fo 34 "law_whens_k83_renamed" 310 199
def w6:Obj:=tq []
def Yk:Obj:=ts 490 ["_law_known","_law_saying","_law_one","_law_other","_law_number","_law_found"]
def P5:Obj:=tq []
def o206:Obj:=c1 "_law_so" 487 168 2 201 496
def o207:Obj:=fo 35 "law_whens_k83_renamed" 310 206
def S6:Obj:=tq []
def o211:Obj:=c0 "_law_keeps" 499 175 2 208 502
def o212:Obj:=fo 36 "law_whens_k83_renamed" 310 211
def Uz:Obj:=tq []
def o216:Obj:=c0 "_law_table" 505 178 2 213 508
def o217:Obj:=fo 37 "law_whens_k83_renamed" 310 216
def BE:Obj:=tq []
def EK:Obj:=ts 514 ["_law_word_here","_law_order"]
def Y2:Obj:=tq []
def o223:Obj:=c1 "_law_turned" 511 185 1 218 516
def o224:Obj:=fo 38 "law_whens_k83_renamed" 310 223
def Y8:Obj:=tq []
def i7:Obj:=tq [.str "_law_first" 522]
def F6:Obj:=tq []
def o230:Obj:=c1 "_law_all_words" 519 189 0 225 523
def o231:Obj:=fo 39 "law_whens_k83_renamed" 310 230
def Zj:Obj:=tq []
def o235:Obj:=c0 "_law_new_names" 526 192 2 232 529
def o236:Obj:=fo 40 "law_whens_k83_renamed" 310 235
def B3:Obj:=tq []
def o240:Obj:=c0 "_law_named_talk" 532 205 2 237 535
def o241:Obj:=fo 41 "law_whens_k83_renamed" 310 240
def Zk:Obj:=tq []
def o245:Obj:=c0 "_law_named_telling" 538 217 3 242 541
def o246:Obj:=fo 42 "law_whens_k83_renamed" 310 245
def A0:Obj:=tq []
def o250:Obj:=c0 "_law_named_table" 544 222 3 247 547
def o251:Obj:=fo 43 "law_whens_k83_renamed" 310 250
def CJ:Obj:=tq []
def v5:Obj:=ts 553 ["_law_names","_law_found","_law_name"]
def k4:Obj:=tq []
def o257:Obj:=c1 "_law_back" 550 233 1 252 556
def o258:Obj:=fo 44 "law_whens_k83_renamed" 310 257
def DN:Obj:=tq []
def Yl:Obj:=ts 562 ["_law_script","_law_tape_here","_law_k","_law_talk_here","_law_things_here","_law_names","_law_back_here","_law_kept","_law_other","_law_turn","_law_telling_here","_law_found","_law_table_here"]
def Zy:Obj:=tq []
def o264:Obj:=c1 "law" 559 238 1 259 575
def o265:Obj:=fo 45 "law_whens_k83_renamed" 310 264
def tF(P:Params):BT:=(.node (boot_o_0 P) (.node (boot_o_1 P) (.node (o3 P) (.node (boot_o_7 P) (.node o15 (.node o31 (.node oz (.node oz (lf k4) .nil) (lf (mz 33))) (.node (mz 19) (lf o159) (lf o223))) (.node U6 (.node o79 (lf Ug) (lf o207)) (.node o111 (lf Wv) (lf (mz 41))))) (.node FT (.node oz (.node DV (.node v7 (lf (mz 45)) .nil) (lf o199)) (.node o103 (lf o167) (lf o231))) (.node o55 (.node oz (lf (mz 27)) (lf (mz 37))) (.node Tx (lf W8) (lf A0))))) (.node (tq []) (.node Tv (.node (mz 6) (.node o67 (.node o131 (lf DN) .nil) (lf oz)) (.node oz (lf CP) (lf i7))) (.node o51 (.node (mz 16) (lf k7) (lf o211)) (.node Ye (lf o179) (lf oz)))) (.node o27 (.node o43 (.node o75 (lf o139) (lf Yk)) (.node P7 (lf o171) (lf o235))) (.node (mz 12) (.node w4 (lf oz) (lf oz)) (.node (mz 23) (lf DJ) (lf o251)))))) (.node (boot_o_5 P) (.node (boot_o_9 P) (.node oz (.node Vd (.node AC (.node EE (lf o257) .nil) (lf o193)) (.node o97 (lf Si) (lf Y8))) (.node (mz 9) (.node AQ (lf o145) (lf oz)) (.node oz (lf (mz 31)) (lf o241)))) (.node (mz 3) (.node W4 (.node (mz 14) (.node (mz 25) (lf o265) .nil) (lf w6)) (.node U1 (lf oz) (lf oz))) (.node ET (.node o89 (lf o153) (lf o217)) (.node J4 (lf o185) (lf (mz 43)))))) (.node (⟨.type "code",none,.fields #[.str "<module>" 182,.str "<module>" 183,.str "/claim/cut.py" 184,.int 1 0,.int 0 0,.int 0 0,.int 0 0,.int 0 0,.ref 11,.bool false,.int 181 0,.ref 12,.none,.none,.none,.none,.int 185 0,.int 1 0,.str "/claim/cut.py" 186],#[]⟩) (.node o21 (.node o37 (.node R8 (.node X2 (lf Yl) .nil) (lf Uj)) (.node M9 (lf (mz 29)) (lf (mz 39)))) (.node oz (.node o85 (lf Td) (lf Uz)) (.node o117 (lf oz) (lf o245)))) (.node oz (.node Va (.node oz (lf oz) (lf (mz 35))) (.node (mz 21) (lf Ww) (lf B3))) (.node o61 (.node T9 (lf A3) (lf Y2)) (.node o125 (lf z9) (lf oz))))))) (.node (boot_o_2 P) (.node (boot_o_4 P) (.node (boot_o_8 P) (.node n9 (.node o32 (.node Q8 (.node Zx (lf (mz 44)) .nil) (lf o192)) (.node o96 (lf o160) (lf o224))) (.node N0 (.node o80 (lf (mz 26)) (lf S6)) (.node Sf (lf S0) (lf o240)))) (.node oz (.node Yo (.node DW (.node DF (lf o264) .nil) (lf o200)) (.node o104 (lf Zh) (lf Zj))) (.node o56 (.node (mz 17) (lf o152) (lf o216)) (.node oz (lf (mz 32)) (lf oz))))) (.node (⟨.none,none,.fields #[.int 3 0,.int 0 0,.ref 21,.int 5 0,.int 0 0,.ref 26,.int 8 0,.int 0 0,.ref 31,.int 10 0,.int 0 0,.ref 36,.int 13 0,.int 0 0,.ref 43,.int 16 0,.int 0 0,.ref 50,.int 24 0,.int 0 0,.ref 55,.int 26 0,.int 0 0,.ref 60,.int 28 0,.int 0 0,.ref 67,.int 30 0,.int 0 0,.ref 74,.int 36 0,.int 0 0,.ref 79,.int 39 0,.int 0 0,.ref 84,.int 42 0,.int 0 0,.ref 89,.int 47 0,.int 0 0,.ref 96,.int 49 0,.int 0 0,.ref 103,.int 65 0,.int 0 0,.ref 110,.int 70 0,.int 0 0,.ref 117,.int 74 0,.int 0 0,.ref 124,.int 92 0,.int 0 0,.ref 131,.int 102 0,.int 0 0,.ref 138,.int 104 0,.int 0 0,.ref 145,.int 117 0,.int 0 0,.ref 152,.int 125 0,.int 0 0,.ref 159,.int 130 0,.int 0 0,.ref 166,.int 133 0,.int 0 0,.ref 171,.int 142 0,.int 0 0,.ref 178,.int 147 0,.int 0 0,.ref 185,.int 156 0,.int 0 0,.ref 192,.int 165 0,.int 0 0,.ref 199,.int 168 0,.int 0 0,.ref 206,.int 175 0,.int 0 0,.ref 211,.int 178 0,.int 0 0,.ref 216,.int 185 0,.int 0 0,.ref 223,.int 189 0,.int 0 0,.ref 230,.int 192 0,.int 0 0,.ref 235,.int 205 0,.int 0 0,.ref 240,.int 217 0,.int 0 0,.ref 245,.int 222 0,.int 0 0,.ref 250,.int 233 0,.int 0 0,.ref 257,.int 238 0,.int 0 0,.ref 264],#[]⟩) (.node (mz 2) (.node o36 (.node o68 (.node o132 (lf oz) .nil) (lf DH)) (.node Zb (lf P1) (lf F6))) (.node G8 (.node o84 (lf oz) (lf o212)) (.node (mz 22) (lf Yz) (lf (mz 42))))) (.node Vi (.node o44 (.node BN (lf Vo) (lf P5)) (.node FA (lf o172) (lf o236))) (.node o60 (.node oz (lf AX) (lf EK)) (.node o124 (lf oz) (lf CJ)))))) (.node (boot_o_6 P) (.node (boot_o_10 P) (.node L4 (.node oz (.node (mz 13) (.node (mz 24) (lf o258) .nil) (lf x8)) (.node B9 (lf oz) (lf oz))) (.node o50 (.node oz (lf o146) (lf (mz 36))) (.node DP (lf o178) (lf Zk)))) (.node o26 (.node (mz 7) (.node o74 (lf o138) (lf oz)) (.node oz (lf (mz 30)) (lf (mz 40)))) (.node oz (.node o90 (lf Y7) (lf BE)) (.node AI (lf o186) (lf o250))))) (.node (⟨.type "frame",none,.plain,#[some (.ref 13),some (.ref 3),some (.ref 3),none,some (.str "__main__" 164),none,some (.ref 0)]⟩) (.node o22 (.node DD (.node oz (.node oz (lf Zy) .nil) (lf (mz 34))) (.node (mz 20) (lf o166) (lf o230))) (.node (mz 11) (.node Xj (lf b7) (lf oz)) (.node o118 (lf Uk) (lf o246)))) (.node (mz 5) (.node oz (.node (mz 15) (lf Vf) (lf o206)) (.node o110 (lf oz) (lf oz))) (.node K0 (.node Xc (lf (mz 28)) (lf (mz 38))) (.node Q0 (lf Se) (lf v5))))))))
def tB(P:Params):BT:=(.node (boot_o_0 P) (.node (boot_o_1 P) (.node (boot_o_3 P) (lf (boot_o_7 P)) (lf (tq []))) (.node (boot_o_5 P) (lf (boot_o_9 P)) (lf (⟨.type "code",none,.fields #[.str "<module>" 182,.str "<module>" 183,.str "/claim/cut.py" 184,.int 1 0,.int 0 0,.int 0 0,.int 0 0,.int 0 0,.ref 11,.bool false,.int 181 0,.ref 12,.none,.none,.none,.none,.int 185 0,.int 1 0,.str "/claim/cut.py" 186],#[]⟩)))) (.node (boot_o_2 P) (.node (boot_o_4 P) (lf (boot_o_8 P)) (lf oz)) (.node (boot_o_6 P) (lf (boot_o_10 P)) (lf (⟨.type "frame",none,.plain,#[some (.ref 13),some (.ref 3),some (.ref 3),none,some (.str "__main__" 164),none,some (.ref 0)]⟩)))))
end
def env0:Env:={scope:=prog.main.scope,locals:=mainNs,globals:=mainNs,cells:=[],code:=.ref 13,frame:=some 14}
def qD(a n:Nat):List Stmt:=(prog.main.body.drop a).take n
end H83
set_option maxHeartbeats 0
namespace H83
open PySem PySem.W HD
abbrev TV(t:BT)(n k:Nat)(os:OsState):SharedT:=⟨t,n,{},⟨[]⟩,{},k,os⟩
section
variable (w:World)(p:Program)(b:List Stmt)(os:OsState)
abbrev cB(b:List Stmt):Code:=Code.body b env0
theorem C6:segRunT treeTable p w 11 (some (.ref 6)) 1 1286 (TV (tB w.params) 15 187 os) (piecesOf (qD 0 46) env0 (cB b) q0 [topFrame q0])=some (.next,TV (tF w.params) 266 578 os,cB b,⟨238,0,263,15⟩):=by
 refine byRow2 "special-get-raises" (P:=fun w=>segRunT treeTable p w 11 (some (.ref 6)) 1 1286 (TV (tB w.params) 15 187 os) (piecesOf (qD 0 46) env0 (cB b) q0 [topFrame q0])=some (.next,TV (tF w.params) 266 578 os,cB b,⟨238,0,263,15⟩)) (fun w=>?_) (fun w=>?_) w
 ·rw[Fast.te10110043849684766642,Fast.te14364793385576792824];kernel_rfl
 ·rw[Fast.te10110043849684766642,Fast.te14364793385576792824];kernel_rfl
end
abbrev bE:List Stmt:=behindTheImports prog
theorem j8:bE=qD 0 46++[]:=by kernel_rfl
abbrev SB(w:World)(os:OsState):SharedT:=⟨tB w.params,15,{},⟨[]⟩,{},187,os⟩
section
variable (w:World)(os:OsState)
theorem V9:topGo treeTable prog w 11 (some (.ref 6)) 12 ⟨boot_heap w.params,⟨[]⟩,boot_drawn,boot_toks,os⟩ (topStub prog)=some ((SB w os).abs,⟨denote treeTable (.body bE env0),.body bE env0,q0,[topFrame q0]⟩):=by
 rw[Fast.te15667345088766844465,Fast.te11892475500146522536,Fast.te14364793385576792824];kernel_rfl
theorem Uv:segRun treeTable prog w 11 (some (.ref 6)) 1 1 (SB w os).abs (blockOf bE env0 (.body bE env0) q0 [topFrame q0])=some (.next,(SB w os).abs,.body bE env0,q0):=by
 kernel_rfl
theorem BX(b:List Stmt):topRun treeTable prog w 11 (some (.ref 6)) 2 (TV (tF w.params) 266 578 os).abs ⟨doneF .next,cB b,⟨238,0,263,15⟩,[topFrame q0]⟩=some (TV (tF w.params) 266 578 os).abs:=by
 kernel_rfl
theorem FH(b:List Stmt):topRun treeTable prog w 11 (some (.ref 6)) (1286+2) (TV (tB w.params) 15 187 os).abs (restOf (qD 0 46++[]) env0 (.body b env0) q0 [topFrame q0])=some (TV (tF w.params) 266 578 os).abs:=by
 exact piece_app (segRun_of (C6 w prog b os)) (piece_nil (BX w os b))
def H1(P:Params):Heap:=absHeap (tF P) 266 {}
theorem Ul:topRun treeTable prog w 11 (some (.ref 6)) (12+(1+((1286+2)))) ⟨boot_heap w.params,⟨[]⟩,boot_drawn,boot_toks,os⟩ (topStub prog)=some ⟨H1 w.params,⟨[]⟩,{},578,os⟩:=by
 refine go_top (V9 w os) (piece_block (Uv w os) ?_);rw[j8];exact FH w os _
end
def qv:Program:=view prog [1,2,3,5,6,7,9,11,12,13,14,15,16,17,19,20,21,22,23,24,25,26,27,28,29,30,31,32,33,34,35,36,37,38,39,40,41,42,43,44,45]
def lo:List Str:=[]
abbrev lw:OpenLaw:=PySem.Challenge.rw_whens_k83_renamed
abbrev XT:Shared->Bool:=fun s=>xlAt qv [] s&&recOk (RowW.records lw.row.toRowW) s
theorem Xp(N:Nat)(h:Nat.ble 600 N=true):∀ w:World,(fencedOpening treeTable prog w N).map (fun s=>(s.heap,s.gens,s.drawn,s.toks))=some (boot_heap w.params,⟨[]⟩,boot_drawn,boot_toks):=boot_open (by kernel_rfl) h (fun _=>rfl)
theorem V4(w:World):((boot_heap w.params).isNs mainGlobals&&(⟨[]⟩:Array GenState).size==0,(boot_heap w.params).objs.size,(boot_heap w.params).nsMap mainGlobals "__annotations__")=(true,11,some (.ref 6)):=by kernel_rfl
theorem p6(w:World)(os:OsState):(staticsOk (importedModules prog.main.body) (boot_heap w.params) (H1 w.params)&&namesBound prog (H1 w.params)&&gensDone ⟨H1 w.params,⟨[]⟩,{},578,os⟩&&laidKept (boot_heap w.params) (H1 w.params))=true:=by kernel_rfl
theorem S8(w:World)(os:OsState):openSeen qv lo (importedModules prog.main.body) XT true ⟨H1 w.params,⟨[]⟩,{},578,os⟩=openGood qv lo:=by
 rw[Fast.te4187177175401517315];kernel_rfl
theorem left(H:Hook)(hH:∀ (w:World) (os:OsState),H.obs ⟨H1 w.params,⟨[]⟩,{},578,os⟩=H.val w):LeftO prog qv lo XT H.obs H.val 3596 :=
 LeftO.of_pieces (H₀:=boot_heap) (H₁:=H1) (gs₀:=⟨[]⟩) (gs₁:=⟨[]⟩) (d₀:=boot_drawn) (d₁:={}) (k₀:=boot_toks) (k₁:=578) (m₀:=11) (ann:=some (.ref 6)) (M:=1301) (Xp 3596 #[1]) V4 Ul #[1] fun w=>funext fun os=>by rw[p6 w os,S8 w os,hH w os]
theorem head{H:Hook}{d:DefRec}{kwd:List (Str×Expr)}(hH:∀ (w:World) (os:OsState),H.obs ⟨H1 w.params,⟨[]⟩,{},578,os⟩=H.val w)(k1:lw.row.wellSaid=true)(hdef:defOf qv lw.row.name=some (d,kwd))(hp:lw.row.prog.theDef lw.row.name=some (d.params,d.body,d.scope))(hk:kwWritten? d.params.kwonlyargs d.params.kw_defaults=some kwd)
  (hw:lw.row.toRowW.promised) (call:WalkO qv lo (XL qv []) H.says lw.row.toRowW d kwd fun f vs=>PySem.call f vs):lw.row.Holds :=
 holds_open (q:=qv) (loose:=lo) (Xt:=XT) (XP:=XL qv []) (Yf:=H.obs) (Ya:=H.val) (YP:=H.says) (N:=3596) (left H hH) (Hook.of H) (Hook.keeps H) (fun s e=>xl_of s (Bool.and_eq_true_iff.mp e).1) XL.keeps hdef hp hk (fun s e=>recFacts_of (Bool.and_eq_true_iff.mp e).2) (by rfl) k1 #[3] ⟨rfl,rfl,rfl,rfl,rfl,by decide +kernel⟩ hw call
end H83
namespace K83
open PySem PySem.Spec PyProof.Rows L2 DL
def Lv:List (Str×Stmt×Addr):=("turned",Fx,22)::("turned_may",Qe,27)::("names_of",zL,32)::("pairs_of",Hw,37)::("times_of",Ob,44)::("words_at",Mt,51)::("renamed_things",Ix,56)::("elder_names",Pw,61)::("renamed_end",Rv,68)::("renamed_saying",Hk,75)::("renamed",Rk,80)::("renamed_telling",Np,85)::("renamed_table",Hq,90)::("_law_tape",yY,97)::("_law_draw",Iu,104)::("_law_frac",Kq,111)::("_law_cmp",Gi,118)::("_law_things",Jz,125)::("_law_telling",Jv,132)::("_law_pair",Ex,139)::("_law_word",Dg,146)::("_law_words",Lk,153)::("_law_by",Iw,160)::("_law_time",Hy,167)::("_law_may",Bb,172)::("_law_ends",Qu,179)::("_law_gap",Gq,186)::("_law_sayings",Nu,193)::("_law_talk",Ek,200)::("_law_so",Mh,207)::("_law_keeps",Ku,212)::("_law_table",Nj,217)::("_law_turned",Bu,224)::("_law_all_words",Jj,231)::("_law_new_names",zX,236)::("_law_named_talk",yV,241)::("_law_named_telling",Ew,246)::("_law_named_table",Qr,251)::("_law_back",Fi,258)::("law",Mw,265)::[]
def Oe:List Str:=["tuple","reversed","enumerate","sorted","list","len","abs","int","zip","range","all","dict","repr"]
section
variable {P:Program}{w:World}{K:ad}{mg:Str->Option Value}{base:Heap}(D:∀ (i:Nat) (nm:Str) (st:Stmt) (a:Addr),Lv[i]?=some (nm,st,a)->Df K mg nm st a)(Z:∀ (i:Nat) (x:Str),Oe[i]?=some x->mg x=none){kR:Addr}(aV:mg "ORDER"=some (.ref kR))(aU:KT K kR ["ahead","meets","overlaps","begins","within","ends","same","ended","holds","begun","lapped","met","behind"])
include D Z aV aU
theorem Yy:Cal P w K mg base "_law_tape" yY 97 Lf 1 wT:=bV _ _ _ _ _ 0 Km uF (D 13 _ _ _ rfl) g8 fun _ _ _ _ _ _ hr nd=>(aJ (bJ (iT (aD (dH g6 rfl (Z 4 _ rfl) Rw (aD (fP (aC 0) iS (eC aK)) aH)) (aD aK (aD aK aH))))) aR)
theorem dI:Cal P w K mg base "_law_draw" Iu 104 Ep 1 cU:=bV _ _ _ _ _ 0 Qf xV (D 14 _ _ _ rfl) BC fun _ _ _ _ _ _ hr nd=>(aJ (cS (bR kJ (aP (aC 0) aK) aK) (aJ (bB 2 nd (bA gY (aP (aC 0) aK) (aC 1))) (aJ (tT (bA nQ (aP (aC 0) aK) (aC 1)) (aC 0) aK) (aJ (bJ (aC 2)) aR))) aR) (aJ (bB 3 nd (aP (aC 0) aK)) (aJ (tT (bA cQ (aC 3) aK) (aC 0) aK) (aJ (bB 4 nd (bA eG (aC 3) (aC 3))) (aJ (cS (bR (iU hr.u100) (aP (aC 0) aK) (cL aH)) (aJ (bB 4 nd (aP (aP (aC 0) aK) (bA gY (aC 3) (bY eA rfl (Z 5 _ rfl) eB (aD (aP (aC 0) aK) aH))))) aR) aR) (aJ (cS (QW.pt (kU (bR Zg (aC 4) (bA J6 aK aK)) (lX (bR jA (aC 3) (bY eA rfl (Z 5 _ rfl) eB (aD (aP (aC 0) aK) aH)))))) (aJ (tT (bA nQ (aC 4) (aC 1)) (aC 0) aK) (aJ (bJ (bA gY (aC 4) (aC 1))) aR)) aR) (aJ (bB 5 nd (bA gY (bA eG (bA cQ (bA cQ (bA eG (bA gY (aC 4) aK) aK) (bA eG aK (aC 3))) aK) aK) aK)) (aJ (bB 5 nd (bA gY (bA eG (bA gY (bA cQ (bA eG (aC 5) aK) (bA eG (aC 3) (aC 3))) aK) aK) aK)) (aJ (bJ (bA gY (bA nQ (aC 5) aK) (aC 1))) aR)))))))))
theorem CZ:Cal P w K mg base "_law_things" Jz 125 Pt 2 xH:=bV _ _ _ _ _ 1 Kt Ad (D 17 _ _ _ rfl) V1 fun _ _ _ _ _ _ hr nd=>(aJ (bB 2 nd (iT (aD (cL (aD aM (aD aM (aD aM (aD aM (aD aM (aD aM aH))))))) (aD (cL (aD aM (aD aM (aD aM (aD aM (aD aM (aD aM aH))))))) aH)))) (aJ (fV (fX (aC 2) (cL (aD aM (aD aM (aD aM (aD aM (aD aM (aD aM aH))))))))) (aJ (fV (fX (aC 2) (cL (aD aM (aD aM (aD aM (aD aM (aD aM (aD aM aH))))))))) (aJ (fV (fX (aC 2) (cL (aD aM (aD aM (aD aM (aD aM (aD aM (aD aM aH))))))))) (aJ (bB 3 nd (aP (aC 2) (aY (dI D Z aV aU) hr (aD (aC 0) (aD aK aH))))) (aJ (bB 4 nd (aP (cL (aD aK (aD aK (aD aK (aD aK (aD aK (aD aK aH))))))) (aY (dI D Z aV aU) hr (aD (aC 0) (aD aK aH))))) (aJ (bB 5 nd (aY (dI D Z aV aU) hr (aD (aC 0) (aD (bA gD aK (aC 4)) aH)))) (aJ (bB 6 nd (iT aH)) (aJ (bB 7 nd (aC 1)) (aJ (eT PassesOwn.never rfl (dL (fP (aC 3) (eC (aC 5)) (eC (bA cQ (aC 5) (aC 4))))) (bH 8 nd) (aJ (bB 9 nd (aP (cL (aD aM (aD aM (aD aM (aD aM (aD aM aH)))))) (aY (dI D Z aV aU) hr (aD (aC 0) (aD aK aH))))) (aJ (cS (QW.pt (mZ (bR jA (aC 7) aK) (nT (QW.pt (kU (bR (dB hr.u100) (aC 7) aK) (lX (bR jA (bY eA rfl (Z 5 _ rfl) eB (aD (aC 6) aH)) (bA gD (aC 4) aK)))))))) (aJ (bB 9 nd aM) aR) aR) (aJ (cS (bR kJ (aC 7) aK) (aJ (fV (fX (aC 6) (bZ (aD (aC 8) (aD (aC 9) aH))))) aR) aR) (aJ (bB 7 nd (bA gD (bA gD (aC 7) aK) (dH oB rfl (Z 7 _ rfl) mS (aD (jC (dB hr.u100) (aC 9) aM) aH)))) aR))))) (aJ (bJ (dH fA rfl (Z 0 _ rfl) eV (aD (aC 6) aH))) aR)))))))))))
theorem Cl:Cal P w K mg base "_law_by" Iw 160 Gx 1 oW:=bV _ _ _ _ _ 0 Ar wI (D 22 _ _ _ rfl) V6 fun _ _ _ _ _ _ hr nd=>(aJ (bB 2 nd pB) (aJ (eT PassesOwn.never rfl (E5 rfl (Z 8 _ rfl) (aC 0) (aC 1)) (eS rfl (bS (eS rfl (bS (bH 3 nd) (bS (bH 4 nd) eE))) (bS (bH 5 nd) eE))) (aJ (pV hr.u100 (bZ (aD (aC 4) (aD (aC 5) aH))) (aC 2) (aC 3)) aR)) (aJ (bJ (aC 2)) aR)))
theorem Na:Cal P w K mg base "_law_ends" Qu 179 Gs 1 qI:=bV _ _ _ _ _ 0 Mx uC (D 25 _ _ _ rfl) Vk fun _ _ _ _ _ _ hr nd=>(aJ (bB 1 nd (cL aH)) (aJ (eT PassesOwn.never rfl (dL (aC 0)) (eS rfl (bS (bH 2 nd) (bS (bH 3 nd) eE))) (aJ (bB 1 nd (bA cQ (aC 1) (fP (cL (aD (bZ (aD (aC 2) (aD aK aH))) (aD (bZ (aD (aC 2) (aD aK aH))) aH))) iS (eC (bA cQ aK (dH oB rfl (Z 7 _ rfl) mS (aD (jC (dB hr.u100) (aC 3) aM) aH))))))) aR)) (aJ (bJ (aC 1)) aR)))
theorem yH:Cal P w K mg base "_law_pair" Ex 139 Ng 1 lT:=bV _ _ _ _ _ 0 Fl qQ (D 19 _ _ _ rfl) k5 fun _ _ _ _ _ _ hr nd=>(aJ (bJ (V3 (bR (dB hr.u100) (aC 0) aM) (bZ (aD (aC 1) (aD (aC 1) aH))) (aC 1))) aR)
theorem qX:Cal P w K mg base "_law_time" Hy 167 Bf 2 kC:=bV _ _ _ _ _ 1 Bj rM (D 23 _ _ _ rfl) K1 fun _ _ _ _ _ _ hr nd=>(aJ (nN (kF hr.u100 (aC 0) (aP (aC 1) aK)) (eS rfl (bS (bH 2 nd) (bS (bH 3 nd) eE)))) (aJ (bJ (aP (aY (yH D Z aV aU) hr (aD (aC 2) (aD (aC 3) aH))) (aP (aC 1) aK))) aR))
theorem nZ:Cal P w K mg base "_law_frac" Kq 111 Jw 1 jE:=bV _ _ _ _ _ 0 Kj sJ (D 15 _ _ _ rfl) Vt fun _ _ _ _ _ _ hr nd=>(aJ (kP 2 3 rfl nd (aD (bY P8 rfl (Z 6 _ rfl) BK (aD (aC 0) aH)) (aD (aC 1) aH))) (aJ (E3 PassesOwn.never (bR kJ (aC 3) aK) (aJ (kP 2 3 rfl nd (aD (aC 3) (aD (bA gY (aC 2) (aC 3)) aH))) aR)) (aJ (bJ (bZ (aD (bA nQ (aC 0) (aC 2)) (aD (bA nQ (aC 1) (aC 2)) aH)))) aR)))
theorem D9:Cal P w K mg base "_law_gap" Gq 186 Ri 3 nO:=bV _ _ _ _ _ 2 Rf vY (D 26 _ _ _ rfl) Yt fun _ _ _ _ _ _ hr nd=>(aJ (bB 3 nd (aY (Na D Z aV aU) hr (aD (aC 1) aH))) (aJ (bB 4 nd (aY (dI D Z aV aU) hr (aD (aC 0) (aD (bY eA rfl (Z 5 _ rfl) eB (aD (aC 3) aH)) aH)))) (aJ (bB 5 nd (bA gY (bA cQ (bA cQ (aC 4) aK) (aY (dI D Z aV aU) hr (aD (aC 0) (aD (bA gD (bY eA rfl (Z 5 _ rfl) eB (aD (aC 3) aH)) aK) aH)))) (bY eA rfl (Z 5 _ rfl) eB (aD (aC 3) aH)))) (aJ (kP 6 7 rfl nd (aD (aY (qX D Z aV aU) hr (aD (aC 2) (aD (aP (aC 3) (aC 4)) aH))) (aD (aY (qX D Z aV aU) hr (aD (aC 2) (aD (aP (aC 3) (aC 5)) aH))) aH))) (aJ (bB 8 nd (aY (nZ D Z aV aU) hr (aD (bA gD (bA eG (aP (aC 6) aK) (aP (aC 7) aK)) (bA eG (aP (aC 7) aK) (aP (aC 6) aK))) (aD (bA eG (aP (aC 6) aK) (aP (aC 7) aK)) aH)))) (aJ (bB 9 nd (aP (cL (aD (bZ (aD aK (aD aK aH))) (aD (bZ (aD aK (aD aK aH))) (aD (bZ (aD aK (aD aK aH))) (aD (bZ (aD aK (aD aK aH))) (aD (bZ (aD (Iz aK) (aD aK aH))) (aD (bZ (aD aK (aD aK aH))) aH))))))) (aY (dI D Z aV aU) hr (aD (aC 0) (aD aK aH))))) (aJ (bB 8 nd (aY (nZ D Z aV aU) hr (aD (bA cQ (bA eG (aP (aC 8) aK) (aP (aC 9) aK)) (bA eG (aP (aC 9) aK) (aP (aC 8) aK))) (aD (bA eG (aP (aC 8) aK) (aP (aC 9) aK)) aH)))) (aJ (bJ (bZ (aD aM (aD (aP (aC 3) (aC 4)) (aD (aP (aC 3) (aC 5)) (aD (aC 8) (aD (jC (dB hr.u100) (aY (dI D Z aV aU) hr (aD (aC 0) (aD aK aH))) aK) aH))))))) aR))))))))
theorem Kw:Cal P w K mg base "_law_words" Lk 153 Bv 1 mT:=bV _ _ _ _ _ 0 yR wL (D 21 _ _ _ rfl) A1 fun _ _ _ _ _ _ hr nd=>(aJ (bB 2 nd (cL (aD aM (aD aM (aD aM (aD aM (aD aM (aD aM (aD aM aH))))))))) (aJ (bB 2 nd (bA cQ (aC 2) (cL (aD aM (aD aM (aD aM (aD aM (aD aM (aD aM aH))))))))) (aJ (cS (QW.pt (kU (bR (dB hr.u100) (aC 0) aM) (lX (bR (dB hr.u100) (aC 1) aM)))) (aJ (bJ (aC 2)) aR) aR) (aJ (cS (QW.pt (kU (bR (dB hr.u100) (aC 0) aM) (lX (bR (dB hr.u100) (aC 1) aM)))) (aJ (bJ (cL (aD aM (aD aM (aD aM aH))))) aR) aR) (aJ (bJ (bA cQ (bA cQ (fP (aC 2) iS (eC aK)) (aP (cL (aD (fP (aC 2) (eC aK) (eC aK)) (aD (fP (aC 2) (eC aK) (eC aK)) aH))) (dH oB rfl (Z 7 _ rfl) mS (aD (jC (dB hr.u100) (aC 0) aM) aH)))) (fP (aC 2) (eC aK) iS))) aR)))))
theorem kD:Cal P w K mg base "_law_cmp" Gi 118 Hv 1 iJ:=bV _ _ _ _ _ 0 Ph vT (D 16 _ _ _ rfl) w9 fun _ _ _ _ _ _ hr nd=>(aJ (bB 2 nd (bA eG (aP (aC 0) aK) (aP (aC 1) aK))) (aJ (bB 3 nd (bA eG (aP (aC 1) aK) (aP (aC 0) aK))) (aJ (bJ (bA gD (dH oB rfl (Z 7 _ rfl) mS (aD (jC kJ (aC 2) (aC 3)) aH)) (dH oB rfl (Z 7 _ rfl) mS (aD (jC jA (aC 2) (aC 3)) aH)))) aR)))
theorem Jm:Cal P w K mg base "_law_word" Dg 146 Nh 2 nG:=bV _ _ _ _ _ 1 Re uQ (D 20 _ _ _ rfl) GH fun _ _ _ _ _ _ hr nd=>(aJ (kP 2 3 rfl nd (aD (aY (yH D Z aV aU) hr (aD (aP (aC 0) aK) (aD (aP (aC 0) aK) aH))) (aD (aY (yH D Z aV aU) hr (aD (aP (aC 1) aK) (aD (aP (aC 1) aK) aH))) aH))) (aJ (cS (bR jA (aY (kD D Z aV aU) hr (aD (aP (aC 2) aK) (aD (aP (aC 3) aK) aH))) aK) (aJ (bJ aM) aR) aR) (aJ (cS (bR jA (aY (kD D Z aV aU) hr (aD (aP (aC 3) aK) (aD (aP (aC 2) aK) aH))) aK) (aJ (bJ aM) aR) aR) (aJ (cS (QW.pt (kU (bR (dB hr.u100) (aP (aC 0) aK) aM) (lX (bR (dB hr.u100) (aP (aC 1) aK) aM)))) (aJ (cS (bR (dB hr.u100) (aY (kD D Z aV aU) hr (aD (aP (aC 2) aK) (aD (aP (aC 3) aK) aH))) aK) (aJ (bJ aM) aR) aR) (aJ (cS (bR (dB hr.u100) (aY (kD D Z aV aU) hr (aD (aP (aC 3) aK) (aD (aP (aC 2) aK) aH))) aK) (aJ (bJ aM) aR) aR) aR)) aR) (aJ (bB 4 nd (cL (aD (cL (aD aM (aD aM (aD aM aH)))) (aD (cL (aD aM (aD aM (aD aM aH)))) (aD (cL (aD aM (aD aM (aD aM aH)))) aH))))) (aJ (bJ (aP (aP (aC 4) (bA cQ (aY (kD D Z aV aU) hr (aD (aP (aC 2) aK) (aD (aP (aC 3) aK) aH))) aK)) (bA cQ (aY (kD D Z aV aU) hr (aD (aP (aC 2) aK) (aD (aP (aC 3) aK) aH))) aK))) aR))))))
theorem f8:Cal P w K mg base "_law_may" Bb 172 Ik 3 mN:=bV _ _ _ _ _ 2 Bg wU (D 24 _ _ _ rfl) EU fun _ _ _ _ _ _ hr nd=>(aJ (bB 3 nd (aY (dI D Z aV aU) hr (aD (aC 0) (aD (bY eA rfl (Z 5 _ rfl) eB (aD (aC 1) aH)) aH)))) (aJ (bB 4 nd (bA gY (bA cQ (bA cQ (aC 3) aK) (aY (dI D Z aV aU) hr (aD (aC 0) (aD (bA gD (bY eA rfl (Z 5 _ rfl) eB (aD (aC 1) aH)) aK) aH)))) (bY eA rfl (Z 5 _ rfl) eB (aD (aC 1) aH)))) (aJ (kP 5 6 rfl nd (aD (aP (aC 1) (aC 3)) (aD (aP (aC 1) (aC 4)) aH))) (aJ (bB 7 nd (aY (Kw D Z aV aU) hr (aD (aP (aC 5) aK) (aD (aP (aC 6) aK) aH)))) (aJ (bB 8 nd (fZ ["_law_word_here","_law_tape_here"] [none,some 0] rfl (dL (aC 7)) (fun cl C s2 H2 pins fp=>(bH 0 EL)) (fun cl C s2 H2 pins fp=>(pX (bR (dB hr.u100) (aY (dI D Z aV aU) hr (aD (aC 1) (aD aK aH))) aK))) (fun cl C s2 H2 pins fp=>(aC 0)))) (aJ (cS (QW.pt (mZ (bR kJ (aY (dI D Z aV aU) hr (aD (aC 0) (aD aK aH))) aK) (nT (bR (dB hr.u100) (aC 8) (cL aH))))) (aJ (bB 8 nd (bA cQ (aC 8) (cL (aD (aY (Jm D Z aV aU) hr (aD (kF hr.u100 (aC 2) (aP (aC 5) aK)) (aD (kF hr.u100 (aC 2) (aP (aC 6) aK)) aH))) aH)))) aR) aR) (aJ (bJ (bZ (aD aM (aD (aP (aC 5) aK) (aD (aP (aC 6) aK) (aD (dH fA rfl (Z 0 _ rfl) eV (aD (fZ ["_law_word_here","_law_kept"] [none,some 8] rfl (dL (aC 7)) (fun cl C s2 H2 pins fp=>(bH 0 Yb)) (fun cl C s2 H2 pins fp=>(pX (bR vL (aC 0) (aC 1) (hm:=by with_unfolding_all rfl)))) (fun cl C s2 H2 pins fp=>(aC 0))) aH)) aH)))))) aR)))))))
theorem O7:Cal P w K mg base "_law_sayings" Nu 193 Os 4 uV:=bV _ _ _ _ _ 3 Nz Rq (D 27 _ _ _ rfl) Q1 fun _ _ _ _ _ _ hr nd=>(aJ (bB 5 nd (aY (Cl D Z aV aU) hr (aD (aC 1) (aD (aC 2) aH)))) (aJ (bB 6 nd (iT aH)) (aJ (eT PassesOwn.never rfl (mJ rfl (Z 9 _ rfl) (aY (dI D Z aV aU) hr (aD (aC 0) (aD (bA cQ (aC 3) aK) aH)))) (bH 7 nd) (aJ (cS (QW.pt (kU (EV (aC 4)) (kU (bR kJ (bY eA rfl (Z 5 _ rfl) eB (aD (aY (Na D Z aV aU) hr (aD (aC 1) aH)) aH)) aK) (lX (QW.pt (mZ (bR jA (bY eA rfl (Z 5 _ rfl) eB (aD (aC 1) aH)) aK) (nT (bR (dB hr.u100) (aY (dI D Z aV aU) hr (aD (aC 0) (aD aK aH))) aK)))))))) (aJ (fV (fX (aC 6) (aY (D9 D Z aV aU) hr (aD (aC 0) (aD (aC 1) (aD (aC 5) aH)))))) aR) (aJ (cS (bR kJ (bY eA rfl (Z 5 _ rfl) eB (aD (aC 1) aH)) aK) (aJ (fV (fX (aC 6) (aY (f8 D Z aV aU) hr (aD (aC 0) (aD (aC 1) (aD (aC 5) aH)))))) aR) aR) aR)) aR)) (aJ (bJ (dH fA rfl (Z 0 _ rfl) eV (aD (aC 6) aH))) aR))))
theorem Fo:Cal P w K mg base "_law_telling" Jv 132 Ru 2 qC:=bV _ _ _ _ _ 1 Jr wV (D 18 _ _ _ rfl) Vm fun _ _ _ _ _ _ hr nd=>(aJ (bB 2 nd (iT aH)) (aJ (eT PassesOwn.never rfl (dL (aC 1)) (eS rfl (bS (bH 3 nd) (bS (bH 4 nd) eE))) (aJ (bB 5 nd (aP (cL (aD aK (aD aK (aD aK (aD aK (aD aK aH)))))) (aY (dI D Z aV aU) hr (aD (aC 0) (aD aK aH))))) (aJ (bB 6 nd (bA gD (aY (dI D Z aV aU) hr (aD (aC 0) (aD aK aH))) aK)) (aJ (cS (bR (dB hr.u100) (aC 4) aM) (aJ (fV (fX (aC 2) (aY (nZ D Z aV aU) hr (aD (aC 6) (aD (aC 5) aH))))) aR) (aJ (fV (fX (aC 2) (bZ (aD (aY (nZ D Z aV aU) hr (aD (aC 6) (aD (aC 5) aH))) (aD (aY (nZ D Z aV aU) hr (aD (bA cQ (bA cQ (aC 6) aK) (aY (dI D Z aV aU) hr (aD (aC 0) (aD aK aH)))) (aD (aC 5) aH))) aH))))) aR)) aR)))) (aJ (bJ (dH fA rfl (Z 0 _ rfl) eV (aD (aC 2) aH))) aR)))
theorem P4:Cal P w K mg base "_law_talk" Ek 200 Pc 5 rR:=bV _ _ _ _ _ 4 Dr vJ (D 28 _ _ _ rfl) M2 fun _ _ _ _ _ _ hr nd=>(aJ (bB 4 nd (aY (CZ D Z aV aU) hr (aD (aC 0) (aD (aC 1) aH)))) (aJ (bJ (bZ (aD (aC 4) (aD (aY (O7 D Z aV aU) hr (aD (aC 0) (aD (aC 4) (aD (aY (Fo D Z aV aU) hr (aD (aC 0) (aD (aC 4) aH))) (aD (aC 2) (aD (aC 3) aH)))))) aH)))) aR))
theorem Wy:Cal P w K mg base "_law_new_names" zX 236 Hz 2 rZ:=bV _ _ _ _ _ 1 Gn xQ (D 34 _ _ _ rfl) Wd fun _ _ _ _ _ _ hr nd=>(aJ (Hm 2 ["_law_name","_law_kind"] [none,none] rfl nd (dL (aC 1)) (fun cl C s2 H2 pins fp=>(eS rfl (bS (bH 0 Po) (bS (bH 1 Po) eE)))) (fun cl C s2 H2 pins fp=>fR) (fun cl C s2 H2 pins fp=>(aC 0))) (aJ (bB 3 nd (iT (aD (cL (aD aM (aD aM (aD aM (aD aM (aD aM (aD aM aH))))))) (aD (cL (aD aM (aD aM (aD aM (aD aM (aD aM (aD aM aH))))))) aH)))) (aJ (fV (fX (aC 3) (cL (aD aM (aD aM (aD aM (aD aM (aD aM (aD aM aH))))))))) (aJ (bB 4 nd (aY (dI D Z aV aU) hr (aD (aC 0) (aD aK aH)))) (aJ (cS (bR jA (aC 4) aK) (aJ (bB 5 nd (bA cQ (fP (aP (aC 3) (aC 4)) (eC (aY (dI D Z aV aU) hr (aD (aC 0) (aD aK aH)))) iS) (aP (aC 3) (aC 4)))) aR) (aJ (bB 6 nd (aY (dI D Z aV aU) hr (aD (aC 0) (aD (bY eA rfl (Z 5 _ rfl) eB (aD (aC 2) aH)) aH)))) (aJ (bB 5 nd (Wo (bA cQ (fP (aC 2) (eC (aC 6)) iS) (fP (aC 2) iS (eC (aC 6)))) (aP (cL (aD aK (aD (Iz aK) aH))) (bA gD (aC 4) aK)))) aR))) (aJ (bB 7 nd (FG rfl rfl (Z 4 _ rfl) rfl (Z 8 _ rfl) (aC 2) (aC 5))) (aJ (bB 6 nd (aY (dI D Z aV aU) hr (aD (aC 0) (aD (bY eA rfl (Z 5 _ rfl) eB (aD (aC 7) aH)) aH)))) (aJ (bJ (Ud rfl rfl (Z 11 _ rfl) (bA cQ (fP (aC 7) (eC (aC 6)) iS) (fP (aC 7) iS (eC (aC 6)))))) aR))))))))
theorem Sb:Cal P w K mg base "_law_back" Fi 258 Ip 1 yA:=bV _ _ _ _ _ 0 zZ uH (D 38 _ _ _ rfl) CQ fun _ _ _ _ _ _ hr nd=>(aJ (bB 1 nd pB) (aJ (eT PassesOwn.never rfl (ED (aC 0)) (bH 2 nd) (aJ (pV hr.u100 (aC 2) (aC 1) (eJ hr.u100 (aC 0) (aC 2))) aR)) (aJ (bJ (aC 1)) aR)))
theorem Cb:Cal P w K mg base "renamed_end" Rv 68 Nv 1 pO:=bV _ _ _ _ _ 0 Fj sQ (D 8 _ _ _ rfl) U3 fun _ _ _ _ _ _ hr nd=>(aJ (bJ (bZ (aD (eJ hr.u100 (aC 1) (aP (aC 0) aK)) (aD (aP (aC 0) aK) aH)))) aR)
theorem CF:Cal P w K mg base "renamed_saying" Hk 75 Al 2 sF:=bV _ _ _ _ _ 1 Hs rJ (D 9 _ _ _ rfl) Wa fun _ _ _ _ _ _ hr nd=>(aJ (cS (bR (dB hr.u100) (aP (aC 0) aK) aM) (aJ (nN (aC 0) (eS rfl (bS (bH 2 nd) (bS (bH 3 nd) (bS (bH 4 nd) (bS (bH 5 nd) eE)))))) (aJ (bJ (bZ (aD (aC 2) (aD (eJ hr.u100 (aC 1) (aC 3)) (aD (eJ hr.u100 (aC 1) (aC 4)) (aD (aC 5) aH)))))) aR)) aR) (aJ (nN (aC 0) (eS rfl (bS (bH 2 nd) (bS (bH 6 nd) (bS (bH 7 nd) (bS (bH 8 nd) (bS (bH 9 nd) eE))))))) (aJ (bJ (bZ (aD (aC 2) (aD (aY (Cb D Z aV aU) hr (aD (aC 6) (aD (aC 1) aH))) (aD (aY (Cb D Z aV aU) hr (aD (aC 7) (aD (aC 1) aH))) (aD (aC 8) (aD (aC 9) aH))))))) aR)))
theorem uY:Cal P w K mg base "renamed_things" Ix 56 Nn 1 nW:=bV _ _ _ _ _ 0 Bq xS (D 6 _ _ _ rfl) Xw fun _ _ _ _ _ _ hr nd=>(aJ (bJ (dH fA rfl (Z 0 _ rfl) eV (aD (bY Xm rfl (Z 3 _ rfl) oY (aD (fZ ["name","kind","names"] [none,none,some 1] rfl (dL (aC 0)) (fun cl C s2 H2 pins fp=>(eS rfl (bS (bH 0 Hi) (bS (bH 1 Hi) eE)))) (fun cl C s2 H2 pins fp=>fR) (fun cl C s2 H2 pins fp=>(bZ (aD (eJ hr.u100 (aC 2) (aC 0)) (aD (aC 1) aH))))) aH)) aH))) aR)
theorem Ev:Cal P w K mg base "renamed" Rk 80 Nq 3 oM:=bV _ _ _ _ _ 2 Fd yJ (D 10 _ _ _ rfl) Zz fun _ _ _ _ _ _ hr nd=>(aJ (nN (aC 0) (eS rfl (bS (bH 2 nd) (bS (bH 3 nd) eE)))) (aJ (bJ (bZ (aD (aY (uY D Z aV aU) hr (aD (aC 2) (aD (aC 1) aH))) (aD (dH fA rfl (Z 0 _ rfl) eV (aD (fZ ["saying","names"] [none,some 1] rfl (dL (aC 3)) (fun cl C s2 H2 pins fp=>(bH 0 Tq)) (fun cl C s2 H2 pins fp=>fR) (fun cl C s2 H2 pins fp=>(aY (CF D Z aV aU) hr (aD (aC 0) (aD (aC 1) aH))))) aH)) aH)))) aR))
theorem u9:Cal P w K mg base "_law_named_talk" yV 241 Gg 1 xG:=bV _ _ _ _ _ 0 Jg vO (D 35 _ _ _ rfl) Wz fun _ _ _ _ _ _ hr nd=>(aJ (bB 2 nd (iT aH)) (aJ (eT PassesOwn.never rfl (dL (aP (aC 0) aK)) (bH 3 nd) (aJ (cS (bR (dB hr.u100) (aP (aC 3) aK) aM) (aJ (fV (fX (aC 2) (bZ (aD aM (aD (eJ hr.u100 (aC 1) (aP (aC 3) aK)) (aD (eJ hr.u100 (aC 1) (aP (aC 3) aK)) (aD (aP (aC 3) aK) aH))))))) aR) (aJ (nN (fZ ["_law_end","_law_names"] [none,some 1] rfl (dL (fP (aC 3) (eC aK) (eC aK))) (fun cl C s2 H2 pins fp=>(bH 0 E7)) (fun cl C s2 H2 pins fp=>fR) (fun cl C s2 H2 pins fp=>(bZ (aD (eJ hr.u100 (aC 1) (aP (aC 0) aK)) (aD (aP (aC 0) aK) aH))))) (Sq rfl (bS (bH 4 nd) (bS (bH 5 nd) eE)))) (aJ (fV (fX (aC 2) (bZ (aD aM (aD (aC 4) (aD (aC 5) (aD (aP (aC 3) aK) (aD (aP (aC 3) aK) aH)))))))) aR))) aR)) (aJ (bB 6 nd pB) (aJ (eT PassesOwn.never rfl (dL (aP (aC 0) aK)) (eS rfl (bS (bH 7 nd) (bS (bH 8 nd) eE))) (aJ (pV hr.u100 (aC 8) (aC 6) (eJ hr.u100 (aC 1) (aC 7))) aR)) (aJ (bJ (bZ (aD (dH fA rfl (Z 0 _ rfl) eV (aD (fZ ["_law_name","_law_kinds"] [none,some 6] rfl (dL (bY (Qh rfl) rfl (Z 3 _ rfl) oY (aD (aC 6) aH))) (fun cl C s2 H2 pins fp=>(bH 0 Yi)) (fun cl C s2 H2 pins fp=>fR) (fun cl C s2 H2 pins fp=>(bZ (aD (aC 0) (aD (kF hr.u100 (aC 1) (aC 0)) aH))))) aH)) (aD (dH fA rfl (Z 0 _ rfl) eV (aD (aC 2) aH)) aH)))) aR)))))
theorem Em:Cal P w K mg base "elder_names" Pw 61 At 1 qS:=bV _ _ _ _ _ 0 Ak wK (D 7 _ _ _ rfl) FR fun _ _ _ _ _ _ hr nd=>(aJ (bJ (y7 ["elder","new"] [none,none] rfl (v6 (aC 0)) (fun cl C s2 H2 pins fp=>(eS rfl (bS (bH 0 Jy) (bS (bH 1 Jy) eE)))) (fun cl C s2 H2 pins fp=>fR) (fun cl C s2 H2 pins fp=>(aC 1)) (fun cl C s2 H2 pins fp=>(aC 0)))) aR)
theorem rN:Cal P w K mg base "names_of" zL 32 Qw 1 nE:=bV _ _ _ _ _ 0 Jc sG (D 2 _ _ _ rfl) G5 fun _ _ _ _ _ _ hr nd=>(aJ (bJ (fZ ["name","kind"] [none,none] rfl (dL (aC 0)) (fun cl C s2 H2 pins fp=>(eS rfl (bS (bH 0 Ag) (bS (bH 1 Ag) eE)))) (fun cl C s2 H2 pins fp=>fR) (fun cl C s2 H2 pins fp=>(aC 0)))) aR)
theorem BI:Cal P w K mg base "times_of" Ob 44 Cw 2 sT:=bV _ _ _ _ _ 1 Jk vG (D 4 _ _ _ rfl) Sm fun _ _ _ _ _ _ hr nd=>(aJ (bJ (aP (aC 1) (zK (aY (rN D Z aV aU) hr (aD (aC 0) aH)) (aC 2)))) aR)
theorem Pq:Cal P w K mg base "renamed_telling" Np 85 Ov 3 mY:=bV _ _ _ _ _ 2 Ic vM (D 11 _ _ _ rfl) Zs fun _ _ _ _ _ _ hr nd=>(aJ (bB 3 nd (oJ (aY (Em D Z aV aU) hr (aD (aC 1) aH)))) (aJ (bJ (dH fA rfl (Z 0 _ rfl) eV (aD (fZ ["new","things","telling","elder"] [none,some 0,some 2,some 3] rfl (dL (aY (rN D Z aV aU) hr (aD (aY (uY D Z aV aU) hr (aD (aC 0) (aD (aC 1) aH))) aH))) (fun cl C s2 H2 pins fp=>(bH 0 Tb)) (fun cl C s2 H2 pins fp=>fR) (fun cl C s2 H2 pins fp=>(aY (BI D Z aV aU) hr (aD (aC 1) (aD (aC 2) (aD (eJ hr.u100 (aC 3) (aC 0)) aH)))))) aH))) aR))
theorem Sg:Cal P w K mg base "_law_named_telling" Ew 246 Ij 1 uM:=bV _ _ _ _ _ 0 Dj xU (D 36 _ _ _ rfl) AT fun _ _ _ _ _ _ hr nd=>(aJ (bB 3 nd pB) (aJ (eT PassesOwn.never rfl (mJ rfl (Z 9 _ rfl) (bY eA rfl (Z 5 _ rfl) eB (aD (aC 0) aH))) (bH 4 nd) (aJ (pV hr.u100 (aP (aC 2) (aC 4)) (aC 3) (eJ hr.u100 (aC 1) (aP (aP (aC 0) (aC 4)) aK))) aR)) (aJ (bJ (dH fA rfl (Z 0 _ rfl) eV (aD (fZ ["_law_name","_law_known"] [none,some 3] rfl (dL (bY (Qh rfl) rfl (Z 3 _ rfl) oY (aD (aC 3) aH))) (fun cl C s2 H2 pins fp=>(bH 0 Tz)) (fun cl C s2 H2 pins fp=>fR) (fun cl C s2 H2 pins fp=>(kF hr.u100 (aC 1) (aC 0)))) aH))) aR)))
theorem d8:Cal P w K mg base "_law_so" Mh 207 Mo 3 wY:=bV _ _ _ _ _ 2 Nc oX (D 29 _ _ _ rfl) D8 fun _ _ _ _ _ _ hr nd=>(aJ (cS (bR (dB hr.u100) (aP (aC 1) aK) aM) (aJ (bJ (jC vL (aY (Jm D Z aV aU) hr (aD (kF hr.u100 (aC 0) (aP (aC 1) aK)) (aD (kF hr.u100 (aC 0) (aP (aC 1) aK)) aH))) (aP (aC 1) aK) (hm:=by with_unfolding_all rfl))) aR) aR) (aJ (kP 2 3 rfl nd (aD (aY (qX D Z aV aU) hr (aD (aC 0) (aD (aP (aC 1) aK) aH))) (aD (aY (qX D Z aV aU) hr (aD (aC 0) (aD (aP (aC 1) aK) aH))) aH))) (aJ (bB 4 nd (aP (aC 1) aK)) (aJ (bB 5 nd (aY (kD D Z aV aU) hr (aD (bZ (aD (bA gD (bA eG (aP (aC 2) aK) (aP (aC 3) aK)) (bA eG (aP (aC 3) aK) (aP (aC 2) aK))) (aD (bA eG (aP (aC 2) aK) (aP (aC 3) aK)) aH))) (aD (aC 4) aH)))) (aJ (bJ (Vv (jC jA (aC 5) aK) (Ks (CB (jC (dB hr.u100) (aC 5) aK) (Ks (ES (aP (aC 1) aK))))))) aR)))))
theorem Ej:Cal P w K mg base "_law_keeps" Ku 212 Db 4 qY:=bV _ _ _ _ _ 3 Dw xW (D 30 _ _ _ rfl) F7 fun _ _ _ _ _ _ hr nd=>(aJ (bB 2 nd (aY (Cl D Z aV aU) hr (aD (aP (aC 0) aK) (aD (aC 1) aH)))) (aJ (bJ (bY (i3 rfl) rfl (Z 10 _ rfl) EQ (aD (fZ ["_law_saying","_law_known"] [none,some 2] rfl (dL (aP (aC 0) aK)) (fun cl C s2 H2 pins fp=>(bH 0 Q2)) (fun cl C s2 H2 pins fp=>fR) (fun cl C s2 H2 pins fp=>(aY (d8 D Z aV aU) hr (aD (aC 1) (aD (aC 0) aH))))) aH))) aR))
theorem M0:Cal P w K mg base "_law_table" Nj 217 Ab 2 tP:=bV _ _ _ _ _ 1 Gk tX (D 31 _ _ _ rfl) BV fun _ _ _ _ _ _ hr nd=>(aJ (bB 2 nd (iT aH)) (aJ (eT PassesOwn.never rfl (mJ rfl (Z 9 _ rfl) (bY eA rfl (Z 5 _ rfl) eB (aD (aC 1) aH))) (bH 3 nd) (aJ (eT PassesOwn.never rfl (Pu rfl (Z 9 _ rfl) (bA cQ (aC 3) aK) (bY eA rfl (Z 5 _ rfl) eB (aD (aC 1) aH))) (bH 4 nd) (aJ (Hm 5 ["_law_word_here","_law_tape_here"] [none,some 0] rfl nd (dL (aY (Kw D Z aV aU) hr (aD (aP (aP (aC 1) (aC 3)) aK) (aD (aP (aP (aC 1) (aC 4)) aK) aH)))) (fun cl C s2 H2 pins fp=>(bH 0 R1)) (fun cl C s2 H2 pins fp=>(pX (bR (dB hr.u100) (aY (dI D Z aV aU) hr (aD (aC 1) (aD aK aH))) aK))) (fun cl C s2 H2 pins fp=>(aC 0))) (aJ (fV (fX (aC 2) (bZ (aD (aP (aP (aC 1) (aC 3)) aK) (aD (aP (aP (aC 1) (aC 4)) aK) (aD (dH fA rfl (Z 0 _ rfl) eV (aD (aC 5) aH)) aH)))))) aR))) aR)) (aJ (bJ (dH fA rfl (Z 0 _ rfl) eV (aD (aC 2) aH))) aR)))
theorem j6:Cal P w K mg base "pairs_of" Hw 37 Ma 2 tW:=bV _ _ _ _ _ 1 Dn vQ (D 3 _ _ _ rfl) Ym fun _ _ _ _ _ _ hr nd=>(aJ (bB 1 nd (aY (rN D Z aV aU) hr (aD (aC 0) aH))) (aJ (bJ (C9 ["at","a","b","names"] [none,none,none,some 1] rfl (K8 rfl (Z 2 _ rfl) (aC 1)) (fun cl C s2 H2 pins fp=>(eS rfl (bS (bH 0 tU) (bS (bH 1 tU) eE)))) (fun cl C s2 H2 pins fp=>fR) (fun cl C s2 H2 pins fp=>(dL (fP (aC 3) (eC (bA cQ (aC 0) aK)) iS))) (fun cl C s2 H2 pins fp=>(bH 2 tU)) (fun cl C s2 H2 pins fp=>fR) (fun cl C s2 H2 pins fp=>(bZ (aD (aC 1) (aD (aC 2) aH)))))) aR))
theorem B1:Cal P w K mg base "turned" Fx 22 Aw 1 wQ:=bV _ _ _ _ _ 0 Mf yK (D 0 _ _ _ rfl) O8 fun _ _ _ _ _ _ hr nd=>(aJ (bJ (aP (Vr rfl aV aU) (bA gD aK (FW rfl aV aU (aC 0))))) aR)
theorem AB:Cal P w K mg base "turned_may" Qe 27 Pj 2 tJ:=bV _ _ _ _ _ 1 Ao xJ (D 1 _ _ _ rfl) GD fun _ _ _ _ _ _ hr nd=>(aJ (bJ (dH fA rfl (Z 0 _ rfl) eV (aD (fZ ["word"] [none] rfl (C7 rfl (Z 1 _ rfl) (aC 0)) (fun cl C s2 H2 pins fp=>(bH 0 Zu)) (fun cl C s2 H2 pins fp=>fR) (fun cl C s2 H2 pins fp=>(aY (B1 D Z aV aU) hr (aD (aC 0) aH)))) aH))) aR)
theorem Zm:Cal P w K mg base "words_at" Mt 51 zD 3 tR:=bV _ _ _ _ _ 2 Br rS (D 5 _ _ _ rfl) Wt fun _ _ _ _ _ _ hr nd=>(aJ (eT PassesOwn.never rfl (dL (aC 1)) (eS rfl (bS (bH 4 nd) (bS (bH 5 nd) (bS (bH 6 nd) eE)))) (aJ (cS (bR (dB hr.u100) (bZ (aD (aC 4) (aD (aC 5) aH))) (bZ (aD (aC 2) (aD (aC 3) aH)))) (aJ (bJ (aC 6)) aR) aR) (aJ (cS (bR (dB hr.u100) (bZ (aD (aC 4) (aD (aC 5) aH))) (bZ (aD (aC 3) (aD (aC 2) aH)))) (aJ (bJ (aY (AB D Z aV aU) hr (aD (aC 6) aH))) aR) aR) aR))) (aJ (bJ Yh) aR))
theorem Pk:Cal P w K mg base "renamed_table" Hq 90 Ji 4 mX:=bV _ _ _ _ _ 3 zP vE (D 12 _ _ _ rfl) l7 fun _ _ _ _ _ _ hr nd=>(aJ (bB 3 nd (oJ (aY (Em D Z aV aU) hr (aD (aC 1) aH)))) (aJ (bB 4 nd (aY (j6 D Z aV aU) hr (aD (aY (uY D Z aV aU) hr (aD (aC 0) (aD (aC 1) aH))) aH))) (aJ (bJ (dH fA rfl (Z 0 _ rfl) eV (aD (fZ ["a","b","things","table","elder"] [none,none,some 0,some 2,some 3] rfl (dL (aC 4)) (fun cl C s2 H2 pins fp=>(eS rfl (bS (bH 0 Qb) (bS (bH 1 Qb) eE)))) (fun cl C s2 H2 pins fp=>fR) (fun cl C s2 H2 pins fp=>(bZ (aD (aC 0) (aD (aC 1) (aD (aY (Zm D Z aV aU) hr (aD (aC 2) (aD (aC 3) (aD (eJ hr.u100 (aC 4) (aC 0)) (aD (eJ hr.u100 (aC 4) (aC 1)) aH))))) aH)))))) aH))) aR)))
theorem DX:Cal P w K mg base "_law_all_words" Jj 231 Av 1 xC:=bV _ _ _ _ _ 0 Dm uI (D 33 _ _ _ rfl) Th fun _ _ _ _ _ _ hr nd=>(aJ (bB 0 nd (cL (aD aM (aD aM (aD aM (aD aM (aD aM (aD aM (aD aM aH))))))))) (aJ (bJ (bA cQ (aC 0) (cL (aD aM (aD aM (aD aM (aD aM (aD aM (aD aM aH))))))))) aR))
theorem BS:Cal P w K mg base "_law_turned" Bu 224 Qm 1 qE:=bV _ _ _ _ _ 0 Rp uZ (D 32 _ _ _ rfl) Tr fun _ _ _ _ _ _ hr nd=>(aJ (bB 1 nd (cL (aD aM (aD aM (aD aM (aD aM (aD aM (aD aM (aD aM aH))))))))) (aJ (bB 1 nd (bA cQ (aC 1) (cL (aD aM (aD aM (aD aM (aD aM (aD aM (aD aM aH))))))))) (aJ (bJ (aP (aC 1) (bA gD aK (zK (aC 1) (aC 0))))) aR)))
theorem GG:Cal P w K mg base "_law_named_table" Qr 251 Cr 2 vC:=bV _ _ _ _ _ 1 Cn sY (D 37 _ _ _ rfl) Yu fun _ _ _ _ _ _ hr nd=>(aJ (bB 3 nd Xq) (aJ (eT PassesOwn.never rfl (dL (aC 2)) (eS rfl (bS (bH 4 nd) (bS (bH 5 nd) (bS (bH 6 nd) eE)))) (aJ (Qt hr.u100 (aC 6) (aC 3) (aD (eJ hr.u100 (aC 1) (aC 4)) (aD (eJ hr.u100 (aC 1) (aC 5)) aH))) (aJ (Qt hr.u100 (dH fA rfl (Z 0 _ rfl) eV (aD (fZ ["_law_word_here","_law_words_here"] [none,some 6] rfl (dL (M8 (DX D Z aV aU) (hr.mono #[1]) rfl)) (fun cl C s2 H2 pins fp=>(bH 0 Wl)) (fun cl C s2 H2 pins fp=>(pX (bR vL (aY (BS D Z aV aU) hr (aD (aC 0) aH)) (aC 1) (hm:=by with_unfolding_all rfl)))) (fun cl C s2 H2 pins fp=>(aC 0))) aH)) (aC 3) (aD (eJ hr.u100 (aC 1) (aC 5)) (aD (eJ hr.u100 (aC 1) (aC 4)) aH))) aR))) (aJ (bB 7 nd (X9 rfl rfl (Z 3 _ rfl) (aC 1))) (aJ (bB 8 nd (iT aH)) (aJ (eT PassesOwn.never rfl (mJ rfl (Z 9 _ rfl) (bY eA rfl (Z 5 _ rfl) eB (aD (aC 7) aH))) (bH 9 nd) (aJ (eT PassesOwn.never rfl (Pu rfl (Z 9 _ rfl) (bA cQ (aC 9) aK) (bY eA rfl (Z 5 _ rfl) eB (aD (aC 7) aH))) (bH 10 nd) (aJ (fV (fX (aC 8) (bZ (aD (aP (aC 7) (aC 9)) (aD (aP (aC 7) (aC 10)) (aD (L3 hr.u100 (aC 3) (aD (aP (aC 7) (aC 9)) (aD (aP (aC 7) (aC 10)) aH))) aH)))))) aR)) aR)) (aJ (bJ (dH fA rfl (Z 0 _ rfl) eV (aD (aC 8) aH))) aR))))))
theorem W0:Cal P w K mg base "law" Mw 265 Qi 6 nH:=bV _ _ _ _ _ 5 Oi uD (D 39 _ _ _ rfl) T6 fun _ _ _ _ _ _ hr nd=>(aJ (bB 1 nd (aY (Yy D Z aV aU) hr (aD (aC 0) aH))) (aJ (eT PassesOwn.never rfl (mJ rfl (Z 9 _ rfl) aK) (bH 2 nd) (aJ (bB 3 nd (aY (P4 D Z aV aU) hr (aD (aC 1) (aD aK (aD aK (aD jQ aH)))))) (aJ (bB 4 nd (aP (aC 3) aK)) (aJ (bB 5 nd (oJ (aY (Wy D Z aV aU) hr (aD (aC 1) (aD (aC 4) aH))))) (aJ (kP 6 7 rfl nd (aD (oJ (aY (Sb D Z aV aU) hr (aD (aC 5) aH))) (aD (bY (Ny hr.u200 hr.gd) rfl (Z 12 _ rfl) fU (aD (bZ (aD (aC 3) (aD (aC 5) aH))) aH)) aH))) (aJ (bB 8 nd (aY (Ev D Z aV aU) hr (aD (aC 3) (aD (aC 5) aH)))) (aJ (cS (QW.pt (mZ (bR (iU hr.u100) (bY (gM hr.u200 hr.gd) rfl (Z 12 _ rfl) fU (aD (aC 8) aH)) (bY (gM hr.u200 hr.gd) rfl (Z 12 _ rfl) fU (aD (aY (u9 D Z aV aU) hr (aD (aC 3) (aD (aC 5) aH))) aH))) (nT (bR (iU hr.u100) (bY (gM hr.u200 hr.gd) rfl (Z 12 _ rfl) fU (aD (aY (Ev D Z aV aU) hr (aD (aC 8) (aD (aC 6) aH))) aH)) (bY (gM hr.u200 hr.gd) rfl (Z 12 _ rfl) fU (aD (aC 3) aH)))))) (aJ (bJ jQ) aR) aR) (aJ (eT PassesOwn.never rfl (mJ rfl (Z 9 _ rfl) aK) (bH 9 nd) (aJ (bB 10 nd (aY (Fo D Z aV aU) hr (aD (aC 1) (aD (aC 4) aH)))) (aJ (bB 11 nd (aY (Pq D Z aV aU) hr (aD (aC 4) (aD (aC 5) (aD (aC 10) aH))))) (aJ (cS (bR (iU hr.u100) (bY (gM hr.u200 hr.gd) rfl (Z 12 _ rfl) fU (aD (aC 11) aH)) (bY (gM hr.u200 hr.gd) rfl (Z 12 _ rfl) fU (aD (aY (Sg D Z aV aU) hr (aD (aC 4) (aD (aC 5) (aD (aC 10) aH)))) aH))) (aJ (bJ jQ) aR) aR) (aJ (cS (bR (iU hr.u100) (bY (gM hr.u200 hr.gd) rfl (Z 12 _ rfl) fU (aD (aY (Pq D Z aV aU) hr (aD (aP (aC 8) aK) (aD (aC 6) (aD (aC 11) aH)))) aH)) (bY (gM hr.u200 hr.gd) rfl (Z 12 _ rfl) fU (aD (aC 10) aH))) (aJ (bJ jQ) aR) aR) (aJ (cS (bR (iU hr.u100) (aY (Ej D Z aV aU) hr (aD (aC 3) (aD (aC 10) aH))) (aY (Ej D Z aV aU) hr (aD (aC 8) (aD (aC 11) aH)))) (aJ (bJ jQ) aR) aR) aR)))))) (aJ (bB 12 nd (aY (M0 D Z aV aU) hr (aD (aC 1) (aD (aC 4) aH)))) (aJ (bB 11 nd (aY (Pk D Z aV aU) hr (aD (aC 4) (aD (aC 5) (aD (aC 12) aH))))) (aJ (cS (bR (iU hr.u100) (bY (gM hr.u200 hr.gd) rfl (Z 12 _ rfl) fU (aD (aC 11) aH)) (bY (gM hr.u200 hr.gd) rfl (Z 12 _ rfl) fU (aD (aY (GG D Z aV aU) hr (aD (aC 4) (aD (aC 5) (aD (aC 12) aH)))) aH))) (aJ (bJ jQ) aR) aR) (aJ (cS (QW.pt (mZ (bR (iU hr.u100) (bY (gM hr.u200 hr.gd) rfl (Z 12 _ rfl) fU (aD (aY (Pk D Z aV aU) hr (aD (aP (aC 8) aK) (aD (aC 6) (aD (aC 11) aH)))) aH)) (bY (gM hr.u200 hr.gd) rfl (Z 12 _ rfl) fU (aD (aC 12) aH))) (nT (bR (iU hr.u100) (bY (Ny hr.u200 hr.gd) rfl (Z 12 _ rfl) fU (aD (bZ (aD (aC 3) (aD (aC 5) aH))) aH)) (aC 7))))) (aJ (bJ jQ) aR) aR) aR)))))))))))) (aJ (bJ jQ) aR)))
end
theorem all_mk{l:PySem.W.OpenLaw}{w:World}{K:ad}{h:Heap}{mg:Str->Option Value}{fa:Addr}(X:K.In h)(G:h.Ns mainGlobals mg)(hfa:mg "law"=some (.ref fa))(D:∀ (i:Nat) (nm:Str) (st:Stmt) (a:Addr),Lv[i]?=some (nm,st,a)->Df K mg nm st a)(Z:∀ (i:Nat) (x:Str),Oe[i]?=some x->mg x=none)
  {kR:Addr} {n_ORDER:Nat} {sl_ORDER:Array (Option Value)} {t_ORDER_0 t_ORDER_1 t_ORDER_2 t_ORDER_3 t_ORDER_4 t_ORDER_5 t_ORDER_6 t_ORDER_7 t_ORDER_8 t_ORDER_9 t_ORDER_10 t_ORDER_11 t_ORDER_12:Tok} (tQ:PySem.W.nsIn K mainGlobals "ORDER"=some (some (.ref kR))) (xZ:K.lookup kR=some ⟨.type "tuple",none,.seq #[.str "ahead" t_ORDER_0,.str "meets" t_ORDER_1,.str "overlaps" t_ORDER_2,.str "begins" t_ORDER_3,.str "within" t_ORDER_4,.str "ends" t_ORDER_5,.str "same" t_ORDER_6,.str "ended" t_ORDER_7,.str "holds" t_ORDER_8,.str "begun" t_ORDER_9,.str "lapped" t_ORDER_10,.str "met" t_ORDER_11,.str "behind" t_ORDER_12] n_ORDER,sl_ORDER⟩)
  : ∃ fd:FuncData,(∀ (s:Shared) (v:Value),BindsTo s fd ⟨[v],[]⟩ [("_law_script",v)])/\∀ base:Heap,K.In base->base.Ns mainGlobals mg->FnOk l.prog w K mg base eD 6 fa fd ["_law_script"] (LSp K 1 nH):=by
 have aV:=PySem.W.mg_of X G tQ
 have aU:KT K kR ["ahead","meets","overlaps","begins","within","ends","same","ended","holds","begun","lapped","met","behind"]:=⟨_,_,_,xZ,rfl,rfl,rfl,by show 13<=sizeLine;rw[sizeLine_eq];decide,.cons ⟨_,rfl⟩ (.cons ⟨_,rfl⟩ (.cons ⟨_,rfl⟩ (.cons ⟨_,rfl⟩ (.cons ⟨_,rfl⟩ (.cons ⟨_,rfl⟩ (.cons ⟨_,rfl⟩ (.cons ⟨_,rfl⟩ (.cons ⟨_,rfl⟩ (.cons ⟨_,rfl⟩ (.cons ⟨_,rfl⟩ (.cons ⟨_,rfl⟩ (.cons ⟨_,rfl⟩ (.nil)))))))))))))⟩
 refine E8 (D 39 _ _ _ rfl) hfa (fun _ _ _ _ _ _=>Kg (by intros;rfl)) fun base=>?_
 exact W0 D Z aV aU
theorem walk{l:PySem.W.OpenLaw}{q:Program}{loose:List Str}{XP:(Str->Option Value)->Heap->Prop}{YP:World->Heap->Prop}{d:DefRec}{K:Params->ad}(hn:l.most=some 63)(hdf:d.params.defaults=[])
  (hY:∀ (w:World) (h:Heap),YP w h->(K w.params).In h)
  (F:∀ (w:World) (mg:Str->Option Value) (fa:Addr) (h:Heap),(K w.params).In h->h.Ns mainGlobals mg->mg d.name=some (.ref fa) ->
   ∃ fd:FuncData,(∀ (s:Shared) (u:Value),BindsTo s fd ⟨[u],[]⟩ [("_law_script",u)])/\∀ base:Heap,(K w.params).In base->base.Ns mainGlobals mg->FnOk l.prog w (K w.params) mg base eD 6 fa fd ["_law_script"] (LSp (K w.params) 1 nH)) :
  PySem.W.WalkO q loose XP YP l.row.toRowW d [] (fun f vs=>PySem.call f vs) :=
 L2.walk_of (n:=63) (k:=6) (x:="_law_script") (CX:=fun _=>eD) (sp:=fun w=>LSp (K w.params) 1 nH) hn #[1] hdf ⟨rfl,rfl,by decide,by decide⟩ hY F (fun _ _ a ns hl _ hS=>FZ hS ⟨ns,rfl,hl,fun _=>rfl⟩) fun _ _ _ _ _ z=>z
def kk(P:Params):ad:=[(3,H83.o3 P),(15,H83.o15),(21,H83.o21),(22,H83.o22),(26,H83.o26),(27,H83.o27),(31,H83.o31),(32,H83.o32),(36,H83.o36),(37,H83.o37),(43,H83.o43),(44,H83.o44),(50,H83.o50),(51,H83.o51),(55,H83.o55),(56,H83.o56),(60,H83.o60),(61,H83.o61),(67,H83.o67),(68,H83.o68),(74,H83.o74),(75,H83.o75),(79,H83.o79),(80,H83.o80),(84,H83.o84),(85,H83.o85),(89,H83.o89),(90,H83.o90),(96,H83.o96),(97,H83.o97),(103,H83.o103),(104,H83.o104),(110,H83.o110),(111,H83.o111),(117,H83.o117),(118,H83.o118),(124,H83.o124),(125,H83.o125),(131,H83.o131),(132,H83.o132),(138,H83.o138),(139,H83.o139),(145,H83.o145),(146,H83.o146),(152,H83.o152),(153,H83.o153),(159,H83.o159),(160,H83.o160),(166,H83.o166),(167,H83.o167),(171,H83.o171),(172,H83.o172),(178,H83.o178),(179,H83.o179),(185,H83.o185),(186,H83.o186),(192,H83.o192),(193,H83.o193),(199,H83.o199),(200,H83.o200),(206,H83.o206),(207,H83.o207),(211,H83.o211),(212,H83.o212),(216,H83.o216),(217,H83.o217),(223,H83.o223),(224,H83.o224),(230,H83.o230),(231,H83.o231),(235,H83.o235),(236,H83.o236),(240,H83.o240),(241,H83.o241),(245,H83.o245),(246,H83.o246),(250,H83.o250),(251,H83.o251),(257,H83.o257),(258,H83.o258),(264,H83.o264),(265,H83.o265)]
end K83
open PySem PySem.W PyProof.Rows
set_option maxRecDepth 100000 in
set_option maxHeartbeats 0 in
theorem PySem.Challenge.cw_whens_k83_renamed_holds : PySem.Challenge.rw_whens_k83_renamed.Holds := by
 w_on;refine PySem.W.holds_law (by kernel_rfl) fun said=>?_;refine H83.head (H:=kHook K83.kk [3,15,21,22,26,27,31,32,36,37,43,44,50,51,55,56,60,61,67,68,74,75,79,80,84,85,89,90,96,97,103,104,110,111,117,118,124,125,131,132,138,139,145,146,152,153,159,160,166,167,171,172,178,179,185,186,192,193,199,200,206,207,211,212,216,217,223,224,230,231,235,236,240,241,245,246,250,251,257,258,264,265] (fun _=>by kernel_rfl)) (fun w os=>by kernel_rfl) (by assumption) (by rfl) (by rfl) (by rfl) ?hw ?hc;(case hw=>w_witness2)
 k_fill
 refine K83.walk (l:=PySem.Challenge.rw_whens_k83_renamed) rfl rfl (fun w h Y=>PySem.W.kIn_of Y) ?F
 case F =>
  intro w mg fa h KX G hmg
  refine' K83.all_mk   (kR:=15) KX G hmg (DL.dfs_of KX G _ ?D) (DL.nos_of KX G _ ?Z) ?tQ ?xZ
  (case D=>repeat' first | exact True.intro | refine⟨DL.di (by kernel_rfl) rfl (by kernel_rfl) (by kernel_rfl),?_⟩)
  (case Z=>repeat' first | exact True.intro | refine⟨by kernel_rfl,?_⟩)
  (case tQ=>kernel_rfl)
  (case xZ=>exact rfl)
#print axioms PySem.Challenge.cw_whens_k83_renamed_holds
