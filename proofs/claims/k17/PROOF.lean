import PyProof.Rows.All
import Wide.All
import OpenK.AllK
import Wide.FinOn
import Lean
import PyProof.EqAt
import PyProof.EqKinds
import PyProof.TupleCall
import PyProof.ListMulRoad
import KE.KRevIter
import PyProof.ZipIter
import PyProof.TupleIter
import PyProof.Rows.SortWalk
import PyProof.Rows.SortStr
import PyProof.Rows.StrWeight2
import PyProof.ConsumeWalk
import PyProof.SliceStr2
import PyProof.ListRange
import PyProof.TupleOfSeq
import PyProof.P3In
import PyProof.AttrMissHeap
import KE.KDictOf
import PyProof.StrBlockI
import PyProof.WalksEnum
import PyProof.EnumMake
import PyProof.DictWalks
import PyProof.SetRoads
import PyProof.SetNew
import PyProof.Rows.SetFrom
import PyProof.CollectWalk
import PyProof.StrWalks
import PyProof.FString5
import PyProof.Rows.SortShell
import PyProof.SeqI3
import PyProof.SliceList
import KE.KSortTup
import PyProof.FactsAll.dict_values
import PyProof.DictItemsLoops
import PyProof.StrBlock
import PyProof.StrBlock2
import PyProof.StrBlockG
import PyProof.StrBlockL
import PyProof.MeetsStr3
import PyProof.Rows.StrNews2
import KE.KIntText
import PyProof.FString
import PyProof.StrLawsTight
import PyProof.StrLawsAffix
import PyProof.StrLawsFirst
import PyProof.Rows.ReprOcc
import Open.Tops
import PyProof.DictDisplay
import PyProof.Rows.TupDisplay
import PySem.Challenge.RW_whens_k17_talks_shown_and_read
local macro_rules(kind:=Lean.Parser.Command.declaration)
|x=>if x[0][4].getNumArgs==0&&x[1][1][0].getId != `lw&&(x[1].isOfKind ``Lean.Parser.Command.definition||x[1].isOfKind ``Lean.Parser.Command.abbrev)then pure (x.setArg 0 (x[0].setArg 4 (Lean.mkNullNode #[Lean.mkNode ``Lean.Parser.Command.noncomputable #[Lean.mkAtom "noncomputable"]])))else Lean.Macro.throwUnsupported
set_option Elab.async false
set_option linter.all false
set_option maxRecDepth 100000
set_option maxHeartbeats 4000000
universe u v
section
open PySem
abbrev ac:=PySem.W.Frag
theorem ad{α β:Type}{M A E s}{m:Sem α}{f:α->Sem β}{Q:β->Shared->Prop}(h:wpAny M A m (fun a=>wpAny M A (f a) Q E) E s):wpAny M A (m>>=f) Q E s:=wpAny_bind h
theorem ae{α:Type}{M A E s}{a:α}{Q:α->Shared->Prop}(h:Q a s):wpAny M A (pure a) Q E s:=wpAny_pure h
theorem af{h:Heap}{a o}(e:h.get? a=some o):a<h.objs.size:=Heap.lt_size e
theorem ag{h:Heap}{a p}(o:Obj)(e:h.get? a=some p):(h.push o).get? a=some p:=Heap.get?_push_of_some o e
theorem ah(h:Heap){o:Obj}(e:o.isFreed=false):(h.push o).get? h.objs.size=some o:=Heap.get?_push_size h e
theorem ai{a b c:Nat}(h:a<b)(k:b<=c):a<c:=Nat.lt_of_lt_of_le h k
theorem aj(a:Nat):a<=a:=Nat.le_refl a
theorem ak:¬false=true:=Bool.false_ne_true
theorem am{a b:Nat}(h:a<b):a≠b:=Nat.ne_of_lt h
theorem ap{α:Type}(y:α){a l}(h:a∈l):a∈y::l:=List.mem_cons_of_mem y h
theorem aq{α:Type u}{β:Type v}{f:α->β}{a l}:(a::l).map f=f a::l.map f:=rfl
theorem ar{α:Type u}{β:Type v}{l:List α}(f:α->β):(l.map f).length=l.length:=List.length_map f
theorem au{α:Type u}{l:List α}:l.toArray.size=l.length:=rfl
end
namespace L2
open PySem PySem.Spec PyProof.Rows
noncomputable instance decPy:DecidableEq PyData:=fun _ _=>Classical.propDecidable _
mutual
def isK:PyData->Bool
 | .int _=>true
 | .str x=>PyData.strOk x
 | .tuple xs=>isKs xs
 | .none | .bool _ | .list _ | .dict _=>false
def isKs:List PyData->Bool
 | []=>true
 | x::xs=>isK x&&isKs xs
end
mutual
def tH(w:World):PyData->Int
 | .int i=>hashInt i
 | .str x=>hashStr w x
 | .tuple xs=>reduceHash (Builtin.Tuple.tupleHashOf (hashKs w xs))
 | .none | .bool _ | .list _ | .dict _=>0
def hashKs(w:World):List PyData->List Int
 | []=>[]
 | x::xs=>tH w x::hashKs w xs
end
mutual
def tI:PyData->Nat
 | .int _ | .str _=>1
 | .tuple xs=>drawsKs xs+1
 | .none | .bool _ | .list _ | .dict _=>0
def drawsKs:List PyData->Nat
 | []=>0
 | x::xs=>tI x+drawsKs xs
end
mutual
theorem rQ:∀ p:PyData,isK p=true->p.canLay0=true
 | .int _,_=>rfl
 | .str _,h=>h
 | .tuple xs,h=>isKs_lay xs h
 | .none,h | .bool _,h | .list _,h | .dict _,h=>by simp[isK]at h
theorem isKs_lay:∀ ps:List PyData,isKs ps=true->PyData.canLayAll0 ps=true
 | [],_=>rfl
 | x::xs,h=>by
  simp only[isKs,Bool.and_eq_true]at h;simp only[PyData.canLayAll0,rQ x h.1,isKs_lay xs h.2,Bool.and_self]
end
mutual
theorem Ih:∀ p q:PyData,isK p=true->isK q=true->p.eqv q=decide (p=q)
 | .int i,.int j,_,_=>by
  simp only[PyData.eqv,PyData.int.injEq];exact Bool.eq_iff_iff.mpr (by simp)
 | .str x,.str y,_,_=>by
  simp only[PyData.eqv,PyData.str.injEq];exact Bool.eq_iff_iff.mpr (by simp)
 | .tuple xs,.tuple ys,h,h'=>by
  have e:=isKs_eqv xs ys h h'
  simp only[PyData.eqv,PyData.tuple.injEq];exact e
 | .int i,.str y,_,_ | .str y,.int i,_,_ | .int i,.tuple y,_,_ | .tuple y,.int i,_,_ | .str i,.tuple y,_,_ | .tuple y,.str i,_,_=>by
  simp only[PyData.eqv];exact(decide_eq_false (fun e=>nomatch e)).symm
 | .none,_,h,_ | .bool _,_,h,_ | .list _,_,h,_ | .dict _,_,h,_=>by simp[isK]at h
 | .int _,.none,_,h | .int _,.bool _,_,h | .int _,.list _,_,h | .int _,.dict _,_,h=>by simp[isK]at h
 | .str _,.none,_,h | .str _,.bool _,_,h | .str _,.list _,_,h | .str _,.dict _,_,h=>by simp[isK]at h
 | .tuple _,.none,_,h | .tuple _,.bool _,_,h | .tuple _,.list _,_,h | .tuple _,.dict _,_,h=>by simp[isK]at h
theorem isKs_eqv:∀ p q:List PyData,isKs p=true->isKs q=true->PyData.eqvAll p q=decide (p=q)
 | [],[],_,_=>by simp[PyData.eqvAll]
 | [],_::_,_,_=>by simp[PyData.eqvAll]
 | _::_,[],_,_=>by simp[PyData.eqvAll]
 | x::xs,y::ys,h,h'=>by
  simp only[isKs,Bool.and_eq_true]at h h';simp only[PyData.eqvAll,Ih x y h.1 h'.1,isKs_eqv xs ys h.2 h'.2,List.cons.injEq];exact(Bool.decide_and _ _).symm
end
mutual
theorem Rq{h h':Heap}{d:Addr}{o:Obj}{es ep}(ho:h.get? d=some o)(hd:o.data=.dict es ep)(hs:Heap.SameBut d h h') :
  ∀ (p:PyData) (v:Value) (as:List Addr),isK p=true->Reads h v p as->Reads h' v p as
 | .int _,_,_,_,r=>by cases r;exact .int _ _
 | .str _,_,_,_,r=>by cases r;exact .str _ _
 | .tuple xs,_,_,hk,r=>by
  cases r with
  | tuple h1 h2 h3 h4 =>
   rename_i a ob vs n;have hne:a≠d:=by
    rintro rfl;obtain rfl:ob=o:=Option.some.inj (h1.symm.trans ho);rw[hd]at h3;exact nomatch h3
   exact .tuple ((hs.2 _ hne).trans h1) h2 h3 (readsAll_keep ho hd hs xs _ _ hk h4)
 | .none,_,_,h,_ | .bool _,_,_,h,_ | .list _,_,_,h,_ | .dict _,_,_,h,_=>by simp[isK]at h
theorem readsAll_keep{h h':Heap}{d:Addr}{o:Obj}{es ep}(ho:h.get? d=some o)(hd:o.data=.dict es ep)(hs:Heap.SameBut d h h') :
  ∀ (ps:List PyData) (vs:List Value) (as:List Addr),isKs ps=true->ReadsAll h vs ps as->ReadsAll h' vs ps as
 | [],_,_,_,r=>by cases r;exact .nil
 | x::xs,_,_,hk,r=>by
  simp only[isKs,Bool.and_eq_true]at hk
  cases r with
  | cons r1 r2=>exact .cons (Rq ho hd hs x _ _ hk.1 r1) (readsAll_keep ho hd hs xs _ _ hk.2 r2)
end
section
variable {prog:Program}{w:World}
mutual
theorem Jh:∀ (p:PyData) (v:Value) (A:Around) (E:Value->Shared->Prop) (s:Shared) (as:List Addr) (Q:Int->Shared->Prop),isK p=true->Reads s.heap v p as->A.units+p.depth<cLine ->
  Q (tH w p) {s with toks:=s.toks+tI p}->wpAny (model prog w) A (pyHash v) Q E s
 | .int i,_,A,E,s,_,Q,_,r,_,h=>by cases r;exact wpAny_pyHash_int h
 | .str x,_,A,E,s,_,Q,_,r,_,h=>by cases r;exact wpAny_pyHash_str h
 | .tuple xs,_,A,E,s,_,Q,hk,r,hu,h=>by
  cases r with
  | tuple h1 h2 h3 h4 =>
   refine PySem.W.pyHash_slot (T:="tuple") ⟨_,h1,h2⟩ F.slot_tuple_hash F.entry_tuple_hash (F.args_tuple_hash_1 _) (beq_builtin_none _) (.inr (by omega)) ?_
   show wpAny _ _ (Builtin.Tuple.tupleItemsOf (.ref _)>>=_) _ _ s
   refine ad (wpAny_tupleItemsOf h1 h3 ?_);refine ad ?_;rw[<- Array.forIn_toList];refine hash_readsAll xs _ A.in1 E s _ #[] _ hk h4 (by simp only[PyData.depth,Around.in1_units]at hu ⊢;omega) fun b hb=>?_
   show wpAny _ _ (retInt (Builtin.Tuple.tupleHashOf b.toList)) _ _ _
   rw[hb];exact ad (wpAny_mkInt (ae ⟨_,_,rfl,h⟩))
 | .none,_,_,_,_,_,_,h,_,_,_ | .bool _,_,_,_,_,_,_,h,_,_,_ | .list _,_,_,_,_,_,_,h,_,_,_ | .dict _,_,_,_,_,_,_,h,_,_,_=>by simp[isK]at h
theorem hash_readsAll:∀ (ps:List PyData) (vs:List Value) (A:Around) (E:Value->Shared->Prop) (s:Shared) (as:List Addr) (b:Array Int) (Q:Array Int->Shared->Prop),isKs ps=true->ReadsAll s.heap vs ps as->A.units+PyData.depthAll ps<cLine ->
  (∀ b',b'.toList=b.toList++hashKs w ps->Q b' {s with toks:=s.toks+drawsKs ps}) ->
  wpAny (model prog w) A (forIn vs b fun x r=>do let h <- pyHash x;pure PUnit.unit;pure (ForInStep.yield (r.push h))) Q E s
 | [],_,A,E,s,_,b,Q,_,x,_,h=>by cases x;exact ae (h b (by simp[hashKs]))
 | k::xs,_,A,E,s,_,b,Q,hk,x,hu,h=>by
  cases x with
  | cons x1 x2 =>
   simp only[isKs,Bool.and_eq_true,PyData.depthAll]at hk hu;rw[List.forIn_cons];refine ad (ad (Jh k _ A E s _ _ hk.1 x1 (by omega) ?_))
   refine ad (ae (ae ?_));refine hash_readsAll xs _ A E _ _ _ Q hk.2 x2 (by omega) fun b' hb=>?_
   have:=h b' (by simp[hb,hashKs])
   simpa[drawsKs,Nat.add_assoc] using this
end
mutual
theorem Di:∀ (p:PyData) (v:Value) (A:Around) (E:Value->Shared->Prop) (s:Shared) (as:List Addr) (n:Nat) (Q:Bool->Shared->Prop),isK p=true->Reads s.heap v p as->p.depth<=n ->
  Q true s->wpAny (model prog w) A (eqIsQuiet n v) Q E s
 | .int i,_,A,E,s,_,n,Q,_,r,_,h=>by cases r;rw[eqIsQuiet_byValue _ rfl];exact ae h
 | .str x,_,A,E,s,_,n,Q,_,r,_,h=>by cases r;rw[eqIsQuiet_byValue _ rfl];exact ae h
 | .tuple xs,_,A,E,s,_,n,Q,hk,r,hn,h=>by
  cases r with
  | tuple h1 h2 h3 h4 =>
   have hT:s.TypeIs (.ref _) "tuple":=⟨_,h1,h2⟩
   unfold eqIsQuiet;refine ad (wpAny_specialOf hT F.slot_tuple_eq.lookup ?_);show wpAny _ _ (isInstance (.ref _) (.type "tuple")>>=_) _ _ s
   refine ad (wpAny_isInstance hT isSubtype_tuple_tuple ?_);simp only[Bool.not_true,Bool.false_eq_true,if_false];simp only[PyData.depth]at hn;obtain⟨n',rfl⟩:∃ n',n=n'+1:=⟨n-1,by omega⟩
   refine ad (wpAny_seqItems h1 h3 ?_);refine ad ?_;show wpAny _ _ (forIn _ _ _) _ _ s
   rw[<- Array.forIn_toList];refine wpAny_forIn_list _ (fun rest r s'=>r.1=none/\s'=s/\∃ ps as,isKs ps=true/\PyData.depthAll ps<=n'/\(∀ q∈ps,q∈xs)/\ReadsAll s.heap rest ps as) _ ?_ ?_ _ _ ⟨rfl,rfl,xs,_,hk,by omega,fun _ z=>z,h4⟩
   ·rintro v rest r s' ⟨hr,rfl,ps,as',hks,hd,hmem,ra⟩
    cases ra with
    | cons r1 r2 =>
     rename_i q qs as1 as2;simp only[isKs,Bool.and_eq_true,PyData.depthAll]at hks hd;have hq:q∈xs:=hmem q List.mem_cons_self
     have hdep:sizeOf q<sizeOf (PyData.tuple xs):=by have:=List.sizeOf_lt_of_mem hq;simp;omega
     refine ad (Di q v A E _ _ _ _ hks.1 r1 (by omega) ?_)
     simp only[Bool.not_true,Bool.false_eq_true,if_false];exact ae ⟨rfl,rfl,qs,_,hks.2,by omega,fun z hz=>hmem z (ap _ hz),r2⟩
   ·rintro⟨r1,r2⟩ s' ⟨hr,rfl,_⟩;simp only at hr;subst hr;exact ae h
 | .none,_,_,_,_,_,_,_,h,_,_,_ | .bool _,_,_,_,_,_,_,_,h,_,_,_ | .list _,_,_,_,_,_,_,_,h,_,_,_ | .dict _,_,_,_,_,_,_,_,h,_,_,_=>by simp[isK]at h
termination_by p=>sizeOf p
end
end
def mG(prog:Program)(w:World):HeapKind prog w (List PyData) where
 is:=fun h ks a=>isKs ks=true/\PyData.depthAll ks<=6/\∃ as,Reads h (.ref a) (.tuple ks) as
 hash:=fun ks=>tH w (.tuple ks)
 draws:=fun ks=>tI (.tuple ks)
 room:=fun A=>A.units+20<cLine
 inj:=fun {h a x y} hx hy=>by
  obtain⟨k1,_,_,r1⟩:=hx;obtain⟨k2,_,_,r2⟩:=hy;have e:=SeqAt.Reads.unique _ _ _ _ _ (rQ (.tuple x) k1) r1 r2
  exact PyData.tuple.inj e
 keeps:=fun x ho hd hs=>let ⟨k1,k2,as,r⟩:=x;⟨k1,k2,as,Rq ho hd hs _ _ _ k1 r⟩
 pyHash:=fun {A E s k a Q} hu hk h=>by
  obtain⟨k1,k2,as,r⟩:=hk;exact Jh (.tuple k) _ A E s as Q k1 r (by simp only[PyData.depth];omega) h
 eqBool:=fun {A E s x y a b Q} hu hx hy h=>by
  obtain⟨k1,d1,as,r1⟩:=hx;obtain⟨k2,d2,bs,r2⟩:=hy;refine SeqAt.eqAt_reads (.tuple x) (.tuple y) A s _ _ _ _ r1 r2 (rQ (.tuple x) k1) (rQ (.tuple y) k2) (by simp only[PyData.depth];omega) prog w E Q ?_
  rw[Ih (.tuple x) (.tuple y) k1 k2];have e:decide (PyData.tuple x=PyData.tuple y)=decide (x=y):=by
   simp only[PyData.tuple.injEq]
  rw[e];exact h
 quiet:=fun {A E s k a Q} hk h=>by
  obtain⟨k1,k2,as,r⟩:=hk;exact Di (.tuple k) _ A E s as 8 Q k1 r (by simp only[PyData.depth];omega) h
end L2
namespace L2
open PySem PySem.Spec PyProof.Rows
abbrev bF:=Sum Int Str
def lU:bF->Value->Bool
 | .inl k,v=>Value.isInt k v
 | .inr x,v=>Value.isStrOf x v
def HL(w:World):bF->Int
 | .inl k=>hashInt k
 | .inr x=>hashStr w x
theorem iX:∀ {k:bF} {v:Value},lU k v=true->(∃ i t,k=Sum.inl i/\v=Value.int i t)\/(∃ x t,k=Sum.inr x/\v=Value.str x t)
 | .inl i,v,h=>by
  obtain⟨t,e⟩:=Value.isInt_shape (k:=i) (v:=v) h;exact .inl ⟨i,t,rfl,e⟩
 | .inr x,v,h=>by
  obtain⟨t,e⟩:=Value.isStrOf_shape (x:=x) (v:=v) h;exact .inr ⟨x,t,rfl,e⟩
theorem HN(i:Int)(t:Tok):lU (.inl i) (.int i t)=true:=by simp[lU,Value.isInt]
theorem Vc(x:Str)(t:Tok):lU (.inr x) (.str x t)=true:=by simp[lU,Value.isStrOf]
theorem Zr(a b:Int):decide ((Sum.inl a:bF)=Sum.inl b)=(a==b):=by
 by_cases e:a=b
 ·subst e;simp
 ·have h:¬ (Sum.inl a:bF)=Sum.inl b:=fun q=>e (Sum.inl.inj q)
  rw[decide_eq_false h];exact(beq_eq_false_iff_ne.mpr e).symm
theorem DR(a b:Str):decide ((Sum.inr a:bF)=Sum.inr b)=decide (a=b):=by
 by_cases e:a=b
 ·subst e;simp
 ·have h:¬ (Sum.inr a:bF)=Sum.inr b:=fun q=>e (Sum.inr.inj q)
  rw[decide_eq_false h,decide_eq_false e]
theorem G5(a:Int)(b:Str):decide ((Sum.inl a:bF)=Sum.inr b)=false:=decide_eq_false (fun q=>nomatch q)
theorem K8(a:Str)(b:Int):decide ((Sum.inr a:bF)=Sum.inl b)=false:=decide_eq_false (fun q=>nomatch q)
def dP(prog:Program)(w:World):PySem.KeyKind prog w bF where
 is:=lU
 hash:=HL w
 inj:=fun v a b ha hb=>by
  rcases iX ha with⟨i,t,rfl,rfl⟩ | ⟨x,t,rfl,rfl⟩
  ·rcases iX hb with⟨j,u,rfl,e⟩ | ⟨y,u,rfl,e⟩
   ·injection e with e1 _;rw[e1]
   ·exact nomatch e
  ·rcases iX hb with⟨j,u,rfl,e⟩ | ⟨y,u,rfl,e⟩
   ·exact nomatch e
   ·injection e with e1 _;rw[e1]
 byValue:=fun k v h=>by
  rcases iX h with⟨i,t,rfl,rfl⟩ | ⟨x,t,rfl,rfl⟩<;>rfl
 pyHash:=fun hv h=>by
  rcases iX hv with⟨i,t,rfl,rfl⟩ | ⟨x,t,rfl,rfl⟩
  ·exact wpAny_pyHash_int h
  ·exact wpAny_pyHash_str h
 eqBool:=fun hu hv h=>by
  rcases iX hu with⟨i,t,rfl,rfl⟩ | ⟨x,t,rfl,rfl⟩
  ·rcases iX hv with⟨j,u,rfl,rfl⟩ | ⟨y,u,rfl,rfl⟩
   ·rw[Zr]at h;exact wpAny_eqBool_int h
   ·rw[G5]at h;exact SeqAt.EqAt.int_str i t y u _ _ _ _ h
  ·rcases iX hv with⟨j,u,rfl,rfl⟩ | ⟨y,u,rfl,rfl⟩
   ·rw[K8]at h;exact SeqAt.EqAt.str_int x t j u _ _ _ _ h
   ·rw[DR]at h;exact wpAny_eqBool_str h
 «strs»:=fun k x t v h=>by
  rcases iX h with⟨i,u,rfl,e⟩ | ⟨y,u,rfl,e⟩
  ·exact nomatch e
  ·injection e with e1 _
   subst e1
   cases v<;>rfl
theorem Wq(prog:Program)(w:World)(i:Int)(t:Tok):(dP prog w).is (.inl i) (.int i t)=true:=HN i t
theorem FP(prog:Program)(w:World)(x:Str)(t:Tok):(dP prog w).is (.inr x) (.str x t)=true:=Vc x t
end L2
namespace L2
open PySem PySem.Spec PyProof.Rows
inductive V where
 | non | bl (b:Bool) | int (i:Int) | str (x:Str) | byt (b:Array UInt8) | flt (b:UInt64) | ref (a:Addr) | ty (n:String)
 deriving DecidableEq
def RelV:V->Value->Prop
 | .non,u=>u=Value.none
 | .bl b,u=>u=Value.bool b
 | .int i,u=>∃ t,u=Value.int i t
 | .str x,u=>∃ t,u=Value.str x t
 | .byt b,u=>∃ t,u=Value.bytes b t
 | .flt b,u=>∃ t,u=Value.float b t
 | .ref a,u=>u=Value.ref a
 | .ty n,u=>u=Value.type n
abbrev Vals:List V->List Value->Prop:=Paired RelV
theorem Vals.length{xs:List V}{us:List Value}(r:Vals xs us):xs.length=us.length:=Paired.length r
theorem Vals.get:∀ {xs:List V} {us:List Value} {i:Nat} {x:V},Vals xs us->xs[i]?=some x->∃ u,us[i]?=some u/\RelV x u
 | _,_,_,_,.nil,e=>by simp at e
 | _,_,0,_,.cons r _,e=>by simp at e;subst e;exact⟨_,rfl,r⟩
 | _,_,i+1,x,.cons _ t,e=>by
  obtain⟨u,h1,h2⟩:=Vals.get (i:=i) (x:=x) t (by simpa using e)
  exact⟨u,by simpa using h1,h2⟩
theorem Vals.set{x:V}{u:Value}(r:RelV x u):∀ {xs:List V} {us:List Value} (i:Nat),Vals xs us->Vals (xs.set i x) (us.set i u)
 | _,_,_,.nil=>.nil
 | _,_,0,.cons _ t=>.cons r t
 | _,_,i+1,.cons q t=>.cons q (Vals.set r i t)
theorem Vals.append:∀ {xs ys:List V} {us ws:List Value},Vals xs us->Vals ys ws->Vals (xs++ys) (us++ws)
 | _,_,_,_,.nil,s=>s
 | _,_,_,_,.cons r t,s=>.cons r (Vals.append t s)
theorem Vals.take:∀ {xs:List V} {us:List Value} (n:Nat),Vals xs us->Vals (xs.take n) (us.take n)
 | _,_,0,_=>.nil
 | _,_,_+1,.nil=>.nil
 | _,_,n+1,.cons r t=>.cons r (Vals.take n t)
theorem Vals.drop:∀ {xs:List V} {us:List Value} (n:Nat),Vals xs us->Vals (xs.drop n) (us.drop n)
 | _,_,0,r=>r
 | _,_,_+1,.nil=>.nil
 | _,_,n+1,.cons _ t=>Vals.drop n t
def RelO:Option V->Option Value->Prop
 | some v,some u=>RelV v u
 | none,none=>True
 | _,_=>False
def KV{κ:Type}:List (κ×V)->List (κ×Value)->Prop:=Paired fun(p:κ×V) (q:κ×Value)=>p.1=q.1/\RelV p.2 q.2
def kV:bF->V
 | .inl i=>.int i
 | .inr x=>.str x
inductive HO where
 | lst (xs:List V)
 | tup (xs:List V)
 | dK (kvs:List (bF×V)) | dT (kvs:List (List bF×V)) | dN (K:ac) (kvs:List (List PyData×V))
 | set (S:Int->Bool) (n:Nat)
 | ins (C dx:Addr) (fs:List (Str×V))
 | own (x:Addr)
 | xd (fs:List (Str×V))
 | met (f x:Addr)
 | rng (lo hi:Int)
 | frz (o:Obj) (u:HO)
 | tbl (ps:Array Value)
 | ext (φ:Heap->Prop)
abbrev Hp:=Addr->Option HO
def upd(H:Hp)(a:Addr)(o:HO):Hp:=fun b=>if b=a then some o else H b
theorem dS{H:Hp}{a:Addr}{o:HO}:upd H a o a=some o:=by unfold upd;rw[if_pos rfl]
theorem cC{H:Hp}{a b:Addr}{o:HO}(h:b≠a):upd H a o b=H b:=by unfold upd;rw[if_neg h]
theorem kC{H:Hp}{a b:Addr}{o:HO}(h:H a=some o)(h':H b=none):a≠b:=by
 intro e;subst e;rw[h]at h';cases h'
def NoD(h:Heap)(a:Addr):Prop:=∃ o,h.get? a=some o/\o.dict=none
theorem NoD.new(h:Heap)(c:Value)(d:Data)(hf:Obj.isFreed {cls:=c,data:=d}=false:=by rfl):NoD (h.push {cls:=c,data:=d}) h.objs.size:=⟨_,ah _ hf,rfl⟩
theorem NoD.keep{h h':Heap}{a:Addr}(x:NoD h a)(k:∀ o,h.get? a=some o->h'.get? a=some o):NoD h' a:=let ⟨o,e,d⟩:=x;⟨o,k _ e,d⟩
def TupAt(K:ac)(H:Hp)(a:Addr)(xs:List V):Prop:=(H a=some (.tup xs)\/∃ o,H a=some (.frz o (.tup xs))) \/
  ∃ (o:Obj) (its:Array Value) (n:Nat),K.lookup a=some o/\(o.cls=.type "tuple"/\o.dict=none)/\o.data=.seq its n/\its.size<=sizeLine/\Vals xs its.toList
mutual
def NKV(K:ac)(H:Hp):PyData->V->Prop
 | .int i,v=>v=.int i
 | .str x,v=>v=.str x
 | .tuple xs,v=>∃ a vs,v=.ref a/\TupAt K H a vs/\NKVs K H xs vs
 | .none,_ | .bool _,_ | .list _,_ | .dict _,_=>False
def NKVs(K:ac)(H:Hp):List PyData->List V->Prop
 | [],vs=>vs=[]
 | x::xs,vs=>∃ v r,vs=v::r/\NKV K H x v/\NKVs K H xs r
end
section
variable {K:ac}{H H':Hp}
theorem TupAt.stay{a:Addr}{xs:List V}(x:TupAt K H a xs)(ht:∀ b xs,H b=some (.tup xs)->H' b=some (.tup xs))(hf:∀ b o u,H b=some (.frz o u)->H' b=some (.frz o u)):TupAt K H' a xs:=by
 rcases x with (x | ⟨o,x⟩) | x
 ·exact .inl (.inl (ht _ _ x))
 ·exact .inl (.inr ⟨o,hf _ _ _ x⟩)
 ·exact .inr x
mutual
theorem NKV.stay(ht:∀ b xs,H b=some (.tup xs)->H' b=some (.tup xs))(hf:∀ b o u,H b=some (.frz o u)->H' b=some (.frz o u)):∀ (p:PyData) (v:V),NKV K H p v->NKV K H' p v
 | .int _,_,x=>by simpa only[NKV] using x
 | .str _,_,x=>by simpa only[NKV] using x
 | .tuple xs,_,x=>by
  simp only[NKV]at x ⊢;obtain⟨a,vs,e,x1,x2⟩:=x;exact⟨a,vs,e,x1.stay ht hf,NKVs.stay ht hf xs vs x2⟩
 | .none,_,x | .bool _,_,x | .list _,_,x | .dict _,_,x=>by simp only[NKV]at x
theorem NKVs.stay(ht:∀ b xs,H b=some (.tup xs)->H' b=some (.tup xs))(hf:∀ b o u,H b=some (.frz o u)->H' b=some (.frz o u)):∀ (ps:List PyData) (vs:List V),NKVs K H ps vs->NKVs K H' ps vs
 | [],_,x=>by simpa only[NKVs] using x
 | p::ps,_,x=>by
  simp only[NKVs]at x ⊢;obtain⟨v,r,e,x1,x2⟩:=x;exact⟨v,r,e,NKV.stay ht hf p v x1,NKVs.stay ht hf ps r x2⟩
end
end
section
variable (P:Program)(w:World)
def ObjOk(H:Hp)(h:Heap)(a:Addr):HO->Prop
 | .lst xs=>xs.length<=sizeLine/\∃ (its:List Value) (n:Nat),Vals xs its/\h.get? a=some {cls:=.type "list",data:=.seq its.toArray n}
 | .tup xs=>(xs.length<=sizeLine/\NoD h a)/\∃ its:List Value,Vals xs its/\IsTup h a its.toArray
 | .dK kvs=>kvs.length<=sizeLine/\(a==sysModules)=false/\∃ vs,KV kvs vs/\h.DictOf (dP P w) a vs
 | .dT kvs=>kvs.length<=sizeLine/\(a==sysModules)=false/\∃ xs:List (List bF×Addr×Value),
   Paired (fun(p:List bF×V) (q:List bF×Addr×Value)=>p.1=q.1/\H q.2.1=some (.tup (p.1.map kV))/\RelV p.2 q.2.2) kvs xs /\
   ∃ o es ep,h.get? a=some o/\o.ExactDict/\o.data=.dict es ep/\es.toList=xs.map (entryOfKey (tupleKind (dP P w)))/\(xs.map (·.1)).Nodup
 | .dN K kvs=>kvs.length<=sizeLine/\(a==sysModules)=false/\∃ xs:List (List PyData×Addr×Value),
   Paired (fun(p:List PyData×V) (q:List PyData×Addr×Value)=>p.1=q.1/\(isKs p.1=true/\PyData.depthAll p.1<=6/\NKV K H (.tuple p.1) (.ref q.2.1))/\RelV p.2 q.2.2) kvs xs /\
   ∃ o es ep,h.get? a=some o/\o.ExactDict/\o.data=.dict es ep/\es.toList=xs.map (entryOfKey (mG P w))/\(xs.map (·.1)).Nodup
 | .set S n=>h.SetOf (intKind P w) a S n
 | .ins C dx fs=>H dx=some (.own a)/\fs.length<=1000/\dx≠a/\h.get? a=some (PySem.W.instObj C dx) /\
   ∃ mA,h.Ns1 dx mA/\(∀ f,RelO (fs.lookup f) (mA f))/\PySem.Within mA (fs.map (·.1))
 | .own _=>∃ o,h.get? a=some o
 | .xd fs=>∃ mA,h.Ns1 a mA/\∀ f,RelO (fs.lookup f) (mA f)
 | .rng lo hi=>∃ t u v,h.get? a=some {cls:=.type "range",data:=.fields #[.int lo t,.int hi u,.int 1 v]}
 | .frz o u=>h.get? a=some o/\ObjOk H h a u
 | .tbl ps=>h.get? a=some {cls:=.none,data:=.fields ps}
 | .met f x=>h.get? a=some (PySem.W.methodObj (.ref f) (.ref x))
 | .ext φ=>φ h/\(∃ o,h.get? a=some o)/\∀ h1 h2:Heap,φ h1->(∀ o,h1.get? a=some o->h2.get? a=some o)->φ h2
def HOk(H:Hp)(h:Heap):Prop:=∀ a o,H a=some o->ObjOk P w H h a o
end
section
variable {P:Program}{w:World}{H H':Hp}{h h':Heap}{a:Addr}{o:HO}
theorem ObjOk.lt(x:ObjOk P w H h a o):a<h.objs.size:=by
 cases o with
 | lst xs=>obtain⟨_,_,_,_,e⟩:=x;exact af e
 | tup xs=>obtain⟨_,_,_,p⟩:=x;exact p.lt
 | dK kvs=>obtain⟨_,_,_,_,o,_,_,e,_⟩:=x;exact af e
 | dT kvs=>obtain⟨_,_,_,_,o,_,_,e,_⟩:=x;exact af e
 | dN K kvs=>obtain⟨_,_,_,_,o,_,_,e,_⟩:=x;exact af e
 | set S n=>obtain⟨o,_,_,_,e,_⟩:=x;exact af e
 | ins C dx fs=>obtain⟨_,_,_,e,_⟩:=x;exact af e
 | own y=>obtain⟨_,e⟩:=x;exact af e
 | xd fs=>obtain⟨_,⟨_,_,_,e,_⟩,_⟩:=x;exact af e
 | rng lo hi=>obtain⟨_,_,_,e⟩:=x;exact af e
 | frz ob u=>obtain⟨e,_⟩:=x;exact af e
 | tbl ps=>exact af (show h.get? a=some _ from x)
 | met f y=>exact af (show h.get? a=some _ from x)
 | ext φ=>obtain⟨_,⟨_,e⟩,_⟩:=x;exact af e
theorem Paired.mapP{α β:Type}{F G:α->β->Prop}:∀ {l₁:List α} {l₂:List β},Paired F l₁ l₂->(∀ a b,F a b->G a b)->Paired G l₁ l₂
 | _,_,.nil,_=>.nil
 | _,_,.cons r t,f=>.cons (f _ _ r) (Paired.mapP t f)
theorem ObjOk.stay(x:ObjOk P w H h a o)(k:∀ b u,(b=a\/H b=some (.own a))->h.get? b=some u->h'.get? b=some u)
  (ho:∀ b,H b=some (.own a)->H' b=some (.own a)) (ht:∀ b xs,H b=some (.tup xs)->H' b=some (.tup xs)) (hf:∀ b ob u,H b=some (.frz ob u)->H' b=some (.frz ob u)):ObjOk P w H' h' a o:=by
 induction o with
 | lst xs=>obtain⟨z,its,n,r,e⟩:=x;exact⟨z,its,n,r,k _ _ (.inl rfl) e⟩
 | tup xs=>obtain⟨z,its,r,ob,e,c⟩:=x;exact⟨⟨z.1,z.2.keep fun _ e=>k _ _ (.inl rfl) e⟩,its,r,ob,k _ _ (.inl rfl) e,c⟩
 | dK kvs=>obtain⟨z,y,vs,r,ob,es,ep,e,c⟩:=x;exact⟨z,y,vs,r,ob,es,ep,k _ _ (.inl rfl) e,c⟩
 | dT kvs =>
  obtain⟨z,y,xs,r,ob,es,ep,e,c⟩:=x;exact⟨z,y,xs,Paired.mapP r fun p q z=>⟨z.1,ht _ _ z.2.1,z.2.2⟩,ob,es,ep,k _ _ (.inl rfl) e,c⟩
 | dN K kvs =>
  obtain⟨z,y,xs,r,ob,es,ep,e,c⟩:=x;exact⟨z,y,xs,Paired.mapP r fun p q z=>⟨z.1,⟨z.2.1.1,z.2.1.2.1,NKV.stay ht hf _ _ z.2.1.2.2⟩,z.2.2⟩,ob,es,ep,k _ _ (.inl rfl) e,c⟩
 | set S n=>obtain⟨ob,es,ep,t,e,c⟩:=x;exact⟨ob,es,ep,t,k _ _ (.inl rfl) e,c⟩
 | ins C dx fs =>
  obtain⟨d,z,ne,e,mA,⟨od,es,ep,e2,c⟩,r⟩:=x;exact⟨ho _ d,z,ne,k _ _ (.inl rfl) e,mA,⟨od,es,ep,k _ _ (.inr d) e2,c⟩,r⟩
 | own y=>obtain⟨ob,e⟩:=x;exact⟨ob,k _ _ (.inl rfl) e⟩
 | xd fs=>obtain⟨mA,⟨od,es,ep,e,c⟩,r⟩:=x;exact⟨mA,⟨od,es,ep,k _ _ (.inl rfl) e,c⟩,r⟩
 | rng lo hi=>obtain⟨t,u,v,e⟩:=x;exact⟨t,u,v,k _ _ (.inl rfl) e⟩
 | frz ob u ih=>obtain⟨e,q⟩:=x;exact⟨k _ _ (.inl rfl) e,ih q⟩
 | tbl ps =>
  have e:h.get? a=some {cls:=.none,data:=.fields ps}:=x
  show h'.get? a=some {cls:=.none,data:=.fields ps}
  exact k a _ (.inl rfl) e
 | met f y =>
  have e:h.get? a=some (PySem.W.methodObj (.ref f) (.ref y)):=x
  show h'.get? a=some (PySem.W.methodObj (.ref f) (.ref y))
  exact k a _ (.inl rfl) e
 | ext φ=>obtain⟨p,⟨o,e⟩,st⟩:=x;exact⟨st _ _ p fun o q=>k _ _ (.inl rfl) q,⟨o,k _ _ (.inl rfl) e⟩,st⟩
theorem HOk.lt(x:HOk P w H h)(e:H a=some o):a<h.objs.size:=(x a o e).lt
theorem HOk.fresh(x:HOk P w H h)(e:h.objs.size<=a):H a=none:=by
 cases q:H a with
 | none=>rfl
 | some u=>exact absurd (ai (x.lt q) e) (Nat.lt_irrefl _)
theorem HOk.kept(x:HOk P w H h)(k:∀ b u,h.get? b=some u->h'.get? b=some u):HOk P w H h':=fun a o e =>
 (x a o e).stay (fun b u _ q=>k b u q) (fun _ q=>q) (fun _ _ q=>q) fun _ _ _ q=>q
theorem HOk.laid(x:HOk P w H h)(k:∀ b u,h.get? b=some u->h'.get? b=some u)(hp:h.objs.size<=a)(new:ObjOk P w (upd H a o) h' a o):HOk P w (upd H a o) h':=fun b u e=>by
 have hn:=x.fresh hp
 by_cases hb:b=a
 ·subst hb;rw[dS]at e;cases e;exact new
 ·rw[cC hb]at e;exact(x b u e).stay (fun c v _ q=>k c v q) (fun c q=>by rw[cC (kC q hn)];exact q) (fun c xs q=>by rw[cC (kC q hn)];exact q) fun c ob u q=>by rw[cC (kC q hn)];exact q
end
def Rd(H:Hp)(a:Addr)(u:HO):Prop:=H a=some u\/∃ o,H a=some (.frz o u)
theorem Rd.of{H:Hp}{a:Addr}{u:HO}(h:H a=some u):Rd H a u:=.inl h
theorem Rd.ok{P:Program}{w:World}{H:Hp}{h:Heap}{a:Addr}{u:HO}(r:Rd H a u)(x:HOk P w H h):ObjOk P w H h a u:=by
 rcases r with r | ⟨o,r⟩
 ·exact x a u r
 ·obtain⟨_,q⟩:=x a _ r;exact q
def pD:Option HO->Prop
 | some (.lst _)=>True
 | some (.dK _)=>True
 | some (.dT _)=>True
 | some (.dN _ _)=>True
 | some (.set _ _)=>True
 | some (.ins _ _ _)=>True
 | some (.ext _)=>True
 | _=>False
section
variable {P:Program}{w:World}{H:Hp}{h h':Heap}{x e:Addr}{o':HO}
theorem HOk.write(ok:HOk P w H h)(mu:pD (H x))(he:e=x\/H e=some (.own x))(k:∀ b u,b≠e->h.get? b=some u->h'.get? b=some u)(heo:∃ u,h'.get? e=some u)
  (new:ObjOk P w (upd H x o') h' x o'):HOk P w (upd H x o') h':=fun b u q=>by
 have nown:∀ c y,H c=some (.own y)->c≠x:=fun c y r z=>by subst z;rw[r]at mu;exact mu
 have ntup:∀ c xs,H c=some (.tup xs)->c≠x:=fun c xs r z=>by subst z;rw[r]at mu;exact mu
 by_cases hb:b=x
 ·subst hb;rw[dS]at q;cases q;exact new
 ·rw[cC hb]at q
  by_cases hbe:b=e
  ·have q':H b=some (.own x):=by
    rcases he with z | z
    ·exact absurd (hbe.trans z) hb
    ·rw[hbe];exact z
   rw[q]at q';cases q';obtain⟨v,hv⟩:=heo;exact⟨v,by rw[hbe];exact hv⟩
  ·refine(ok b u q).stay (fun c v hc r=>k c v ?_ r) (fun c r=>by rw[cC (nown c b r)];exact r) (fun c xs r=>by rw[cC (ntup c xs r)];exact r) fun c ob u r=>by rw[cC (fun z=>by subst z;rw[r]at mu;exact mu)];exact r
   rcases hc with rfl | hc
   ·exact hbe
   ·rintro rfl;rcases he with z | z
    ·exact nown c b hc z
    ·rw[hc]at z;cases z;exact hb rfl
end
structure Un (fs ex:List Addr) (H H':Hp) (h h':Heap):Prop where
 keep:∀ b o,h.get? b=some o->H b=none->b∉fs->b∉ex->h'.get? b=some o
 slot:∀ b o,h.get? b=some o->H b=none->b∈fs->b∉ex->∃ sl,h'.get? b=some {o with slots:=sl}
 free:∀ b o,h.get? b=some o->H b=none->b∉ex->H' b=none
 there:∀ b o,h.get? b=some o->b∉ex->∃ o',h'.get? b=some o'
 tups:∀ b xs,H b=some (.tup xs)->H' b=some (.tup xs)
 frzs:∀ b o u,H b=some (.frz o u)->H' b=some (.frz o u)
 tbls:∀ b ps,H b=some (.tbl ps)->∃ more,H' b=some (.tbl (ps++more))
section
variable {fs fs' ex ex':List Addr}{H H1 H2:Hp}{h h1 h2 h':Heap}{a x e:Addr}{o:HO}
theorem Un.any(u:Un fs ex H H1 h h1){b:Addr}{ob:Obj}(q:h.get? b=some ob)(n:H b=none)(hx:b∉ex):∃ sl,h1.get? b=some {ob with slots:=sl}:=by
 by_cases hb:b∈fs
 ·exact u.slot b ob q n hb hx
 ·exact⟨ob.slots,u.keep b ob q n hb hx⟩
theorem Un.trans(a:Un fs ex H H1 h h1)(b:Un fs ex H1 H2 h1 h2):Un fs ex H H2 h h2 where
 keep:=fun c ob q n hc hx=>b.keep c ob (a.keep c ob q n hc hx) (a.free c ob q n hx) hc hx
 slot:=fun c ob q n hc hx=>by
  obtain⟨sl,e1⟩:=a.slot c ob q n hc hx;obtain⟨sl',e2⟩:=b.slot c _ e1 (a.free c ob q n hx) hc hx;exact⟨sl',e2⟩
 free:=fun c ob q n hx=>by
  obtain⟨o',e1⟩:=a.there c ob q hx;exact b.free c o' e1 (a.free c ob q n hx) hx
 there:=fun c ob q hx=>by
  obtain⟨o',e1⟩:=a.there c ob q hx;exact b.there c o' e1 hx
 tups:=fun c xs q=>b.tups c xs (a.tups c xs q)
 frzs:=fun c ob xs q=>b.frzs c ob xs (a.frzs c ob xs q)
 tbls:=fun c ps q=>by
  obtain⟨m1,e1⟩:=a.tbls c ps q;obtain⟨m2,e2⟩:=b.tbls c _ e1;exact⟨m1++m2,by rw[e2,Array.append_assoc]⟩
theorem Un.kept(k:∀ b u,h.get? b=some u->h'.get? b=some u):Un fs ex H H h h' :=
 ⟨fun b ob q _ _ _=>k b ob q,fun b ob q _ _ _=>⟨ob.slots,k b ob q⟩,fun _ _ _ n _=>n,fun b ob q _=>⟨ob,k b ob q⟩,fun _ _ q=>q,fun _ _ _ q=>q,fun _ ps q=>⟨#[],by rw[q];simp⟩⟩
theorem Un.refl:Un fs ex H H h h:=Un.kept fun _ _ q=>q
theorem Un.laid(k:∀ b u,h.get? b=some u->h'.get? b=some u)(hp:h.objs.size<=a)(hn:H a=none):Un fs ex H (upd H a o) h h' where
 keep:=fun b u q _ _ _=>k b u q
 slot:=fun b u q _ _ _=>⟨u.slots,k b u q⟩
 free:=fun b u q n _=>by rw[cC (am (ai (af q) hp))];exact n
 there:=fun b u q _=>⟨u,k b u q⟩
 tups:=fun b xs q=>by rw[cC (kC q hn)];exact q
 frzs:=fun b u xs q=>by rw[cC (kC q hn)];exact q
 tbls:=fun b ps q=>⟨#[],by rw[cC (kC q hn),q];simp⟩
theorem Un.write(mu:pD (H x))(he:e=x\/H e=some (.own x))(k:∀ b u,b≠e->h.get? b=some u->h'.get? b=some u)(heo:∃ u,h'.get? e=some u):Un fs ex H (upd H x o) h h':=by
 have hx:∀ b,H b=none->b≠x:=fun b n z=>by subst z;rw[n]at mu;exact mu
 have hb:∀ b,H b=none->b≠e:=fun b n z=>by
  subst z;rcases he with r | r
  ·exact hx b n r
  ·rw[n]at r;cases r
 have hm:∀ b u,H b=some u->¬ pD (some u)->b≠x:=fun b u q nm z=>by subst z;rw[q]at mu;exact nm mu
 refine⟨fun b u q n _ _=>k b u (hb b n) q,fun b u q n _ _=>⟨u.slots,k b u (hb b n) q⟩,fun b u q n _=>by rw[cC (hx b n)];exact n,fun b u q _=>?_,
  fun b xs q=>by rw[cC (hm b _ q fun z=>z)];exact q,fun b u xs q=>by rw[cC (hm b _ q fun z=>z)];exact q,fun b ps q=>⟨#[],by rw[cC (hm b _ q fun z=>z),q];simp⟩⟩
 by_cases hbe:b=e
 ·subst hbe;exact heo
 ·exact⟨u,k b u hbe q⟩
theorem Un.mono(u:Un fs ex H H1 h h1)(hs:∀ b∈fs,b∈fs')(hx:∀ b∈ex,b∈ex'):Un fs' ex' H H1 h h1 :=
 ⟨fun b ob q n hb he=>u.keep b ob q n (fun z=>hb (hs b z)) fun z=>he (hx b z),fun _ _ q n _ he=>u.any q n fun z=>he (hx _ z),fun b ob q n he=>u.free b ob q n fun z=>he (hx b z),fun b ob q he=>u.there b ob q fun z=>he (hx b z),u.tups,u.frzs,u.tbls⟩
end
def rV(h:Heap)(H:Hp):List Addr:=(List.range h.objs.size).filter fun a=>(H a).isSome
def iP(h:Heap)(H:Hp):Heap:=PySem.W.hideAll h (rV h H)
theorem DV(h:Heap)(H:Hp):(iP h H).objs.size=h.objs.size:=PySem.W.hideAll_size _ _
theorem y8{h:Heap}{H:Hp}{b:Addr}{o:Obj}(e:h.get? b=some o)(n:H b=none):(iP h H).get? b=some o :=
 PySem.W.hideAll_get _ e fun hm=>by
  have q:(H b).isSome=true:=(List.mem_filter.mp hm).2
  rw[n]at q;simp at q
theorem DF{h:Heap}{H:Hp}{b:Addr}{o:Obj}(e:(iP h H).get? b=some o):h.get? b=some o/\H b=none:=by
 have e':h.get? b=some o:=PySem.W.of_hideAll (rV h H) e
 refine⟨e',?_⟩
 cases q:H b with
 | none=>rfl
 | some x =>
  have hm:b∈rV h H:=List.mem_filter.mpr ⟨List.mem_range.mpr (af e'),by simp[q]⟩
  have z:(iP h H).get? b=none:=PySem.W.hideAll_none (rV h H) hm
  rw[z]at e;cases e
def Yy(g h:Heap)(L:Addr):List (Addr×Obj):=(List.range h.objs.size).filterMap fun a=>if a=L\/(g.get? a).isSome=true then none else (h.get? a).map fun o=>(a,o)
def rest(g h:Heap)(L d:Addr):List (Addr×Obj):=(Yy g h L).filter fun p=>decide (p.1≠d)
theorem wP{g h:Heap}{L d:Addr}:∀ p∈rest g h L d,p.1≠d:=fun p hp=>of_decide_eq_true (List.mem_filter.mp hp).2
end L2
namespace L2
open PySem PySem.Spec PyProof.Rows
structure Mod (K:ac) (mg:Str->Option Value) (base:Heap):Prop where
 kin:K.In base
 glob:base.Ns mainGlobals mg
 blt:∃ mb,base.Ns builtinsNs mb/\∀ x:Str,x≠"__name__"->mb x=bootBuiltins x
 nolimit:base.NoLimit
structure Cx where
 prog:Program
 w:World
 K:ac
 mg:Str->Option Value
 base:Heap
 A:Around
 N:List Str
 s₀:Shared
 H₀:Hp
 env:Env
 outer:List Env
 stack:List Env
 ex:List Addr
 fn:Str->Bool
 calm:Bool
 pn:List (Addr×Obj)
 xe:Value->Shared->Prop
def gR(l:List Env):List Addr:=l.filterMap (·.frame)
abbrev Cx.fs(X:Cx):List Addr:=gR X.outer
def iQ(sc:Scope)(x:Str):Prop:=sc.names.lookup x=some .local\/sc.names.lookup x=some .cell\/sc.names.lookup x=some .free
def hG(sc:Scope)(x:Str):Prop:=sc.names.lookup x=some .local\/sc.names.lookup x=some .cell
def FB(env:Env)(h:Heap)(m:Str->Option Value)(x:Str)(u:Value):Prop :=
 (env.kindOf x=some .local/\m x=some u)\/((env.kindOf x=some .cell\/env.kindOf x=some .free)/\∃ c,env.cells.lookup x=some c/\h.IsCell c (some u))
structure Cx.Ok (X:Cx):Prop where
 mod:Mod X.K X.mg X.base
 kind:X.env.scope.kind=.function
 glob:X.env.globals=mainGlobals
 blt:X.env.builtins=builtinsNs
 above:X.s₀.heap.objs.size<=X.env.locals
 inj:∀ x y c,X.env.cells.lookup x=some c->X.env.cells.lookup y=some c->x=y
 has:∀ x,(X.env.kindOf x=some .cell\/X.env.kindOf x=some .free)->∃ c,X.env.cells.lookup x=some c
 cab:∀ x c,X.fn x=true->X.env.cells.lookup x=some c->X.s₀.heap.objs.size<=c
 hd:X.calm=true->X.A.handled=none
 frames:X.A.frames=some X.stack
 stk:X.stack=X.outer\/(X.stack=X.env::X.outer/\X.env.frame=some X.env.locals)
 exf:∀ b∈X.ex,b≠X.env.locals/\∀ x c,X.env.cells.lookup x=some c->c≠b
 bs:∀ b o,X.base.get? b=some o->X.s₀.heap.get? b=some o/\X.H₀ b=none
 bsz:X.base.objs.size<=X.s₀.heap.objs.size
 noex:∀ b o,X.base.get? b=some o->b∉X.ex
 exfs:∀ b∈X.ex,b∉X.fs
 funs:X.s₀.heap.FunFrames X.base X.outer
 frf:∀ b∈X.fs,X.H₀ b=none
structure Inv (X:Cx) (pins:List (Addr×Obj)) (σ:List (Option V)) (H:Hp) (s:Shared):Prop where
 ok:X.Ok
 os:s.os=X.s₀.os
 bare:AllBare s.gens
 base:Un X.fs X.ex X.H₀ H X.s₀.heap s.heap
 loc:∃ m,s.heap.Ns X.env.locals m/\∀ (i:Nat) (x:Str) (v:V),X.N[i]?=some x->σ[i]?=some (some v)->iQ X.env.scope x->∃ u,RelV v u/\FB X.env s.heap m x u
 cell:∀ x c,X.env.cells.lookup x=some c->∃ v,s.heap.IsCell c v
 free:H X.env.locals=none
 freeC:∀ x c,X.env.cells.lookup x=some c->H c=none
 pin:∀ p∈X.pn++pins,s.heap.get? p.1=some p.2/\H p.1=none/\p.1≠X.env.locals/\p.1∉X.fs/\∀ v,p.2.data≠.cell v
 hok:HOk X.prog X.w H s.heap
 len:σ.length=X.N.length
section
variable {X:Cx}{pins:List (Addr×Obj)}{σ:List (Option V)}{H H':Hp}{s:Shared}{h':Heap}
theorem Cx.Ok.nofr(ok:X.Ok){b:Addr}{o:Obj}(e:X.base.get? b=some o):b∉X.fs:=fun hb=>by
 have:=(ok.funs.mem hb).1
 rw[e]at this;cases this
theorem Inv.bs(I:Inv X pins σ H s):∀ b o,X.base.get? b=some o->s.heap.get? b=some o/\H b=none:=fun b o e =>
 ⟨I.base.keep b o (I.ok.bs b o e).1 (I.ok.bs b o e).2 (I.ok.nofr e) (I.ok.noex b o e),I.base.free b o (I.ok.bs b o e).1 (I.ok.bs b o e).2 (I.ok.noex b o e)⟩
theorem Inv.bk(I:Inv X pins σ H s):∀ b o,X.base.get? b=some o->s.heap.get? b=some o:=fun b o e=>(I.bs b o e).1
theorem Inv.mod(I:Inv X pins σ H s):Mod X.K X.mg X.base:=I.ok.mod
theorem Inv.kIn(I:Inv X pins σ H s):X.K.In s.heap:=I.ok.mod.kin.keeps I.bk
theorem Inv.nolimit(I:Inv X pins σ H s):s.heap.NoLimit:=I.ok.mod.nolimit.keeps I.bk
theorem Inv.fr(I:Inv X pins σ H s):∃ m,Fr X.base X.env.locals s.heap m :=
 let ⟨m,hn,_⟩:=I.loc
 ⟨m,hn,I.bk,Nat.le_trans I.ok.bsz I.ok.above⟩
theorem Inv.lt(I:Inv X pins σ H s):X.env.locals<s.heap.objs.size:=let ⟨_,hn,_⟩:=I.loc;hn.lt
theorem Inv.sz(I:Inv X pins σ H s):X.s₀.heap.objs.size<=s.heap.objs.size:=Nat.le_trans I.ok.above (Nat.le_of_lt I.lt)
theorem Inv.nofs(I:Inv X pins σ H s){a:Addr}(h:s.heap.objs.size<=a):a∉X.fs:=fun hb=>by
 obtain⟨_,o,ho,_⟩:=I.ok.funs.mem hb;exact absurd (ai (af ho) (Nat.le_trans I.sz h)) (Nat.lt_irrefl _)
theorem Inv.cne(I:Inv X pins σ H s):∀ x c,X.env.cells.lookup x=some c->c≠X.env.locals:=fun x c e z=>by
 obtain⟨v,o,ho,hd⟩:=I.cell x c e;obtain⟨m,⟨o',es,ep,ho',hd',_⟩,_⟩:=I.loc;rw[z,ho']at ho;cases ho;rw[hd']at hd;cases hd
theorem Inv.funs(I:Inv X pins σ H s):s.heap.FunFrames X.base X.outer:=by
 have all:∀ (l:List Env),(∀ b∈gR l,b∈X.fs)->X.s₀.heap.FunFrames X.base l->s.heap.FunFrames X.base l:=by
  intro l
  induction l with
  | nil=>intro _ _;trivial
  | cons env r ih =>
   intro hs hl;obtain⟨hk,⟨L,o,hf,hn,ho,hd⟩,hr⟩:=hl;have hL:L∈X.fs:=hs L (by unfold gR;rw[List.filterMap_cons,hf];exact List.mem_cons_self)
   obtain⟨sl,e⟩:=I.base.slot L o ho (I.ok.frf L hL) hL fun z=>I.ok.exfs L z hL;exact⟨hk,⟨L,_,hf,hn,e,hd⟩,ih (fun b hb=>hs b (by unfold gR;rw[List.filterMap_cons,hf];exact ap _ hb)) hr⟩
 exact all X.outer (fun _ hb=>hb) I.ok.funs
theorem Inv.stack(I:Inv X pins σ H s):s.heap.FunFrames X.base X.stack:=by
 rcases I.ok.stk with e | ⟨e,hf⟩
 ·rw[e];exact I.funs
 ·rw[e];obtain⟨m,hn,_⟩:=I.loc;refine .cons (by rw[I.ok.kind];decide) hf hn ?_ I.funs
  exact Heap.get?_none_of_le (Nat.le_trans I.ok.bsz I.ok.above)
theorem Inv.stkSub(I:Inv X pins σ H s):∀ b∈gR X.stack,b∈X.env.locals::X.fs:=fun b hb=>by
 rcases I.ok.stk with e | ⟨e,hf⟩
 ·rw[e]at hb;exact ap _ hb
 ·rw[e]at hb;unfold gR at hb;rw[List.filterMap_cons,hf]at hb;exact hb
theorem Inv.stkFree(I:Inv X pins σ H s):∀ b∈gR X.stack,H b=none:=fun b hb=>by
 rcases List.mem_cons.mp (I.stkSub b hb) with e | hb
 ·rw[e];exact I.free
 ·obtain⟨_,o,ho,_⟩:=I.ok.funs.mem hb;exact I.base.free b o ho (I.ok.frf b hb) fun z=>I.ok.exfs b z hb
theorem Inv.step{g':Array GenState}{t':Nat}{d':Drawn}{ch:List Addr}(I:Inv X pins σ H s)
  (hch:∀ b∈ch,(b∈X.ex\/X.s₀.heap.objs.size<=b)/\b≠X.env.locals/\(∀ x c,X.env.cells.lookup x=some c->c≠b)/\∀ p∈X.pn++pins,p.1≠b)
  (keep:∀ b o,b≠X.env.locals->b∉X.fs->b∉ch->s.heap.get? b=some o->H b=none->h'.get? b=some o)
  (slot:∀ b o,b≠X.env.locals->b∈X.fs->b∉ch->s.heap.get? b=some o->H b=none->∃ sl,h'.get? b=some {o with slots:=sl}) (free:∀ b o,b∉ch->s.heap.get? b=some o->H b=none->H' b=none)
  (there:∀ b o,b∉ch->s.heap.get? b=some o->∃ o',h'.get? b=some o')
  (tups:∀ b xs,H b=some (.tup xs)->H' b=some (.tup xs)) (frzs:∀ b o u,H b=some (.frz o u)->H' b=some (.frz o u)) (tbls:∀ b ps,H b=some (.tbl ps)->∃ more,H' b=some (.tbl (ps++more)))
  (ns:∀ m,s.heap.Ns X.env.locals m->h'.Ns X.env.locals m) (hok:HOk X.prog X.w H' h') (hg:AllBare g') :
  Inv X pins σ H' {s with heap:=h',gens:=g',drawn:=d',toks:=t'}:=by
 have neL:∀ b o,X.s₀.heap.get? b=some o->b≠X.env.locals:=fun b o e=>am (ai (af e) I.ok.above)
 have neC:∀ b o,X.s₀.heap.get? b=some o->b∉X.ex->b∉ch:=fun b o e hx hb=>by
  rcases (hch b hb).1 with z | z
  ·exact hx z
  ·exact absurd (ai (af e) z) (Nat.lt_irrefl _)
 have cellK:∀ x c,X.env.cells.lookup x=some c->∀ v,s.heap.IsCell c v->h'.IsCell c v:=fun x c e v ⟨o,ho,hd⟩=>by
  have nch:c∉ch:=fun z=>(hch c z).2.2.1 x c e rfl
  by_cases hc:c∈X.fs
  ·obtain⟨sl,q⟩:=slot c o (I.cne x c e) hc nch ho (I.freeC x c e);exact⟨_,q,hd⟩
  ·exact⟨o,keep c o (I.cne x c e) hc nch ho (I.freeC x c e),hd⟩
 refine⟨I.ok,I.os,hg,⟨fun b o e n hb hx=>?_,fun b o e n hb hx=>?_,fun b o e n hx=>?_,fun b o e hx=>?_,fun b xs e=>tups b xs (I.base.tups b xs e),fun b o xs e=>frzs b o xs (I.base.frzs b o xs e),fun b ps e=>?_⟩,?_,fun x c e=>?_,?_,fun x c e=>?_,fun p hp=>?_,hok,I.len⟩
 ·exact keep b o (neL b o e) hb (neC b o e hx) (I.base.keep b o e n hb hx) (I.base.free b o e n hx)
 ·obtain⟨sl,e1⟩:=I.base.slot b o e n hb hx;obtain⟨sl',e2⟩:=slot b _ (neL b o e) hb (neC b o e hx) e1 (I.base.free b o e n hx);exact⟨sl',e2⟩
 ·obtain⟨o',e1⟩:=I.base.there b o e hx;exact free b o' (neC b o e hx) e1 (I.base.free b o e n hx)
 ·obtain⟨o',e1⟩:=I.base.there b o e hx;exact there b o' (neC b o e hx) e1
 ·obtain⟨m1,e1⟩:=I.base.tbls b ps e;obtain⟨m2,e2⟩:=tbls b _ e1;exact⟨m1++m2,by rw[e2,Array.append_assoc]⟩
 ·obtain⟨m,hn,hl⟩:=I.loc;refine⟨m,ns m hn,fun i x v e1 e2 e3=>?_⟩;obtain⟨u,r,l⟩:=hl i x v e1 e2 e3;refine⟨u,r,?_⟩;rcases l with l | ⟨k,c,e,z⟩
  ·exact .inl l
  ·exact .inr ⟨k,c,e,cellK x c e _ z⟩
 ·obtain⟨v,z⟩:=I.cell x c e;exact⟨v,cellK x c e v z⟩
 ·obtain⟨m,⟨o,_,_,ho,_⟩,_⟩:=I.loc;exact free _ o (fun z=>(hch _ z).2.1 rfl) ho I.free
 ·obtain⟨v,o,ho,hd⟩:=I.cell x c e;exact free c o (fun z=>(hch c z).2.2.1 x c e rfl) ho (I.freeC x c e)
 ·obtain⟨e,n,ne,nf,d⟩:=I.pin p hp;have nch:p.1∉ch:=fun z=>(hch p.1 z).2.2.2 p hp rfl
  exact⟨keep p.1 p.2 ne nf nch e n,free p.1 p.2 nch e n,ne,nf,d⟩
theorem Inv.un{t':Nat}(I:Inv X pins σ H s)(u:Un X.fs [] H H' s.heap h')(hok:HOk X.prog X.w H' h'):Inv X pins σ H' {s with heap:=h',toks:=t'}:=by
 obtain⟨m,⟨o,es,ep,ho,r⟩,_⟩:=id I.loc;obtain⟨sl,hL⟩:=u.any ho I.free (by simp)
 exact I.step (g':=s.gens) (d':=s.drawn) (ch:=[]) (fun _ z=>nomatch z) (fun b o _ hb _ e n=>u.keep b o e n hb (by simp)) (fun b o _ hb _ e n=>u.slot b o e n hb (by simp)) (fun b o _ e n=>u.free b o e n (by simp)) (fun b o _ e=>u.there b o e (by simp)) u.tups u.frzs u.tbls (fun m' hm=>by
  obtain⟨o',es',ep',ho',r'⟩:=hm;rw[ho]at ho';cases ho';exact⟨_,es',ep',hL,r'⟩) hok I.bare
theorem Inv.call{g':Array GenState}{t':Nat}{d':Drawn}{ch:List Addr}(I:Inv X pins σ H s)(u:Un (gR X.stack) ch H H' s.heap h')(hok:HOk X.prog X.w H' h')(hg:AllBare g')
  (hch:∀ b∈ch,(b∈X.ex\/X.s₀.heap.objs.size<=b)/\b≠X.env.locals/\(∀ x c,X.env.cells.lookup x=some c->c≠b)/\∀ p∈X.pn++pins,p.1≠b) :
  Inv X pins σ H' {s with heap:=h',gens:=g',drawn:=d',toks:=t'}:=by
 obtain⟨m,⟨o,es,ep,ho,r⟩,_⟩:=id I.loc;obtain⟨sl,hL⟩:=u.any ho I.free fun z=>(hch _ z).2.1 rfl;exact I.step (ch:=ch) hch (fun b o hL hb hc e n=>u.keep b o e n (fun z=>(List.mem_cons.mp (I.stkSub b z)).elim hL hb) hc) (fun b o _ _ hc e n=>u.any e n hc) (fun b o hc e n=>u.free b o e n hc) (fun b o hc e=>u.there b o e hc) u.tups u.frzs u.tbls (fun m' hm=>by
  obtain⟨o',es',ep',ho',r'⟩:=hm;rw[ho]at ho';cases ho';exact⟨_,es',ep',hL,r'⟩) hok hg
theorem Inv.turned{t':Nat}{it:Addr}(I:Inv X pins σ H s)(k:∀ b o,b≠it->s.heap.get? b=some o->h'.get? b=some o)(hn:H it=none)(hL:it≠X.env.locals)
  (h1:it∈X.ex\/X.s₀.heap.objs.size<=it) (h2:∀ x c,X.env.cells.lookup x=some c->c≠it) (h3:∀ p∈X.pn++pins,p.1≠it):Inv X pins σ H {s with heap:=h',toks:=t'}:=by
 have nit:∀ b u,H b=some u->b≠it:=fun b u e z=>by rw[z,hn]at e;cases e
 refine I.step (g':=s.gens) (d':=s.drawn) (ch:=[it]) (fun b hb=>?_) (fun b o _ _ hc e _=>k b o (fun z=>hc (by simp[z])) e) (fun b o _ _ hc e _=>⟨o.slots,k b o (fun z=>hc (by simp[z])) e⟩) (fun _ _ _ _ n=>n)
  (fun b o hc e=>⟨o,k b o (fun z=>hc (by simp[z])) e⟩) (fun _ _ e=>e) (fun _ _ _ e=>e) (fun b ps e=>⟨#[],by rw[e];simp⟩) (fun m hm=>?_) (fun b u e=>?_) I.bare
 ·have e:b=it:=by simpa using hb
  subst e;exact⟨h1,hL,h2,h3⟩
 ·obtain⟨o,es,ep,ho,r⟩:=hm;exact⟨o,es,ep,k _ o (Ne.symm hL) ho,r⟩
 ·refine(I.hok b u e).stay (fun c v hc q=>k c v ?_ q) (fun _ q=>q) (fun _ _ q=>q) fun _ _ _ q=>q;rcases hc with z | z
  ·rw[z];exact nit b u e
  ·exact nit c _ z
theorem Inv.tok(I:Inv X pins σ H s)(t:Nat):Inv X pins σ H {s with toks:=t}:=I.un (h':=s.heap) (t':=t) Un.refl I.hok
theorem Inv.kept{t':Nat}(I:Inv X pins σ H s)(k:∀ b u,s.heap.get? b=some u->h'.get? b=some u):Inv X pins σ H {s with heap:=h',toks:=t'}:=I.un (Un.kept k) (I.hok.kept k)
theorem Inv.laid{a:Addr}{o:HO}{t':Nat}(I:Inv X pins σ H s)(k:∀ b u,s.heap.get? b=some u->h'.get? b=some u)(hp:s.heap.objs.size<=a)(new:ObjOk X.prog X.w (upd H a o) h' a o) :
  Inv X pins σ (upd H a o) {s with heap:=h',toks:=t'}:=I.un (Un.laid k hp (I.hok.fresh hp)) (I.hok.laid k hp new)
theorem Inv.write{x e:Addr}{o:HO}{t':Nat}(I:Inv X pins σ H s)(mu:pD (H x))(he:e=x\/H e=some (.own x))(k:∀ b u,b≠e->s.heap.get? b=some u->h'.get? b=some u)(heo:∃ u,h'.get? e=some u)
  (new:ObjOk X.prog X.w (upd H x o) h' x o):Inv X pins σ (upd H x o) {s with heap:=h',toks:=t'}:=I.un (Un.write mu he k heo) (I.hok.write mu he k heo new)
theorem Inv.pins_of{pins':List (Addr×Obj)}(I:Inv X pins σ H s)(h:∀ p∈pins',s.heap.get? p.1=some p.2/\H p.1=none/\p.1≠X.env.locals/\p.1∉X.fs/\∀ v,p.2.data≠.cell v):Inv X pins' σ H s :=
 ⟨I.ok,I.os,I.bare,I.base,I.loc,I.cell,I.free,I.freeC,fun p hp=>(List.mem_append.mp hp).elim (fun z=>I.pin p (List.mem_append_left _ z)) (h p),I.hok,I.len⟩
theorem Nk{N:List Str}(hN:N.Nodup){i j:Nat}{x:Str}(a:N[i]?=some x)(b:N[j]?=some x):i=j:=by
 obtain⟨h1,e1⟩:=List.getElem?_eq_some_iff.mp a;obtain⟨h2,e2⟩:=List.getElem?_eq_some_iff.mp b;exact(List.getElem_inj hN).mp (e1.trans e2.symm)
theorem Hw{M:Model}{A:Around}{E:Value->Shared->Prop}{i:Nat}{x:Str}{v:V}{u:Value}{Q:Unit->Shared->Prop}(I:Inv X pins σ H s)(hN:X.N.Nodup)(hi:X.N[i]?=some x)(hx:hG X.env.scope x)(r:RelV v u)
  (h:∀ s',Inv X pins (σ.set i (some v)) H s'->(∃ a,Heap.SameBut a s.heap s'.heap/\(a=X.env.locals\/X.env.cells.lookup x=some a))->Q () s') (hf:X.fn x=true\/X.env.scope.names.lookup x=some .local:=by first | exact .inl rfl | exact .inr rfl | assumption):wpAny M A (storeName X.env x u) Q E s:=by
 obtain⟨m,hn,hl⟩:=id I.loc;have hcls:(X.env.scope.kind==.class||(X.env.scope.kind==.module&&X.env.locals != X.env.globals))=false:=by rw[I.ok.kind];rfl
 have hiσ:i<σ.length:=by rw[I.len];exact(List.getElem?_eq_some_iff.mp hi).1
 have cne:=I.cne
 have tracked:∀ {a:Addr} {h':Heap},(∃ o,s.heap.get? a=some o/\H a=none)->Heap.SameBut a s.heap h'->HOk X.prog X.w H h':=fun {a h'} ha hs b ob e=>by
  obtain⟨_,_,hfree⟩:=ha;refine(I.hok b ob e).stay (fun c w' hc q=>(hs.2 c ?_).trans q) (fun _ q=>q) (fun _ _ q=>q) fun _ _ _ q=>q;rintro rfl;rcases hc with rfl | hc
  ·rw[hfree]at e;cases e
  ·rw[hfree]at hc;cases hc
 rcases hx with hk | hk
 ·refine wpAny_storeName_local hk hn (fun h' hn' hs=>?_) hcls;obtain⟨oL,_,_,hoL,_⟩:=id hn;refine h _ ⟨I.ok,I.os,I.bare,⟨fun b o e n hb hx=>?_,fun b o e n hb hx=>?_,I.base.free,fun b o e hx=>?_,I.base.tups,I.base.frzs,I.base.tbls⟩,⟨_,hn',fun j y v' e1 e2 e3=>?_⟩,fun y c e=>?_,I.free,I.freeC,fun p hp=>?_,tracked ⟨oL,hoL,I.free⟩ hs,by simpa using I.len⟩ ⟨_,hs,.inl rfl⟩
  ·exact(hs.2 b (am (ai (af e) I.ok.above))).trans (I.base.keep b o e n hb hx)
  ·obtain⟨sl,e1⟩:=I.base.slot b o e n hb hx;exact⟨sl,(hs.2 b (am (ai (af e) I.ok.above))).trans e1⟩
  ·obtain⟨o',e1⟩:=I.base.there b o e hx;exact⟨o',(hs.2 b (am (ai (af e) I.ok.above))).trans e1⟩
  ·by_cases hj:j=i
   ·subst hj;rw[hi]at e1;cases e1;rw[List.getElem?_set_self hiσ]at e2
    cases e2
    exact⟨u,r,.inl ⟨hk,by simp⟩⟩
   ·rw[List.getElem?_set_ne (Ne.symm hj)]at e2;obtain⟨u',r',q⟩:=hl j y v' e1 e2 e3;refine⟨u',r',?_⟩;rcases q with⟨k,e⟩ | ⟨k,c,e,z⟩
    ·refine .inl ⟨k,?_⟩;have:y≠x:=fun e=>hj (Nk hN e1 (e▸hi))
     simp[this,e]
    ·exact .inr ⟨k,c,e,z.sameBut hs (cne y c e)⟩
  ·obtain⟨w',z⟩:=I.cell y c e;exact⟨w',z.sameBut hs (cne y c e)⟩
  ·obtain⟨e,n,ne,nf,d⟩:=I.pin p hp;exact⟨(hs.2 p.1 ne).trans e,n,ne,nf,d⟩
 ·have hfn:X.fn x=true:=by
   rcases hf with z | z
   ·exact z
   ·rw[z]at hk;cases hk
  obtain⟨c,hc⟩:=I.ok.has x (.inl hk);obtain⟨w',z⟩:=I.cell x c hc;refine wpAny_storeName_cell I.ok.kind hk hc z (fun h' hc' hs=>?_);obtain⟨oc,hoc,hocd⟩:=id z;refine h {s with heap:=h'} ⟨I.ok,I.os,I.bare,⟨fun b o e n hb hx=>?_,fun b o e n hb hx=>?_,I.base.free,fun b o e hx=>?_,I.base.tups,I.base.frzs,I.base.tbls⟩,⟨m,hn.sameBut hs (Ne.symm (cne x c hc)),fun j y v' e1 e2 e3=>?_⟩,fun y c' e=>?_,I.free,I.freeC,fun p hp=>?_,tracked ⟨oc,hoc,I.freeC x c hc⟩ hs,by simpa using I.len⟩ ⟨c,hs,.inr hc⟩
  ·exact(hs.2 b (am (ai (af e) (I.ok.cab x c hfn hc)))).trans (I.base.keep b o e n hb hx)
  ·obtain⟨sl,e1⟩:=I.base.slot b o e n hb hx;exact⟨sl,(hs.2 b (am (ai (af e) (I.ok.cab x c hfn hc)))).trans e1⟩
  ·obtain⟨o',e1⟩:=I.base.there b o e hx;exact⟨o',(hs.2 b (am (ai (af e) (I.ok.cab x c hfn hc)))).trans e1⟩
  ·by_cases hj:j=i
   ·subst hj;rw[hi]at e1;cases e1;rw[List.getElem?_set_self hiσ]at e2
    cases e2
    exact⟨u,r,.inr ⟨.inl hk,c,hc,hc'⟩⟩
   ·rw[List.getElem?_set_ne (Ne.symm hj)]at e2;obtain⟨u',r',q⟩:=hl j y v' e1 e2 e3;refine⟨u',r',?_⟩;rcases q with q | ⟨k,c',e,z'⟩
    ·exact .inl q
    ·refine .inr ⟨k,c',e,z'.sameBut hs ?_⟩;rintro rfl;exact hj (Nk hN e1 (I.ok.inj _ _ _ e hc▸hi))
  ·by_cases hcc:c'=c
   ·subst hcc;exact⟨_,hc'⟩
   ·obtain⟨w2,z2⟩:=I.cell y c' e;exact⟨w2,z2.sameBut hs hcc⟩
  ·obtain⟨e,n,ne,nf,d⟩:=I.pin p hp;refine⟨(hs.2 p.1 ?_).trans e,n,ne,nf,d⟩;intro q;rw[q,hoc]at e;have q':oc=p.2:=Option.some.inj e
   exact d w' (by rw[<- q'];exact hocd)
theorem rO{M:Model}{A:Around}{E:Value->Shared->Prop}{i:Nat}{x:Str}{v:V}{u:Value}{Q:Unit->Shared->Prop}(I:Inv X pins σ H s)(hN:X.N.Nodup)(hi:X.N[i]?=some x)(hx:hG X.env.scope x)(r:RelV v u)
  (h:∀ s',Inv X pins (σ.set i (some v)) H s'->Q () s') (hf:X.fn x=true\/X.env.scope.names.lookup x=some .local:=by first | exact .inl rfl | exact .inr rfl | assumption):wpAny M A (storeName X.env x u) Q E s :=
 Hw I hN hi hx r (fun s' I' _=>h s' I') hf
theorem Inv.call'{s':Shared}{ch:List Addr}(I:Inv X pins σ H s)(ho:s'.os=s.os)(u:Un (gR X.stack) ch H H' s.heap s'.heap)(hok:HOk X.prog X.w H' s'.heap)(hg:AllBare s'.gens)
  (hch:∀ b∈ch,(b∈X.ex\/X.s₀.heap.objs.size<=b)/\b≠X.env.locals/\(∀ x c,X.env.cells.lookup x=some c->c≠b)/\∀ p∈X.pn++pins,p.1≠b):Inv X pins σ H' s':=by
 obtain⟨h',g',d',t',o'⟩:=s';have e:o'=s.os:=ho
 subst e;exact I.call (g':=g') (t':=t') (d':=d') u hok hg hch
end
abbrev XK:=Value->Option Addr->Hp->Prop
abbrev St:=List (Option V)
abbrev VK:=V->Hp->Prop
abbrev TE:=St->Hp->VK->Prop
abbrev TT:=St->Hp->(Bool->Hp->Prop)->Prop
abbrev TA:=St->Hp->(List V->Hp->Prop)->Prop
structure Ends where
 nx:St->Hp->Prop
 rt:VK
 bk:St->Hp->Prop:=fun _ _=>False
 ct:St->Hp->Prop:=fun _ _=>False
abbrev TS:=Ends->St->Hp->Prop
def EP(X:Cx)(pins:List (Addr×Obj))(σ:St)(Q:VK)(u:Value)(s':Shared):Prop:=∃ v H',Inv X pins σ H' s'/\RelV v u/\Q v H'
def TP(X:Cx)(pins:List (Addr×Obj))(σ:St)(Q:Bool->Hp->Prop)(b:Bool)(s':Shared):Prop:=∃ H',Inv X pins σ H' s'/\Q b H'
def AP(X:Cx)(pins:List (Addr×Obj))(σ:St)(Q:List V->Hp->Prop)(us:List Value)(s':Shared):Prop:=∃ vs H',Inv X pins σ H' s'/\Vals vs us/\Q vs H'
def SP(X:Cx)(pins:List (Addr×Obj))(D:Ends)(f:Flow)(s':Shared):Prop :=
 match f with
 | .next=>∃ σ' H',Inv X pins σ' H' s'/\D.nx σ' H'
 | .brk=>∃ σ' H',Inv X pins σ' H' s'/\D.bk σ' H'
 | .cont=>∃ σ' H',Inv X pins σ' H' s'/\D.ct σ' H'
 | .ret u=>∃ v σ' H',Inv X pins σ' H' s'/\RelV v u/\D.rt v H'
def PE(X:Cx)(e:Expr)(t:TE):Prop :=
 ∀ (pins:List (Addr×Obj)) (s:Shared) (σ:St) (H:Hp) (Q:VK),Inv X pins σ H s->t σ H Q->wpAny (model X.prog X.w) X.A (eval e X.env) (EP X pins σ Q) X.xe s
def PT(X:Cx)(e:Expr)(t:TT):Prop :=
 ∀ (pins:List (Addr×Obj)) (s:Shared) (σ:St) (H:Hp) (Q:Bool->Hp->Prop),Inv X pins σ H s->t σ H Q->wpAny (model X.prog X.w) X.A (isTrue e X.env (eval e X.env)) (TP X pins σ Q) X.xe s
def PW(X:Cx)(e:Expr)(t:TT):Prop :=
 ∀ (whole:Sem Value) (pins:List (Addr×Obj)) (s:Shared) (σ:St) (H:Hp) (Q:Bool->Hp->Prop),Inv X pins σ H s->t σ H Q->wpAny (model X.prog X.w) X.A (isTrue e X.env whole) (TP X pins σ Q) X.xe s
theorem PW.pt{X:Cx}{e:Expr}{t:TT}(h:PW X e t):PT X e t:=h _
def PA(X:Cx)(es:List Expr)(t:TA):Prop :=
 ∀ (pos:Pos) (pins:List (Addr×Obj)) (s:Shared) (σ:St) (H:Hp) (Q:List V->Hp->Prop),Inv X pins σ H s->t σ H Q->wpAny (model X.prog X.w) X.A (spliced (backTo pos (starEach es X.env))) (AP X pins σ Q) X.xe s
def PS(X:Cx)(st:Stmt)(t:TS):Prop :=
 ∀ (pins:List (Addr×Obj)) (s:Shared) (σ:St) (H:Hp) (D:Ends),Inv X pins σ H s->t D σ H->wpAny (model X.prog X.w) X.A (exec st X.env) (SP X pins D) X.xe s
def PSs(X:Cx)(st:List Stmt)(t:TS):Prop :=
 ∀ (pins:List (Addr×Obj)) (s:Shared) (σ:St) (H:Hp) (D:Ends),Inv X pins σ H s->t D σ H->wpAny (model X.prog X.w) X.A (execs st X.env) (SP X pins D) X.xe s
theorem aP{α:Type}{t:Sem α}{Q Q':α->Shared->Prop}{M:Model}{A:Around}{E:Value->Shared->Prop}{s:Shared}(h:wpAny M A t Q E s)(hQ:∀ a s,Q a s->Q' a s):wpAny M A t Q' E s:=wpAny_mono h hQ fun _ _ x=>x
end L2
namespace L2
open PySem PySem.Spec PyProof.Rows
section
variable {X:Cx}
def EA(i:Nat):TE:=fun σ H Q=>∃ v,σ[i]?=some (some v)/\Q v H
def tC(v:V):TE:=fun _ H Q=>Q v H
theorem Y4{i:Nat}{x:Str}{pos:Pos}(hN:X.N[i]?=some x)(hv:iQ X.env.scope x)(hd:(x==("__debug__" : Str))=false:=by decide)(hcd:(x==("__classdict__" : Str))=false:=by decide):PE X (.Name x pos) (EA i):=by
 intro pins s σ H Q I h;obtain⟨v,e,h⟩:=h;obtain⟨m,hn,hl⟩:=I.loc;obtain⟨u,r,l⟩:=hl i x v hN e hv;have fin:EP X pins σ Q u s:=⟨v,H,I,r,h⟩
 rcases l with⟨hk,hm⟩ | ⟨hk,c,hc,hcell⟩
 ·exact wpAny_Name (wpAny_loadName_local I.ok.kind hk hn hm fin) hd
 ·rcases hk with hk | hk
  ·exact wpAny_Name (wpAny_loadName_cell I.ok.kind hk hc hcell fin) hd
  ·exact wpAny_Name (wpAny_loadName_free I.ok.kind hk hc hcell fin hcd) hd
theorem f7{i j pos}:PE X (.Constant (.int i) j pos) (tC (.int i)):=fun _ _ _ H _ I h=>wpAny_Constant_int ⟨.int i,H,I.tok _,⟨_,rfl⟩,h⟩
theorem Uz{b j pos}:PE X (.Constant (.bool b) j pos) (tC (.bl b)):=fun _ _ _ H _ I h=>Constant_bool ⟨.bl b,H,I,rfl,h⟩
theorem y9{j pos}:PE X (.Constant .none j pos) (tC .non):=fun _ _ _ H _ I h=>Constant_none ⟨.non,H,I,rfl,h⟩
theorem zC{x j pos}:PE X (.Constant (.str x) j pos) (tC (.str x)):=fun _ _ _ H _ I h=>Calls.Constant_str ⟨.str x,H,I.tok _,⟨_,rfl⟩,h⟩
def Gl(X:Cx)(x:Str):Prop:=X.env.kindOf x=some .globalImplicit
theorem Nq{E:Value->Shared->Prop}{pins:List (Addr×Obj)}{s:Shared}{σ:St}{H:Hp}{x:Str}{u:Value}{pos:Pos}{Q:Value->Shared->Prop}(I:Inv X pins σ H s)(hg:Gl X x)(hm:X.mg x=some u)(h:Q u s)
  (hd:(x==("__debug__" : Str))=false:=by decide):wpAny (model X.prog X.w) X.A (eval (.Name x pos) X.env) Q E s :=
 Calls.Name_function_global I.ok.kind hg (Calls.loadGlobal_global (by rw[I.ok.glob];exact I.mod.glob.keeps I.bk) hm h) hd
theorem jB{E:Value->Shared->Prop}{pins:List (Addr×Obj)}{s:Shared}{σ:St}{H:Hp}{x:Str}{u:Value}{pos:Pos}{Q:Value->Shared->Prop}(I:Inv X pins σ H s)(hg:Gl X x)(hm:X.mg x=none)(hv:bootBuiltins x=some u)(h:Q u s)
  (hn:x≠"__name__":=by decide) (hd:(x==("__debug__" : Str))=false:=by decide):wpAny (model X.prog X.w) X.A (eval (.Name x pos) X.env) Q E s:=by
 obtain⟨mb,h1,h2⟩:=I.mod.blt;exact Calls.Name_function_global I.ok.kind hg (Calls.loadGlobal_builtin (by rw[I.ok.glob];exact I.mod.glob.keeps I.bk) hm (by rw[I.ok.blt];exact h1.keeps I.bk) ((h2 x hn).trans hv) h) hd
theorem nJ{x:Str}{v:V}{u:Value}{pos:Pos}(hg:Gl X x)(hm:X.mg x=some u)(r:RelV v u)(hd:(x==("__debug__" : Str))=false:=by decide):PE X (.Name x pos) (tC v) :=
 fun _ _ _ H _ I h=>Nq I hg hm ⟨v,H,I,r,h⟩ hd
theorem AC{x:Str}{v:V}{u:Value}{pos:Pos}(hg:Gl X x)(hm:X.mg x=none)(hv:bootBuiltins x=some u)(r:RelV v u)(hn:x≠"__name__":=by decide)(hd:(x==("__debug__" : Str))=false:=by decide):PE X (.Name x pos) (tC v) :=
 fun _ _ _ H _ I h=>jB I hg hm hv ⟨v,H,I,r,h⟩ hn hd
variable {a b:Expr}{ta tb:TE}{pos:Pos}
def tB(t:TE):TT:=fun σ H Q=>t σ H fun x H1=>∃ c,x=.bl c/\Q c H1
theorem GU{e:Expr}{t:TE}(h:PE X e t)(he:∀ whole,isTrue e X.env whole=(do let v <- whole;standAt e.pos;holding [v] (truthy v)):=by intro _;rfl):PT X e (tB t):=by
 intro pins s σ H Q I hw;refine isTrue_plain (aP (h pins s σ H _ I hw) fun v s1 ⟨x,H1,I1,r1,q1⟩=>?_) (he _);obtain⟨d,rfl,q⟩:=q1
 cases r1
 exact wpAny_truthy_bool ⟨H1,I1,q⟩
variable {tA tB':TT}{rest:List Expr}
def O8(t u:TT):TT:=fun σ H Q=>t σ H fun c H1=>if c=true then u σ H1 Q else Q false H1
def Yz(t u:TT):TT:=fun σ H Q=>t σ H fun c H1=>if c=true then Q true H1 else u σ H1 Q
def F4(t:TT):TT:=fun σ H Q=>t σ H fun c H1=>Q (!c) H1
theorem X8(ha:PT X a tA):PW X (.BoolOp .And [a] pos) tA:=by
 intro wh pins s σ H Q I h;refine isTrue_and (aP (ha pins s σ H Q I h) fun c s1 e=>?_)
 cases c with
 | true=>exact isTrue_and_nil e
 | false=>exact e
theorem Q1(ha:PT X a tA):PW X (.BoolOp .Or [a] pos) tA:=by
 intro wh pins s σ H Q I h;refine isTrue_or (aP (ha pins s σ H Q I h) fun c s1 e=>?_)
 cases c with
 | false=>exact isTrue_or_nil e
 | true=>exact e
theorem GE(ha:PT X a tA)(hb:PW X (.BoolOp .And (b::rest) pos) tB'):PW X (.BoolOp .And (a::b::rest) pos) (O8 tA tB'):=by
 intro wh pins s σ H Q I h;refine isTrue_and (aP (ha pins s σ H _ I h) fun c s1 ⟨H1,I1,q1⟩=>?_)
 cases c with
 | true=>exact hb wh pins s1 σ H1 Q I1 q1
 | false=>exact⟨H1,I1,q1⟩
theorem Yc(ha:PT X a tA)(hb:PW X (.BoolOp .Or (b::rest) pos) tB'):PW X (.BoolOp .Or (a::b::rest) pos) (Yz tA tB'):=by
 intro wh pins s σ H Q I h;refine isTrue_or (aP (ha pins s σ H _ I h) fun c s1 ⟨H1,I1,q1⟩=>?_)
 cases c with
 | true=>exact⟨H1,I1,q1⟩
 | false=>exact hb wh pins s1 σ H1 Q I1 q1
theorem AE(ha:PT X a tA):PT X (.UnaryOp .Not a pos) (F4 tA):=by
 intro pins s σ H Q I h;exact isTrue_not (ha pins s σ H (fun c H1=>Q (!c) H1) I h)
def J2(ta tb:TE):TE:=fun σ H Q=>ta σ H fun x H1=>∃ c,x=.bl c/\if c=true then tb σ H1 Q else Q (.bl false) H1
def FL(ta:TE):TE:=fun σ H Q=>ta σ H fun x H1=>∃ c,x=.bl c/\Q (.bl (!c)) H1
theorem v9{op}{t:TE}(h:PE X a t):PE X (.BoolOp op [a] pos) t:=fun pins s σ H Q I hw=>BoolOp_one (h pins s σ H Q I hw)
theorem Zu(ha:PE X a ta)(hb:PE X (.BoolOp .And (b::rest) pos) tb):PE X (.BoolOp .And (a::b::rest) pos) (J2 ta tb):=by
 intro pins s σ H Q I h;refine BoolOp_and (aP (ha pins s σ H _ I h) fun v s1 ⟨x,H1,I1,r1,q1⟩=>?_);obtain⟨c,rfl,q1⟩:=q1
 cases r1
 refine wpAny_truthy_bool ?_
 cases c with
 | true=>exact hb pins s1 σ H1 Q I1 q1
 | false=>exact⟨.bl false,H1,I1,rfl,q1⟩
theorem CO(ha:PE X a ta):PE X (.UnaryOp .Not a pos) (FL ta):=by
 intro pins s σ H Q I h;refine UnaryOp_ (aP (ha pins s σ H _ I h) fun v s1 ⟨x,H1,I1,r1,q1⟩=>?_);obtain⟨c,rfl,q1⟩:=q1
 cases r1
 exact not_of (wpAny_truthy_bool ⟨.bl (!c),H1,I1,rfl,q1⟩)
def Uu(t:TT)(ta tb:TE):TE:=fun σ H Q=>t σ H fun c H1=>if c=true then ta σ H1 Q else tb σ H1 Q
theorem IA{c:Expr}(hc:PT X c tA)(ha:PE X a ta)(hb:PE X b tb):PE X (.IfExp c a b pos) (Uu tA ta tb):=by
 intro pins s σ H Q I h;refine wpAny_IfExp (aP (hc pins s σ H _ I h) fun d s1 ⟨H1,I1,q1⟩=>?_)
 cases d with
 | true=>exact ha pins s1 σ H1 Q I1 q1
 | false=>exact hb pins s1 σ H1 Q I1 q1
end
end L2
namespace L2
open PySem PySem.Spec PyProof.Rows
def SqL(K:ac)(H:Hp)(a:Addr)(xs:List V):Prop :=
 Rd H a (.lst xs) \/
  ∃ (o:Obj) (its:Array Value) (n:Nat),K.lookup a=some o/\o.cls=.type "list"/\o.dict=none/\o.data=.seq its n/\its.size<=sizeLine/\Vals xs its.toList
def SqT(K:ac)(H:Hp)(a:Addr)(xs:List V):Prop :=
 Rd H a (.tup xs) \/
  ∃ (o:Obj) (its:Array Value) (n:Nat),K.lookup a=some o/\(o.cls=.type "tuple"/\o.dict=none)/\o.data=.seq its n/\its.size<=sizeLine/\Vals xs its.toList
def O6:Value->Option V
 | .none=>some .non
 | .bool b=>some (.bl b)
 | .int i _=>some (.int i)
 | .str x _=>some (.str x)
 | .bytes b _=>some (.byt b)
 | .float b _=>some (.flt b)
 | .ref a=>some (.ref a)
 | .type n=>some (.ty n)
 | _=>none
theorem RelV.abs{x:V}{u:Value}(r:RelV x u):O6 u=some x:=by
 cases x with
 | non=>cases r;rfl
 | bl _=>cases r;rfl
 | int _=>obtain⟨t,rfl⟩:=r;rfl
 | str _=>obtain⟨t,rfl⟩:=r;rfl
 | byt _=>obtain⟨t,rfl⟩:=r;rfl
 | flt _=>obtain⟨t,rfl⟩:=r;rfl
 | ref _=>cases r;rfl
 | ty _=>cases r;rfl
theorem RelV.inj{x y:V}{u:Value}(r:RelV x u)(q:RelV y u):x=y:=Option.some.inj (r.abs.symm.trans q.abs)
theorem Vals.inj:∀ {xs ys:List V} {us:List Value},Vals xs us->Vals ys us->xs=ys
 | _,_,_,.nil,.nil=>rfl
 | _,_,_,.cons r t,.cons r' t'=>by rw[r.inj r',Vals.inj t t']
section
variable {X:Cx}{pins:List (Addr×Obj)}{σ:St}{H:Hp}{s:Shared}{a:Addr}{xs ys:List V}
theorem SqL.of{K:ac}(h:H a=some (.lst xs)):SqL K H a xs:=.inl (.inl h)
theorem SqT.of{K:ac}(h:H a=some (.tup xs)):SqT K H a xs:=.inl (.inl h)
theorem Inv.list(I:Inv X pins σ H s)(h:SqL X.K H a xs):∃ its:List Value,Vals xs its/\PlainL s.heap a its.toArray/\xs.length<=sizeLine:=by
 rcases h with h | ⟨o,its,n,hk,hc,hd,hs,hz,r⟩
 ·obtain⟨z,its,n,r,e⟩:=h.ok I.hok;exact⟨its,r,⟨_,n,e,rfl,rfl,rfl⟩,z⟩
 ·refine⟨its.toList,r,⟨o,n,I.kIn a o hk,hc,hd,by simpa using hs⟩,?_⟩
  have e:=r.length
  simp only[Array.length_toList]at e;omega
theorem Inv.tuple(I:Inv X pins σ H s)(h:SqT X.K H a xs):∃ its:List Value,Vals xs its/\IsTup s.heap a its.toArray/\xs.length<=sizeLine:=by
 rcases h with h | ⟨o,its,n,hk,hc,hs,hz,r⟩
 ·obtain⟨z,its,r,p⟩:=h.ok I.hok;exact⟨its,r,p,z.1⟩
 ·refine⟨its.toList,r,⟨o,I.kIn a o hk,hc.1,n,by simpa using hs⟩,?_⟩
  have e:=r.length
  simp only[Array.length_toList]at e;omega
theorem Inv.list_inj(I:Inv X pins σ H s)(h:SqL X.K H a xs)(h':SqL X.K H a ys):xs=ys:=by
 obtain⟨its,r,⟨o,n,e,_,_,d⟩,_⟩:=I.list h;obtain⟨its',r',⟨o',n',e',_,_,d'⟩,_⟩:=I.list h';rw[e]at e';cases e';rw[d]at d'
 injection d' with d1 _
 have:its=its':=by simpa using congrArg Array.toList d1
 subst this;exact r.inj r'
theorem Inv.tuple_inj(I:Inv X pins σ H s)(h:SqT X.K H a xs)(h':SqT X.K H a ys):xs=ys:=by
 obtain⟨its,r,⟨o,e,_,n,d⟩,_⟩:=I.tuple h;obtain⟨its',r',⟨o',e',_,n',d'⟩,_⟩:=I.tuple h';rw[e]at e';cases e';rw[d]at d'
 injection d' with d1 _
 have:its=its':=by simpa using congrArg Array.toList d1
 subst this;exact r.inj r'
end
abbrev Cx.wish(X:Cx)(E:Value->Shared->Prop):Cx:={X with xe:=E}
abbrev Cx.nox(X:Cx):Cx:=X.wish fun _ _=>False
theorem Cx.Ok.wish{X:Cx}(ok:X.Ok)(E:Value->Shared->Prop):(X.wish E).Ok :=
 ⟨ok.mod,ok.kind,ok.glob,ok.blt,ok.above,ok.inj,ok.has,ok.cab,ok.hd,ok.frames,ok.stk,ok.exf,ok.bs,ok.bsz,ok.noex,ok.exfs,ok.funs,ok.frf⟩
theorem Cx.Ok.unwish{X:Cx}{E:Value->Shared->Prop}(ok:(X.wish E).Ok):X.Ok :=
 ⟨ok.mod,ok.kind,ok.glob,ok.blt,ok.above,ok.inj,ok.has,ok.cab,ok.hd,ok.frames,ok.stk,ok.exf,ok.bs,ok.bsz,ok.noex,ok.exfs,ok.funs,ok.frf⟩
section
variable {X:Cx}{pins:List (Addr×Obj)}{σ:St}{H:Hp}{s:Shared}{E:Value->Shared->Prop}
theorem Inv.wish(I:Inv X pins σ H s)(E:Value->Shared->Prop):Inv (X.wish E) pins σ H s:=⟨I.ok.wish E,I.os,I.bare,I.base,I.loc,I.cell,I.free,I.freeC,I.pin,I.hok,I.len⟩
theorem Inv.unwish(I:Inv (X.wish E) pins σ H s):Inv X pins σ H s:=⟨I.ok.unwish,I.os,I.bare,I.base,I.loc,I.cell,I.free,I.freeC,I.pin,I.hok,I.len⟩
theorem SP.unwish{D:Ends}{f:Flow}{s':Shared}(h:SP (X.wish E) pins D f s'):SP X pins D f s':=by
 cases f with
 | next=>obtain⟨σ',H',I,q⟩:=h;exact⟨σ',H',I.unwish,q⟩
 | brk=>obtain⟨σ',H',I,q⟩:=h;exact⟨σ',H',I.unwish,q⟩
 | cont=>obtain⟨σ',H',I,q⟩:=h;exact⟨σ',H',I.unwish,q⟩
 | ret u=>obtain⟨v,σ',H',I,r,q⟩:=h;exact⟨v,σ',H',I.unwish,r,q⟩
theorem PE.nox{e:Expr}{t:TE}(h:PE X.nox e t):PE X e t:=fun pins s σ H Q I hw =>
 wpAny_mono (h pins s σ H Q (I.wish _) hw) (fun _ _ ⟨v,H',I',r,q⟩=>⟨v,H',I'.unwish,r,q⟩) fun _ _ z=>False.elim z
theorem PT.nox{e:Expr}{t:TT}(h:PT X.nox e t):PT X e t:=fun pins s σ H Q I hw =>
 wpAny_mono (h pins s σ H Q (I.wish _) hw) (fun _ _ ⟨H',I',q⟩=>⟨H',I'.unwish,q⟩) fun _ _ z=>False.elim z
theorem PSs.nox{st:List Stmt}{t:TS}(h:PSs X.nox st t):PSs X st t:=fun pins s σ H D I hw =>
 wpAny_mono (h pins s σ H D (I.wish _) hw) (fun _ _ q=>q.unwish) fun _ _ z=>False.elim z
end
section
variable {X:Cx}{st:Stmt}{rest:List Stmt}{t u:TS}{e:Expr}{te:TE}{pos:Pos}
def V3:TS:=fun D σ H=>D.nx σ H
def z6(t u:TS):TS:=fun D σ H=>t {D with nx:=u D} σ H
theorem We:PSs X [] V3:=fun _ _ σ H _ I h=>wpAny_execs_nil ⟨σ,H,I,h⟩
theorem Yh(h1:PS X st t)(h2:PSs X rest u):PSs X (st::rest) (z6 t u):=by
 intro pins s σ H D I h;refine wpAny_execs_cons (aP (h1 pins s σ H {D with nx:=u D} I h) fun f s1 q=>?_)
 cases f with
 | next =>
  obtain⟨σ',H',I',q⟩:=q;exact h2 pins s1 σ' H' D I' q
 | ret v=>exact q
 | brk=>exact q
 | cont=>exact q
theorem Inv.quiet{pins:List (Addr×Obj)}{σ:St}{H:Hp}{s:Shared}(I:Inv X pins σ H s):interactive X.env=false:=by simp[interactive,I.ok.kind]
def u7(te:TE):TS:=fun D σ H=>te σ H fun _ H1=>D.nx σ H1
theorem t6(he:PE X e te)(hs:swapsWith e none pos.line X.env=pure false:=by rfl):PS X (.Expr e pos) (u7 te):=by
 intro pins s σ H D I h;exact wpAny_Expr_any (aP (he pins s σ H _ I h) fun v s1 ⟨x,H1,I1,r1,q1⟩=>⟨σ,H1,I1,q1⟩) I.quiet hs
def GG(te:TE):TS:=fun D σ H=>te σ H D.rt
theorem Z5(he:PE X e te):PS X (.Return (some e) pos) (GG te):=by
 intro pins s σ H D I h;exact wpAny_Return_some (aP (he pins s σ H _ I h) fun v s1 ⟨x,H1,I1,r1,q1⟩=>⟨x,σ,H1,I1,r1,q1⟩)
def Y1(c:TT)(t u:TS):TS:=fun D σ H=>c σ H fun b H1=>if b=true then t D σ H1 else u D σ H1
theorem Q8{c:Expr}{a b:List Stmt}{tc:TT}(hc:PT X c tc)(ha:PSs X a t)(hb:PSs X b u):PS X (.If c a b pos) (Y1 tc t u):=by
 intro pins s σ H D I h;refine wpAny_If (aP (hc pins s σ H _ I h) fun d s1 ⟨H1,I1,q1⟩=>?_)
 cases d with
 | true=>exact ha pins s1 σ H1 D I1 q1
 | false=>exact hb pins s1 σ H1 D I1 q1
end
abbrev TG:=V->St->Hp->(St->Hp->Prop)->Prop
abbrev iF:=List V->St->Hp->(St->Hp->Prop)->Prop
def PG(X:Cx)(target:Expr)(t:TG):Prop :=
 ∀ (pins:List (Addr×Obj)) (s:Shared) (σ:St) (H:Hp) (v:V) (u:Value) (Q:St->Hp->Prop),Inv X pins σ H s->RelV v u->t v σ H Q ->
  wpAny (model X.prog X.w) X.A (assign target X.env u) (fun _ s'=>∃ σ' H',Inv X pins σ' H' s'/\Q σ' H') X.xe s
def PGs(X:Cx)(ts:List Expr)(t:iF):Prop :=
 ∀ (pins:List (Addr×Obj)) (s:Shared) (σ:St) (H:Hp) (vs:List V) (us:List Value) (Q:St->Hp->Prop),Inv X pins σ H s->Vals vs us->t vs σ H Q ->
  wpAny (model X.prog X.w) X.A (assignInOrder ((assignEach ts X.env).map (·.2)) us) (fun _ s'=>∃ σ' H',Inv X pins σ' H' s'/\Q σ' H') X.xe s
abbrev TSet:=V->V->V->Hp->(Hp->Prop)->Prop
def Bp(X:Cx)(t:TSet):Prop :=
 ∀ (pins:List (Addr×Obj)) (s:Shared) (σ:St) (H:Hp) (o i v:V) (ov iv u:Value) (Q:Hp->Prop),Inv X pins σ H s->RelV o ov->RelV i iv->RelV v u->t o i v H Q ->
  wpAny (model X.prog X.w) X.A (setItem ov iv u) (fun _ s'=>∃ H',Inv X pins σ H' s'/\Q H') X.xe s
section
variable {X:Cx}{pos:Pos}
def Lk(i:Nat):TG:=fun v σ H Q=>Q (σ.set i (some v)) H
theorem CW{i:Nat}{x:Str}(hN:X.N.Nodup)(hi:X.N[i]?=some x)(hx:hG X.env.scope x)(hf:X.fn x=true\/X.env.scope.names.lookup x=some .local:=by first | exact .inl rfl | exact .inr rfl | assumption):PG X (.Name x pos) (Lk i):=by
 intro pins s σ H v u Q I r h;exact wpAny_assign_Name (rO I hN hi hx r (fun s' I'=>⟨_,H,I',h⟩) hf)
def E3:iF:=fun vs σ H Q=>vs=[]/\Q σ H
def b6(t:TG)(u:iF):iF:=fun vs σ H Q=>∃ v r,vs=v::r/\t v σ H fun σ' H'=>u r σ' H' Q
theorem HU:PGs X [] E3:=by
 intro pins s σ H vs us Q I r h;obtain⟨e,h⟩:=h;subst e
 cases r
 exact assignInOrder_nil ⟨σ,H,I,h⟩
theorem FZ{e:Expr}{es:List Expr}{t:TG}{u:iF}(h1:PG X e t)(h2:PGs X es u)
  (hs:(assignEach (e::es) X.env).map (·.2)=assign e X.env::(assignEach es X.env).map (·.2):=by rfl):PGs X (e::es) (b6 t u):=by
 intro pins s σ H vs us Q I r h;obtain⟨v,vr,e1,h⟩:=h;subst e1
 cases r with
 | cons r rr =>
  rw[hs];refine assignInOrder_cons (aP (h1 pins s σ H _ _ _ I r h) fun _ s1 ⟨σ1,H1,I1,q1⟩=>?_);exact h2 pins s1 σ1 H1 _ _ Q I1 rr q1
def Wf(K:ac)(n:Nat)(t:iF):TG:=fun v σ H Q=>∃ a xs,v=.ref a/\SqT K H a xs/\xs.length=n/\t xs σ H Q
theorem C2{es:List Expr}{k:Nat}{t:iF}{n:Nat}(hc:X.calm=true)(h:PGs X es t)
  (hn:(assignEach es X.env).length=n:=by rfl) (hst:(assignEach es X.env).findIdx? (·.1)=none:=by rfl):PG X (.Tuple es k pos) (Wf X.K n t):=by
 intro pins s σ H v u Q I r hw;obtain⟨a,xs,e1,hq,hl,hw⟩:=hw;subst e1
 cases r
 obtain⟨its,rv,ht,hz⟩:=I.tuple hq;refine assign_Tuple_tuple (I.ok.hd hc) ht (by simp[hn,<- hl,rv.length]) hst fun h' hx=>?_
 have I1:Inv X pins σ H {s with heap:=h'}:=I.kept (t':=s.toks) fun b o e=>hx b o (am (af e)) e
 exact h pins _ σ H xs _ Q I1 (by simpa using rv) hw
def CJ(to ti:TE)(t:TSet):TG:=fun v σ H Q=>to σ H fun o H1=>ti σ H1 fun i H2=>t o i v H2 fun H3=>Q σ H3
theorem Z6{o i:Expr}{to ti:TE}{t:TSet}(ho:PE X o to)(hi:PE X i ti)(hs:Bp X t)
  (ha:∀ v,assign (.Subscript o i pos) X.env v=(do
   let ov <- holding [v] (eval o X.env)
   let iv <- holding [v,ov] (eval i X.env)
   standAt pos
   holding [v,ov,iv] (setItem ov iv v)
   release [v,ov,iv] []):=by intro _;rfl):PG X (.Subscript o i pos) (CJ to ti t):=by
 intro pins s σ H v u Q I r h;rw[ha];refine ad (wpAny_holding (aP (ho pins s σ H _ I h) fun ov s1 ⟨x,H1,I1,r1,q1⟩=>?_));refine ad (wpAny_holding (aP (hi pins s1 σ H1 _ I1 q1) fun iv s2 ⟨y,H2,I2,r2,q2⟩=>?_));refine ad (wpAny_standAt (ad (wpAny_holding (aP (hs pins s2 σ H2 x y v ov iv u _ I2 r1 r2 r q2) fun _ s3 ⟨H3,I3,q3⟩=>?_))));exact wpAny_release ⟨σ,H3,I3,q3⟩
def Oo(te:TE)(g:TG):TS:=fun D σ H=>te σ H fun x H1=>g x σ H1 D.nx
theorem Ku{tg e:Expr}{te:TE}{g:TG}(he:PE X e te)(hg:PG X tg g)(hs:swapsWithSole [tg] e pos.line X.env=pure false:=by rfl)(hw:swappedStores [tg] e X.env=pure none:=by rfl)
  (h1:(assignEach [tg] X.env).map (·.2)=[assign tg X.env]:=by rfl):PS X (.Assign [tg] e pos) (Oo te g):=by
 intro pins s σ H D I h;refine wpAny_Assign_stores (aP (he pins s σ H _ I h) fun v s1 ⟨x,H1,I1,r1,q1⟩=>?_) hs hw;rw[h1];exact aP (hg pins s1 σ H1 x v _ I1 r1 q1) fun _ s2 q=>q
theorem B3{i:Nat}{x:Str}{e:Expr}{te:TE}{pos':Pos}(hN:X.N.Nodup)(hi:X.N[i]?=some x)(hx:hG X.env.scope x)(he:PE X e te)(hs:swapsWith e (some (.Name x pos')) pos.line X.env=pure false:=by rfl)(hf:X.fn x=true\/X.env.scope.names.lookup x=some .local:=by first | exact .inl rfl | exact .inr rfl | assumption) :
  PS X (.Assign [.Name x pos'] e pos) (Oo te (Lk i)):=by
 intro pins s σ H D I h;refine wpAny_Assign_Name (aP (he pins s σ H _ I h) fun v s1 ⟨y,H1,I1,r1,q1⟩=>?_) hs;exact rO I1 hN hi hx r1 (fun s2 I2=>⟨_,H1,I2,q1⟩) hf
def A8(i j:Nat)(ta:TA):TS:=fun D σ H=>ta σ H fun vs H1=>∃ v w,vs=[v,w]/\D.nx ((σ.set i (some v)).set j (some w)) H1
theorem CM{i j:Nat}{x y:Str}{a b:Expr}{ta:TA}{px py pt:Pos}{kt k2 pt2}(hc:X.calm=true)(hN:X.N.Nodup)(hi:X.N[i]?=some x)(hj:X.N[j]?=some y)(hij:i≠j)
  (hx:X.env.scope.names.lookup x=some .local) (hy:X.env.scope.names.lookup y=some .local) (ha:PA X [a,b] ta)
  (hw:swappedStores [.Tuple [.Name x px,.Name y py] kt pt] (.Tuple [a,b] k2 pt2) X.env=pure (some [x,y]))
  (hs:swapsWithSole [.Tuple [.Name x px,.Name y py] kt pt] (.Tuple [a,b] k2 pt2) pos.line X.env=pure false:=by rfl) :
  PS X (.Assign [.Tuple [.Name x px,.Name y py] kt pt] (.Tuple [a,b] k2 pt2) pos) (A8 i j ta):=by
 intro pins s σ H D I h;rw[exec_Assign_arm];refine ad (wpAny_standAt ?_);rw[hs];refine ad (ae ?_);rw[if_neg (by decide)]
 refine ad (Tuple_ (aP (ha _ pins s σ H _ I h) fun us s1 ⟨vs,H1,I1,r1,q1⟩=>?_));obtain⟨v,w,e1,q1⟩:=q1;subst e1;obtain⟨u1,u2,rfl,rv,rw'⟩:∃ u1 u2,us=[u1,u2]/\RelV v u1/\RelV w u2:=by
  cases r1 with
  | cons p q =>
   cases q with
   | cons p' q' =>
    cases q'
    exact⟨_,_,rfl,p,p'⟩
 refine wpAny_newObj_type ?_ (by show 2<=sizeLine;decide)
 have I2:Inv X pins σ H1 {s1 with heap:=s1.heap.push {cls:=.type "tuple",data:=.seq [u1,u2].toArray}}:=I1.kept (t':=s1.toks) fun b o e=>ag _ e
 rw[hw];refine ad (ae ?_);show wpAny (model X.prog X.w) X.A (do rule "assign.swapped-stores";let items <- unpackItems (.ref s1.heap.objs.size) 2 none;assignInOrder [fun v=>bindName X.env y v,fun v=>bindName X.env x v] items.reverse;pure Flow.next) _ _ _
 refine ad (wpAny_rule (ad (unpackItems_tuple (items:=#[u1,u2]) (I.ok.hd hc) (IsTup.new s1.heap _) fun h' hx'=>?_)));have I3:=I2.kept (h':=h') (t':=s1.toks) fun b o e=>hx' b o (am (af e)) e
 show wpAny _ _ (assignInOrder [fun v=>bindName X.env y v,fun v=>bindName X.env x v] [u2,u1]>>=fun _=>pure Flow.next) _ _ _
 refine ad (assignInOrder_cons (wpAny_bindName (rO I3 hN hj (.inl hy) rw' (fun s2 I4=>?_) (.inr hy))));refine assignInOrder_cons (wpAny_bindName (rO I4 hN hi (.inl hx) rv (fun s3 I5=>assignInOrder_nil (ae ?_)) (.inr hx)));rw[List.set_comm _ _ (Ne.symm hij)]at I5;exact⟨_,H1,I5,q1⟩
end
section
variable {X:Cx}{pos:Pos}
def Wy(c:TT)(tb:TS):TS:=fun D σ H=>∃ W:Nat->St->Hp->Prop,(∃ m,W m σ H)/\∀ m σ H,W m σ H ->
 c σ H fun b H1=>if b=true then ∃ N:St->Hp->Prop,(∀ σ' H',N σ' H'->∃ m',m'<m/\W m' σ' H')/\tb {D with nx:=N,ct:=N,bk:=D.nx} σ H1 else D.nx σ H1
theorem Zk{c:Expr}{body:List Stmt}{tc:TT}{tb:TS}(hp:PassesOwn (model X.prog X.w) X.A X.env X.xe)(hc:PT X c tc)(hb:PSs X body tb):PS X (.While c body [] pos) (Wy tc tb):=by
 intro pins s σ H D I h;obtain⟨W,⟨m0,w0⟩,turn⟩:=h;refine wpAny_While (codeAny_whileLoop (fun n s'=>∃ σ' H',Inv X pins σ' H' s'/\W n σ' H') ?_ m0 ⟨σ,H,I,w0⟩);rintro n s1 ⟨σ1,H1,I1,w1⟩;refine wpAny_passesOwn hp (aP (hc pins s1 σ1 H1 _ I1 (turn n σ1 H1 w1)) fun b s2 ⟨H2,I2,q2⟩=>?_)
 cases b with
 | true =>
  obtain⟨N,hN,q2⟩:=q2;rw[if_pos rfl];refine wpAny_passesOwn hp (aP (hb pins s2 σ1 H2 _ I2 q2) fun f s3 q3=>?_)
  cases f with
  | next =>
   obtain⟨σ3,H3,I3,n3⟩:=q3;obtain⟨m',hm,w3⟩:=hN σ3 H3 n3;exact⟨m',hm,σ3,H3,I3,w3⟩
  | cont =>
   obtain⟨σ3,H3,I3,n3⟩:=q3;obtain⟨m',hm,w3⟩:=hN σ3 H3 n3;exact⟨m',hm,σ3,H3,I3,w3⟩
  | brk=>exact q3
  | ret v=>exact q3
 | false =>
  rw[if_neg ak];exact wpAny_execs_nil ⟨σ1,H2,I2,q2⟩
end
structure It where
 go:Nat->Hp->Prop
 yld:Nat->Hp->V->Hp->Prop
 stop:Nat->Hp->Prop
def eQ(X:Cx)(pins:List (Addr×Obj))(H:Hp)(b:Addr):Prop :=
 H b=none/\b≠X.env.locals/\b∉X.fs/\(b∈X.ex\/X.s₀.heap.objs.size<=b)/\(∀ x c,X.env.cells.lookup x=some c->c≠b)/\∀ p∈X.pn++pins,p.1≠b
theorem Inv.fpOk{X:Cx}{pins:List (Addr×Obj)}{σ:St}{H H':Hp}{s:Shared}{b:Addr}(I:Inv X pins σ H s)(hb:s.heap.objs.size<=b)(hn:H' b=none):eQ X pins H' b:=by
 refine⟨hn,Nat.ne_of_gt (ai I.lt hb),I.nofs hb,.inr (Nat.le_trans I.sz hb),fun x c e z=>?_,fun p hp z=>?_⟩
 ·obtain⟨v,q⟩:=I.cell x c e;exact absurd (ai q.lt (by rw[z];exact hb)) (Nat.lt_irrefl _)
 ·exact absurd (ai (af (I.pin p hp).1) (by rw[z];exact hb)) (Nat.lt_irrefl _)
structure Turn (P:Program) (w:World) (K:ac) (tg:Expr) (J:It) (fp:List Addr) (it:Addr) (tn:Nat->Heap->Prop):Prop where
 mem:it∈fp
 obj:∀ i h,tn i h->∀ b∈fp,∃ o,h.get? b=some o/\∀ v,o.data≠.cell v
 keep:∀ i h h',tn i h->(∀ b∈fp,∀ o,h.get? b=some o->h'.get? b=some o)->tn i h'
 item:∀ (X:Cx),X.prog=P->X.w=w->X.K=K->X.calm=true->∀ (i:Nat) (pins:List (Addr×Obj)) (s:Shared) (σ:St) (H:Hp) (E:Value->Shared->Prop),Inv X pins σ H s->(∀ b∈fp,eQ X pins H b)->tn i s.heap->J.go i H ->
  wpAny (model P w) X.A (pyNext (.ref it)) (fun r s1=>∃ u,r=some u /\
   wpAny (model P w) X.A (letOwnedTupleGo tg (.ref it) u) (fun _ s2=>∃ x H',Inv X pins σ H' s2/\RelV x u/\J.yld i H x H'/\tn (i+1) s2.heap/\∀ b∈fp,H' b=none) E s1) E s
 done:∀ (X:Cx),X.prog=P->X.w=w->X.K=K->X.calm=true->∀ (i:Nat) (pins:List (Addr×Obj)) (s:Shared) (σ:St) (H:Hp) (E:Value->Shared->Prop),Inv X pins σ H s->(∀ b∈fp,eQ X pins H b)->tn i s.heap->J.stop i H ->
  wpAny (model P w) X.A (pyNext (.ref it)) (fun r s1=>r=none/\Inv X pins σ H s1) E s
 self:∀ (A:Around) (i:Nat) (s:Shared) (Q:Value->Shared->Prop) (E:Value->Shared->Prop),tn i s.heap->Q (.ref it) s->wpAny (model P w) A (pyIter (.ref it)) Q E s
abbrev TI:=St->Hp->(It->Hp->Prop)->Prop
def xF(X:Cx)(pins:List (Addr×Obj))(σ:St)(tg:Expr)(R:It->Hp->Prop)(itv:Value)(s2:Shared):Prop :=
 ∃ (it:Addr) (fp:List Addr) (tn:Nat->Heap->Prop) (J:It) (H':Hp),itv=.ref it/\Inv X pins σ H' s2/\Turn X.prog X.w X.K tg J fp it tn/\tn 0 s2.heap/\(∀ b∈fp,eQ X pins H' b)/\R J H'
def PI(X:Cx)(tg iter:Expr)(wi:TI):Prop :=
 ∀ (pins:List (Addr×Obj)) (s:Shared) (σ:St) (H:Hp) (R:It->Hp->Prop),Inv X pins σ H s->wi σ H R ->
  wpAny (model X.prog X.w) X.A (eval iter X.env) (fun v s1=>wpAny (model X.prog X.w) X.A (pyIter v) (xF X pins σ tg R) X.xe s1) X.xe s
theorem rM{M:Model}{A:Around}{E:Value->Shared->Prop}{s:Shared}{tg:Expr}{it:Addr}{u:Value}{o:Obj}{n:String}{vs:Array Value}{Q:Unit->Shared->Prop}(ho:s.heap.get? it=some o)(hc:o.cls=.type n)(hd:o.data=.fields vs)
  (hn:["enumerate","zip","dict_itemiterator","dict_reverseitemiterator","odict_iterator","itertools.zip_longest","itertools.pairwise"].contains n=false) (hQ:Q () s):wpAny M A (letOwnedTupleGo tg (.ref it) u) Q E s:=by
 unfold letOwnedTupleGo
 cases tg<;>first
  | exact ae hQ
  | (cases u<;>first
    | exact ae hQ
    | (refine ad (wpAny_load ho ?_)
       rw[hc,hd];show wpAny M A (if (["enumerate","zip","dict_itemiterator","dict_reverseitemiterator","odict_iterator","itertools.zip_longest","itertools.pairwise"].contains n&&vs[0]? == some (rawInt _))=true then _ else _) Q E s
       rw[if_neg (by intro h;rw[hn,Bool.false_and]at h;cases h)]
       exact ae hQ))
def qG(K:ac)(a:Addr):It :=
 ⟨fun i H=>∃ xs x,SqL K H a xs/\xs[i]?=some x,fun i H x H'=>H'=H/\∀ xs,SqL K H a xs->xs[i]?=some x,fun i H=>∃ xs,SqL K H a xs/\xs.length<=i⟩
def wC(K:ac)(a:Addr):It :=
 ⟨fun i H=>∃ xs x,SqT K H a xs/\xs[i]?=some x,fun i H x H'=>H'=H/\∀ xs,SqT K H a xs->xs[i]?=some x,fun i H=>∃ xs,SqT K H a xs/\xs.length<=i⟩
def qV(lo:Int)(n:Nat):It:=⟨fun i _=>i<n,fun i H x H'=>H'=H/\x=.int (lo+i),fun i _=>n<=i⟩
theorem S8{P:Program}{w:World}{K:ac}{tg:Expr}(a it:Addr):Turn P w K tg (qG K a) [it] it (fun i h=>h.IsListIter it a i) where
 mem:=by simp
 obj:=fun i h st b hb=>by
  have e:b=it:=by simpa using hb
  subst e;obtain⟨o,e,c,d⟩:=st;exact⟨o,e,fun v z=>by rw[d]at z;cases z⟩
 keep:=fun i h h' st k=>st.at fun o e=>k it (by simp) o e
 item:=by
  intro X hP hw hK hc i pins s σ H E I hf st hg;subst hP hw hK;obtain⟨xs,x,hq,hx⟩:=hg;obtain⟨its,rv,p,hz⟩:=I.list hq;obtain⟨u,hu,ru⟩:=rv.get hx;obtain⟨f0,f1,f2,f3,f4,f5⟩:=hf it (by simp)
  refine wpAny_pyNext_list_item st p.isList (x:=u) (by simpa using hu) fun h' st' sb=>?_
  have I1:Inv X pins σ H {s with heap:=h'}:=I.turned (t':=s.toks) (fun b o hb e=>(sb.2 b hb).trans e) f0 f1 f3 f4 f5
  obtain⟨o,e,c,d⟩:=id st';exact⟨u,rfl,rM (s:={s with heap:=h'}) e c d (by decide) ⟨x,H,I1,ru,⟨rfl,fun ys hy=>by rw[I.list_inj hy hq];exact hx⟩,st',fun b hb=>(hf b hb).1⟩⟩
 done:=by
  intro X hP hw hK hc i pins s σ H E I hf st hg;subst hP hw hK;obtain⟨xs,hq,hx⟩:=hg;obtain⟨its,rv,p,hz⟩:=I.list hq;obtain⟨f0,f1,f2,f3,f4,f5⟩:=hf it (by simp)
  have hl:=rv.length
  exact wpAny_pyNext_list_end (I.ok.hd hc) st p.isList (by simp;omega) fun h' eb=>⟨rfl,I.turned (t':=s.toks) (fun b o hb e=>eb b o hb e) f0 f1 f3 f4 f5⟩
 self:=fun _ _ _ _ _ st h=>wpAny_pyIter_listiter st h
theorem Yi{P:Program}{w:World}{K:ac}{tg:Expr}(a it:Addr):Turn P w K tg (wC K a) [it] it (fun i h=>h.IsTupleIter it a i) where
 mem:=by simp
 obj:=fun i h st b hb=>by
  have e:b=it:=by simpa using hb
  subst e;obtain⟨o,e,c,d⟩:=st;exact⟨o,e,fun v z=>by rw[d]at z;cases z⟩
 keep:=fun i h h' st k=>st.at fun o e=>k it (by simp) o e
 item:=by
  intro X hP hw hK hc i pins s σ H E I hf st hg;subst hP hw hK;obtain⟨xs,x,hq,hx⟩:=hg;obtain⟨its,rv,p,hz⟩:=I.tuple hq;obtain⟨u,hu,ru⟩:=rv.get hx;obtain⟨f0,f1,f2,f3,f4,f5⟩:=hf it (by simp)
  refine wpAny_pyNext_tuple_item st (show s.heap.IsTuple a its.toArray from p) (x:=u) (by simpa using hu) fun h' st' sb=>?_
  have I1:Inv X pins σ H {s with heap:=h'}:=I.turned (t':=s.toks) (fun b o hb e=>(sb.2 b hb).trans e) f0 f1 f3 f4 f5
  obtain⟨o,e,c,d⟩:=id st';exact⟨u,rfl,rM (s:={s with heap:=h'}) e c d (by decide) ⟨x,H,I1,ru,⟨rfl,fun ys hy=>by rw[I.tuple_inj hy hq];exact hx⟩,st',fun b hb=>(hf b hb).1⟩⟩
 done:=by
  intro X hP hw hK hc i pins s σ H E I hf st hg;subst hP hw hK;obtain⟨xs,hq,hx⟩:=hg;obtain⟨its,rv,p,hz⟩:=I.tuple hq;obtain⟨f0,f1,f2,f3,f4,f5⟩:=hf it (by simp)
  have hl:=rv.length
  exact wpAny_pyNext_tuple_end (I.ok.hd hc) st (show s.heap.IsTuple a its.toArray from p) (by simp;omega) fun h' eb=>⟨rfl,I.turned (t':=s.toks) (fun b o hb e=>eb b o hb e) f0 f1 f3 f4 f5⟩
 self:=fun _ _ _ _ _ st h=>wpAny_pyIter_tupleiter st h
theorem Vo{P:Program}{w:World}{K:ac}{tg:Expr}(it:Addr)(lo:Int)(n:Nat):Turn P w K tg (qV lo n) [it] it (fun i h=>IsRangeIter h it (lo+(i:Nat)*1) ((n:Int)-(i:Nat)) 1) where
 mem:=by simp
 obj:=fun i h st b hb=>by
  have e:b=it:=by simpa using hb
  subst e;exact⟨_,st,fun v z=>by
   have z':Data.fields _=Data.cell v:=z
   cases z'⟩
 keep:=fun i h h' st k=>k it (by simp) _ st
 item:=by
  intro X hP hw hK hc i pins s σ H E I hf st hg;subst hP hw hK;obtain⟨f0,f1,f2,f3,f4,f5⟩:=hf it (by simp)
  have W:=Walks.range (prog:=X.prog) (w:=X.w) (I.ok.hd hc) it lo 1 n
  refine W.item i s _ _ hg st fun v h' tk hv st' kk=>?_;obtain⟨t,rfl⟩:=hv;have I1:Inv X pins σ H {s with heap:=h',toks:=tk}:=I.turned (fun b o hb e=>kk b o (by simpa using hb) e) f0 f1 f3 f4 f5
  refine⟨_,rfl,rM (s:={s with heap:=h',toks:=tk}) (n:="range_iterator") st' rfl rfl (by decide) ⟨.int (lo+i),H,I1,⟨t,?_⟩,⟨rfl,rfl⟩,st',fun b hb=>(hf b hb).1⟩⟩
  rw[Int.mul_one]
 done:=by
  intro X hP hw hK hc i pins s σ H E I hf st hg;subst hP hw hK;obtain⟨f0,f1,f2,f3,f4,f5⟩:=hf it (by simp)
  exact wpAny_pyNext_range_end (I.ok.hd hc) st (by have:n<=i:=hg;omega) fun h' eb=>⟨rfl,I.turned (t':=s.toks) (fun b o hb e=>eb b o hb e) f0 f1 f3 f4 f5⟩
 self:=fun _ _ _ _ _ st h=>wpAny_pyIter_rangeiter st h
end L2
namespace L2
open PySem PySem.Spec PyProof.Rows
section
variable {X:Cx}{tg:Expr}
theorem Hf{pins:List (Addr×Obj)}{σ:St}{H:Hp}{s:Shared}{R:It->Hp->Prop}{E:Value->Shared->Prop}{lo hi:Int}{t u v:Tok}{tk:Nat}(I:Inv X pins σ H s)(h1:-(2^62)<=lo)(h2:lo<2^62)(h3:-(2^62)<=hi)(h4:hi<2^62)
  (q:R (qV lo (hi-lo).toNat) H):wpAny (model X.prog X.w) X.A (pyIter (.ref s.heap.objs.size)) (xF X pins σ tg R) E {s with heap:=s.heap.push {cls:=.type "range",data:=.fields #[.int lo t,.int hi u,.int 1 v]},toks:=tk}:=by
 refine wpAny_pyIter_range (IsRange.new ..) (small_one h1 h2 h3 h4) ?_;have I1:Inv X pins σ H {s with heap:=s.heap.push {cls:=.type "range",data:=.fields #[.int lo t,.int hi u,.int 1 v]},toks:=tk}:=I.kept fun b o e=>ag _ e
 refine⟨(s.heap.push {cls:=.type "range",data:=.fields #[.int lo t,.int hi u,.int 1 v]}).objs.size,[(s.heap.push {cls:=.type "range",data:=.fields #[.int lo t,.int hi u,.int 1 v]}).objs.size],_,_,H,rfl,
  I1.kept (t':=tk) fun b o e=>ag _ e,Vo _ lo (hi-lo).toNat,?_,fun b hb=>?_,q⟩
 ·have e1:lo+((0:Nat):Int)*1=lo:=by simp
  have e2:(((hi-lo).toNat:Nat):Int)-((0:Nat):Int)=Builtin.Range.rangeSize lo hi 1:=by rw[rangeSize_one];split<;>omega
  show IsRangeIter _ _ (lo+((0:Nat):Int)*1) ((((hi-lo).toNat:Nat):Int)-((0:Nat):Int)) 1
  rw[e1,e2];exact ah _ rfl
 ·have e:b=(s.heap.push {cls:=.type "range",data:=.fields #[.int lo t,.int hi u,.int 1 v]}).objs.size:=by simpa using hb
  subst e;exact I1.fpOk (aj _) (I1.hok.fresh (aj _))
def Wv(ta:TA):TI:=fun σ H R=>ta σ H fun vs H1=>∃ j:Int,vs=[.int j]/\-(2^62)<=j/\j<2^62/\R (qV 0 j.toNat) H1
def CC(ta:TA):TI:=fun σ H R=>ta σ H fun vs H1=>∃ i j:Int,vs=[.int i,.int j]/\(-(2^62)<=i/\i<2^62/\-(2^62)<=j/\j<2^62)/\R (qV i (j-i).toNat) H1
theorem W2{a:Expr}{ta:TA}{p pos:Pos}(hg:Gl X "range")(hm:X.mg "range"=none)(ha:PA X [a] ta)(hs:starEach [a] X.env=[(false,eval a X.env)]:=by rfl):PI X tg (.Call (.Name "range" p) [a] [] pos) (Wv ta):=by
 intro pins s σ H R I h;refine Call_ (jB I hg hm boot_range (PyProof.Rows.callWith_type1 (aP (ha pos pins s σ H _ I h) fun us s1 ⟨vs,H1,I1,r1,q1⟩=>?_) hs rfl));obtain⟨j,e,q1,q2,q⟩:=q1;subst e
 cases r1 with
 | cons r rr =>
  cases rr
  obtain⟨t,rfl⟩:=r;exact call_range_1 (Hf I1 (by omega) (by omega) q1 q2 (by simpa using q))
theorem u4{a b:Expr}{ta:TA}{p pos:Pos}(hg:Gl X "range")(hm:X.mg "range"=none)(ha:PA X [a,b] ta)(hs:starEach [a,b] X.env=[(false,eval a X.env),(false,eval b X.env)]:=by rfl)(hs2:starEach [b] X.env=[(false,eval b X.env)]:=by rfl) :
  PI X tg (.Call (.Name "range" p) [a,b] [] pos) (CC ta):=by
 intro pins s σ H R I h;refine Call_ (jB I hg hm boot_range (PyProof.Rows.callWith_type1 (aP (ha pos pins s σ H _ I h) fun us s1 ⟨vs,H1,I1,r1,q1⟩=>?_) (by rw[hs,hs2]) (by rw[hs2];rfl)))
 obtain⟨i,j,e,⟨q1,q2,q3,q4⟩,q⟩:=q1;subst e
 cases r1 with
 | cons r rr =>
  cases rr with
  | cons r' rr =>
   cases rr
   obtain⟨t,rfl⟩:=r;obtain⟨t',rfl⟩:=r';exact call_range_2 (Hf I1 q1 q2 q3 q4 q)
def W1(wi:TI)(g:TG)(tb:TS):TS:=fun D σ H=>wi σ H fun J H1=>∃ W:Nat->Nat->St->Hp->Prop,(∃ m,W 0 m σ H1)/\∀ i m σ H,W i m σ H ->
 (J.stop i H/\D.nx σ H)\/(J.go i H/\∃ N:St->Hp->Prop,(∀ σ' H',N σ' H'->∃ m',m'<m/\W (i+1) m' σ' H')/\∀ x H',J.yld i H x H'->g x σ H' fun σ2 H2=>tb {D with nx:=N,ct:=N,bk:=D.nx} σ2 H2)
def kB(fp:List Addr)(h:Heap):List (Addr×Obj):=fp.filterMap fun b=>(h.get? b).map fun o=>(b,o)
theorem jZ{fp:List Addr}{h:Heap}{b:Addr}{o:Obj}(hb:b∈fp)(e:h.get? b=some o):(b,o)∈kB fp h:=List.mem_filterMap.mpr ⟨b,hb,by rw[e];rfl⟩
theorem Vu{fp:List Addr}{h:Heap}{p:Addr×Obj}(hp:p∈kB fp h):p.1∈fp/\h.get? p.1=some p.2:=by
 obtain⟨b,hb,e⟩:=List.mem_filterMap.mp hp
 cases q:h.get? b with
 | none=>rw[q]at e;cases e
 | some o =>
  rw[q]at e;have e':(b,o)=p:=Option.some.inj e
  subst e';exact⟨hb,q⟩
theorem Inv.pinned{pins:List (Addr×Obj)}{σ:St}{H:Hp}{s:Shared}{fp:List Addr}(I:Inv X pins σ H s)(hf:∀ b∈fp,eQ X pins H b)(ho:∀ b∈fp,∃ o,s.heap.get? b=some o/\∀ v,o.data≠.cell v):Inv X (pins++kB fp s.heap) σ H s :=
 I.pins_of fun p hp=>(List.mem_append.mp hp).elim (fun z=>I.pin p (List.mem_append_right _ z)) fun z=>by
  obtain⟨hb,e⟩:=Vu z;obtain⟨f0,f1,f2,_⟩:=hf p.1 hb;obtain⟨o,e',d⟩:=ho p.1 hb;rw[e]at e';cases e';exact⟨e,f0,f1,f2,d⟩
theorem Inv.unpinned{pins pl:List (Addr×Obj)}{σ:St}{H:Hp}{s:Shared}(I:Inv X (pins++pl) σ H s):Inv X pins σ H s:=I.pins_of fun p hp=>I.pin p (List.mem_append_right _ (List.mem_append_left _ hp))
theorem Y0{iter:Expr}{body:List Stmt}{wi:TI}{g:TG}{tb:TS}{pos:Pos}(hp:PassesOwn (model X.prog X.w) X.A X.env X.xe)(hc:X.calm=true)(hi:PI X tg iter wi)(hg:PG X tg g)(hb:PSs X body tb)
  (hs:∀ x,foldedSetIterable iter X.env x=pure x:=by intro _;rfl):PS X (.For tg iter body [] pos) (W1 wi g tb):=by
 intro pins s σ H D I h;refine wpAny_For (aP (hi pins s σ H _ I h) fun v s1 h1=>aP h1 fun itv s2 h2=>?_) hs;obtain⟨it,fp,tn,J,H2,e,I2,T,st2,f2,W,⟨m0,w0⟩,turn⟩:=h2;subst e
 -- what stays true of the iterator's objects through the loop
 have stat:∀ {H':Hp},(∀ b∈fp,H' b=none)->∀ b∈fp,eQ X pins H' b:=fun hn b hb=>⟨hn b hb,(f2 b hb).2⟩
 refine codeAny_forLoop_any (fun n s'=>∃ i σ' H',Inv X pins σ' H' s'/\tn i s'.heap/\(∀ b∈fp,H' b=none)/\W i n σ' H') ?_ m0 ⟨0,σ,H2,I2,st2,fun b hb=>(f2 b hb).1,w0⟩;rintro n s3 ⟨i,σ3,H3,I3,st3,fr3,w3⟩;rcases turn i n σ3 H3 w3 with⟨stop,qn⟩ | ⟨go,N,hN,step⟩
 ·refine wpAny_passesOwn hp (aP (T.done X rfl rfl rfl hc i pins s3 σ3 H3 X.xe I3 (stat fr3) st3 stop) fun r s4 ⟨hr,I4⟩=>?_);subst hr;exact wpAny_execs_nil ⟨σ3,H3,I4,qn⟩
 ·refine wpAny_passesOwn hp (aP (T.item X rfl rfl rfl hc i pins s3 σ3 H3 X.xe I3 (stat fr3) st3 go) fun r s4 ⟨u,hr,h4⟩=>?_);subst hr;refine wpAny_passesOwn hp (aP h4 fun _ s5 ⟨x,H5,I5,r5,y5,st5,fr5⟩=>?_);have I5':=I5.pinned (stat fr5) (T.obj _ _ st5)
  refine wpAny_passesOwn hp (aP (hg _ s5 σ3 H5 x u _ I5' r5 (step x H5 y5)) fun _ s6 ⟨σ6,H6,I6,q6⟩=>?_);refine wpAny_passesOwn hp (aP (hb _ s6 σ6 H6 _ I6 q6) fun f s7 q7=>?_);have again:∀ {σ7:St} {H7:Hp},Inv X (pins++kB fp s5.heap) σ7 H7 s7->N σ7 H7->∃ m,m<n/\∃ i σ' H',Inv X pins σ' H' s7/\tn i s7.heap/\(∀ b∈fp,H' b=none)/\W i m σ' H':=fun {σ7 H7} I7 n7=>by
   obtain⟨m',hm,w7⟩:=hN σ7 H7 n7;refine⟨m',hm,i+1,σ7,H7,I7.unpinned,T.keep _ _ _ st5 fun b hb o e=>(I7.pin (b,o) (List.mem_append_right _ (List.mem_append_right _ (jZ hb e)))).1,fun b hb=>?_,w7⟩;obtain⟨o,e,d⟩:=T.obj _ _ st5 b hb;exact(I7.pin (b,o) (List.mem_append_right _ (List.mem_append_right _ (jZ hb e)))).2.1
  cases f with
  | next=>obtain⟨σ7,H7,I7,n7⟩:=q7;exact again I7 n7
  | cont=>obtain⟨σ7,H7,I7,n7⟩:=q7;exact again I7 n7
  | brk=>obtain⟨σ7,H7,I7,q7⟩:=q7;exact⟨σ7,H7,I7.unpinned,q7⟩
  | ret v=>obtain⟨x7,σ7,H7,I7,r7,q7⟩:=q7;exact⟨x7,σ7,H7,I7.unpinned,r7,q7⟩
end
end L2
namespace L2
open PySem PySem.Spec PyProof.Rows
abbrev R2:=V->V->Hp->VK->Prop
def OpR(X:Cx)(f:Value->Value->Sem Value)(r:R2):Prop :=
 ∀ (pins:List (Addr×Obj)) (s:Shared) (σ:St) (H:Hp) (x y:V) (v u:Value) (Q:VK),Inv X pins σ H s->RelV x v->RelV y u->r x y H Q ->
  wpAny (model X.prog X.w) X.A (f v u) (EP X pins σ Q) X.xe s
def Az(X:Cx)(f:Value->Sem Value)(r:V->Hp->VK->Prop):Prop :=
 ∀ (pins:List (Addr×Obj)) (s:Shared) (σ:St) (H:Hp) (x:V) (v:Value) (Q:VK),Inv X pins σ H s->RelV x v->r x H Q ->
  wpAny (model X.prog X.w) X.A (f v) (EP X pins σ Q) X.xe s
def CallR(X:Cx)(f:Value)(r:List V->Hp->VK->Prop):Prop :=
 ∀ (pins:List (Addr×Obj)) (s:Shared) (σ:St) (H:Hp) (xs:List V) (us:List Value) (Q:VK),Inv X pins σ H s->Vals xs us->r xs H Q ->
  wpAny (model X.prog X.w) X.A (call f us) (EP X pins σ Q) X.xe s
def D3(r:R2)(ta tb:TE):TE:=fun σ H Q=>ta σ H fun x H1=>tb σ H1 fun y H2=>r x y H2 Q
def S9(r:V->Hp->VK->Prop)(ta:TE):TE:=fun σ H Q=>ta σ H fun x H1=>r x H1 Q
def rI(C:Int->Int->Prop)(g:Int->Int->V):R2:=fun x y H Q=>∃ i j,x=.int i/\y=.int j/\C i j/\Q (g i j) H
def jE(g:Int->Int->V):R2:=fun x y H Q=>∃ i j,x=.int i/\y=.int j/\Q (g i j) H
def rU(g:Int->V):V->Hp->VK->Prop:=fun x H Q=>∃ i,x=.int i/\Q (g i) H
section
variable {X:Cx}{a b c:Expr}{ta tb tc:TE}{pos:Pos}
theorem Nt(ha:PE X a ta)(hb:PE X b tb){pins:List (Addr×Obj)}{s:Shared}{σ:St}{H:Hp}{R:V->V->Hp->Prop}(I:Inv X pins σ H s)
  (h:ta σ H fun x H1=>tb σ H1 fun y H2=>R x y H2) {Q:Value->Shared->Prop} {f:Value->Value->Sem Value}
  (hf:∀ v u s2 x y H2,Inv X pins σ H2 s2->RelV x v->RelV y u->R x y H2->wpAny (model X.prog X.w) X.A (f v u) Q X.xe s2) :
  wpAny (model X.prog X.w) X.A (eval a X.env) (fun v s₁=>wpAny (model X.prog X.w) X.A (eval b X.env) (fun u s₂=>wpAny (model X.prog X.w) X.A (f v u) Q X.xe s₂) X.xe s₁) X.xe s:=by
 refine aP (ha pins s σ H _ I h) fun v s1 ⟨x,H1,I1,r1,q1⟩=>?_;refine aP (hb pins s1 σ H1 _ I1 q1) fun u s2 ⟨y,H2,I2,r2,q2⟩=>?_;exact hf v u s2 x y H2 I2 r1 r2 q2
theorem M4{op:UnaryOp}{r:V->Hp->VK->Prop}(ho:Az X (unaryOp op) r)(ha:PE X a ta):PE X (.UnaryOp op a pos) (S9 r ta):=by
 intro pins s σ H Q I h;exact UnaryOp_ (aP (ha pins s σ H _ I h) fun v s1 ⟨x,H1,I1,r1,q1⟩=>ho pins s1 σ H1 x v Q I1 r1 q1)
theorem Sd{f:Value->Value->Sem Value}{C:Int->Int->Prop}{g:Int->Int->Int}
  (rule:∀ (i j:Int) (t u:Tok) (s:Shared) (Q:Value->Shared->Prop) (E:Value->Shared->Prop),C i j->Q (.int (g i j) s.toks) {s with toks:=s.toks+1}->wpAny (model X.prog X.w) X.A (f (.int i t) (.int j u)) Q E s) :
  OpR X f (rI C fun i j=>.int (g i j)):=by
 intro pins s σ H x y v u Q I rx ry h;obtain⟨i,j,rfl,rfl,hc,q⟩:=h;obtain⟨t,rfl⟩:=rx;obtain⟨t',rfl⟩:=ry;exact rule i j t t' s _ _ hc ⟨.int (g i j),H,I.tok _,⟨_,rfl⟩,q⟩
theorem Gm{f:Value->Value->Sem Value}{g:Int->Int->Int}
  (rule:∀ (i j:Int) (t u:Tok) (s:Shared) (Q:Value->Shared->Prop) (E:Value->Shared->Prop),Q (.int (g i j) s.toks) {s with toks:=s.toks+1}->wpAny (model X.prog X.w) X.A (f (.int i t) (.int j u)) Q E s) :
  OpR X f (jE fun i j=>.int (g i j)):=by
 intro pins s σ H x y v u Q I rx ry h;obtain⟨i,j,rfl,rfl,q⟩:=h;obtain⟨t,rfl⟩:=rx;obtain⟨t',rfl⟩:=ry;exact rule i j t t' s _ _ ⟨.int (g i j),H,I.tok _,⟨_,rfl⟩,q⟩
theorem oS{f:Value->Value->Sem Value}{g:Int->Int->Bool}
  (rule:∀ (i j:Int) (t u:Tok) (s:Shared) (Q:Value->Shared->Prop) (E:Value->Shared->Prop),Q (.bool (g i j)) s->wpAny (model X.prog X.w) X.A (f (.int i t) (.int j u)) Q E s) :
  OpR X f (jE fun i j=>.bl (g i j)):=by
 intro pins s σ H x y v u Q I rx ry h;obtain⟨i,j,rfl,rfl,q⟩:=h;obtain⟨t,rfl⟩:=rx;obtain⟨t',rfl⟩:=ry;exact rule i j t t' s _ _ ⟨.bl (g i j),H,I,rfl,q⟩
def AB(i j:Int):Prop:=0<=j/\j<=1000000/\i.natAbs<2^64
def CMul(i j:Int):Prop:=(-(2^64)<i/\i<2^64)\/(-(2^64)<j/\j<2^64)
theorem CMul.ok{i j:Int}(h:CMul i j):IntMulOk i j:=by
 rcases h with⟨h1,h2⟩ | ⟨h1,h2⟩
 ·exact .of_left (intBits_le_64 h1 h2)
 ·exact .of_right (intBits_le_64 h1 h2)
theorem AI:OpR X (binaryOp .Add) (jE fun i j=>.int (i+j)):=Gm fun _ _ _ _ _ _ _ q=>add_int q
theorem F9:OpR X (binaryOp .Sub) (jE fun i j=>.int (i-j)):=Gm fun _ _ _ _ _ _ _ q=>sub_int q
theorem Yl:OpR X (binaryOp .Mod) (rI (fun _ j=>j≠0) fun i j=>.int (i.fmod j)):=Sd fun _ _ _ _ _ _ _ hc q=>mod_int' hc q
theorem r8:OpR X (binaryOp .Pow) (rI AB fun i j=>.int (i^j.toNat)):=Sd fun _ _ _ _ _ _ _ hc q=>pow_int_small hc.1 hc.2.1 hc.2.2 q
theorem b8{f:Value->Sem Value}{g:Int->Int}
  (rule:∀ (i:Int) (t:Tok) (s:Shared) (Q:Value->Shared->Prop) (E:Value->Shared->Prop),Q (.int (g i) s.toks) {s with toks:=s.toks+1}->wpAny (model X.prog X.w) X.A (f (.int i t)) Q E s) :
  Az X f (rU fun i=>.int (g i)):=by
 intro pins s σ H x v Q I rx h;obtain⟨i,rfl,q⟩:=h;obtain⟨t,rfl⟩:=rx;exact rule i t s _ _ ⟨.int (g i),H,I.tok _,⟨_,rfl⟩,q⟩
theorem t8:Az X (unaryOp .USub) (rU fun i=>.int (-i)):=b8 fun _ _ _ _ _ q=>neg_int q
end
def Bt:V->V->Bool
 | .non,.non=>true | .non,.int _=>true | .int _,.non=>true | .non,.bl _=>true | .bl _,.non=>true | .non,.str _=>true | .str _,.non=>true
 | .int _,.int _=>true | .bl _,.bl _=>true | .str _,.str _=>true | .byt _,.byt _=>true
 | .int _,.str _=>true | .str _,.int _=>true | .bl _,.str _=>true | .str _,.bl _=>true
 | _,_=>false
def Y9:R2:=fun x y H Q=>Bt x y=true/\Q (.bl (decide (x=y))) H
def AT:R2:=fun x y H Q=>Bt x y=true/\Q (.bl (!decide (x=y))) H
theorem Be{i j:Int}:decide (V.int i=V.int j)=(i==j):=by
 rw[Bool.eq_iff_iff];simp
theorem Cc{i j:Bool}:decide (V.bl i=V.bl j)=(i==j):=by
 rw[Bool.eq_iff_iff];simp
theorem Em{i j:Str}:decide (V.str i=V.str j)=(i==j):=by
 rw[Bool.eq_iff_iff];simp
theorem Tk{i j:Array UInt8}:decide (V.byt i=V.byt j)=(i.toList==j.toList):=by
 rw[Bool.eq_iff_iff]
 cases i
 cases j
 simp
section
variable {X:Cx}{a b c:Expr}{ta tb tc:TE}{pos:Pos}
theorem cT{pins:List (Addr×Obj)}{σ:St}{H:Hp}{s:Shared}{Q:VK}{k k':Bool}(I:Inv X pins σ H s)(q:Q (.bl k) H)(e:k=k'):EP X pins σ Q (.bool k') s:=by
 subst e;exact⟨.bl k,H,I,rfl,q⟩
theorem P3:OpR X (compareOp .Eq) Y9:=by
 intro pins s σ H x y v u Q I rx ry h;obtain⟨hs,q⟩:=h
 cases x with
 | non =>
  cases rx
  cases y with
  | non=>cases ry;exact PySem.EqNone.eq_none_none (cT I q (by simp))
  | bl j=>cases ry;exact PySem.EqNone.eq_none_bool (cT I q (by simp))
  | int j=>obtain⟨t',rfl⟩:=ry;exact PySem.EqNone.eq_none_int (cT I q (by simp))
  | str j=>obtain⟨t',rfl⟩:=ry;exact PySem.EqNone.eq_none_str (cT I q (by simp))
  | _=>exact absurd (show false=true from hs) ak
 | bl i =>
  cases rx
  cases y with
  | non=>cases ry;exact PySem.EqNone.eq_bool_none (cT I q (by simp))
  | bl j=>cases ry;exact eq_bool (cT I q Cc)
  | str j=>obtain⟨t',rfl⟩:=ry;exact PySem.EqMixed.eq_bool_str (cT I q (by simp))
  | _=>exact absurd (show false=true from hs) ak
 | int i =>
  obtain⟨t,rfl⟩:=rx
  cases y with
  | non=>cases ry;exact PySem.EqNone.eq_int_none (cT I q (by simp))
  | int j=>obtain⟨t',rfl⟩:=ry;exact eq_int (cT I q Be)
  | str j=>obtain⟨t',rfl⟩:=ry;exact PySem.EqMixed.eq_int_str (cT I q (by simp))
  | _=>exact absurd (show false=true from hs) ak
 | str i =>
  obtain⟨t,rfl⟩:=rx
  cases y with
  | non=>cases ry;exact PySem.EqNone.eq_str_none (cT I q (by simp))
  | bl j=>cases ry;exact PySem.EqMixed.eq_str_bool (cT I q (by simp))
  | int j=>obtain⟨t',rfl⟩:=ry;exact PySem.EqMixed.eq_str_int (cT I q (by simp))
  | str j=>obtain⟨t',rfl⟩:=ry;exact eq_str (cT I q Em)
  | _=>exact absurd (show false=true from hs) ak
 | byt i =>
  obtain⟨t,rfl⟩:=rx
  cases y with
  | byt j=>obtain⟨t',rfl⟩:=ry;exact PySem.W.eq_bytes (cT I q Tk)
  | _=>exact absurd (show false=true from hs) ak
 | _=>cases y<;>exact absurd (show false=true from hs) ak
theorem Wn:OpR X (compareOp .NotEq) AT:=by
 intro pins s σ H x y v u Q I rx ry h;obtain⟨hs,q⟩:=h
 cases x with
 | non =>
  cases rx
  cases y with
  | non=>cases ry;exact PySem.EqNone.ne_none_none (cT I q (by simp))
  | bl j=>cases ry;exact PySem.EqNone.ne_none_bool (cT I q (by simp))
  | int j=>obtain⟨t',rfl⟩:=ry;exact PySem.EqNone.ne_none_int (cT I q (by simp))
  | str j=>obtain⟨t',rfl⟩:=ry;exact PySem.EqNone.ne_none_str (cT I q (by simp))
  | _=>exact absurd (show false=true from hs) ak
 | bl i =>
  cases rx
  cases y with
  | non=>cases ry;exact PySem.EqNone.ne_bool_none (cT I q (by simp))
  | bl j=>cases ry;exact ne_bool (cT I q (congrArg not Cc))
  | str j=>obtain⟨t',rfl⟩:=ry;exact PySem.EqMixed.ne_bool_str (cT I q (by simp))
  | _=>exact absurd (show false=true from hs) ak
 | int i =>
  obtain⟨t,rfl⟩:=rx
  cases y with
  | non=>cases ry;exact PySem.EqNone.ne_int_none (cT I q (by simp))
  | int j=>obtain⟨t',rfl⟩:=ry;exact ne_int (cT I q (congrArg not Be))
  | str j=>obtain⟨t',rfl⟩:=ry;exact PySem.EqMixed.ne_int_str (cT I q (by simp))
  | _=>exact absurd (show false=true from hs) ak
 | str i =>
  obtain⟨t,rfl⟩:=rx
  cases y with
  | non=>cases ry;exact PySem.EqNone.ne_str_none (cT I q (by simp))
  | bl j=>cases ry;exact PySem.EqMixed.ne_str_bool (cT I q (by simp))
  | int j=>obtain⟨t',rfl⟩:=ry;exact PySem.EqMixed.ne_str_int (cT I q (by simp))
  | str j=>obtain⟨t',rfl⟩:=ry;exact ne_str (cT I q (congrArg not Em))
  | _=>exact absurd (show false=true from hs) ak
 | byt i =>
  obtain⟨t,rfl⟩:=rx
  cases y with
  | byt j=>obtain⟨t',rfl⟩:=ry;exact PySem.W.ne_bytes (cT I q (congrArg not Tk))
  | _=>exact absurd (show false=true from hs) ak
 | _=>cases y<;>exact absurd (show false=true from hs) ak
theorem T8:OpR X (compareOp .Lt) (jE fun i j=>.bl (decide (i<j))):=oS fun _ _ _ _ _ _ _ q=>lt_int q
theorem S4:OpR X (compareOp .LtE) (jE fun i j=>.bl (decide (i<=j))):=oS fun _ _ _ _ _ _ _ q=>le_int q
theorem C5:OpR X (compareOp .Gt) (jE fun i j=>.bl (decide (j<i))):=oS fun _ _ _ _ _ _ _ q=>gt_int q
theorem Z8:OpR X (compareOp .GtE) (jE fun i j=>.bl (decide (j<=i))):=oS fun _ _ _ _ _ _ _ q=>ge_int q
theorem l3:OpR X (compareOp .Is) (fun x y H Q=>y=.non/\Q (.bl (decide (x=.non))) H):=by
 intro pins s σ H x y v u Q I rx ry h;obtain⟨rfl,q⟩:=h
 cases ry
 refine is_none_gen (cT I q ?_)
 cases x<;>first
  | (cases rx;rfl)
  | (obtain⟨t,rfl⟩:=rx;rfl)
theorem OpR.or{f:Value->Value->Sem Value}{r r':R2}(h:OpR X f r)(h':OpR X f r'):OpR X f (fun x y H Q=>r x y H Q\/r' x y H Q):=by
 intro pins s σ H x y v u Q I rx ry q;rcases q with q | q
 ·exact h pins s σ H x y v u Q I rx ry q
 ·exact h' pins s σ H x y v u Q I rx ry q
theorem rT(b:Expr){op:CmpOp}(h:op≠.In:=by decide)(h2:op≠.NotIn:=by decide):behindInMarks op b=false:=by
 have e1:(op==CmpOp.In)=false:=by cases op<;>first | rfl | exact absurd rfl h
 have e2:(op==CmpOp.NotIn)=false:=by cases op<;>first | rfl | exact absurd rfl h2
 cases b<;>simp[behindInMarks,e1,e2]
theorem jX:(sizeLine:Nat)<2^63:=by rw[sizeLine_eq];decide
theorem l0:OpR X (binaryOp .Add) (fun x y H Q=>∃ i j,x=.str i/\y=.str j/\i.length+j.length<=sizeLine/\Q (.str (i++j)) H):=by
 intro pins s σ H x y v u Q I rx ry h;obtain⟨i,j,rfl,rfl,hz,q⟩:=h;obtain⟨t,rfl⟩:=rx;obtain⟨t',rfl⟩:=ry;exact add_str (fun t' tk=>⟨.str (i++j),H,I.tok _,⟨_,rfl⟩,q⟩) hz
theorem eD{x:V}{us:List Value}(r:Vals [x] us):∃ u,us=[u]/\RelV x u:=by
 cases r with
 | cons r1 r2=>cases r2;exact⟨_,rfl,r1⟩
theorem Md{x y:V}{us:List Value}(r:Vals [x,y] us):∃ u w',us=[u,w']/\RelV x u/\RelV y w':=by
 cases r with
 | cons r1 r2 =>
  cases r2 with
  | cons r3 r4=>cases r4;exact⟨_,_,rfl,r1,r3⟩
theorem Zh:CallR X (.builtin "abs") (fun xs H Q=>∃ i,xs=[.int i]/\Q (.int (if i<0 then -i else i)) H):=by
 intro pins s σ H xs us Q I r h;obtain⟨i,rfl,q⟩:=h;obtain⟨u,rfl,t,rfl⟩:=eD r;exact call_abs_int fun u tk=>⟨.int (if i<0 then -i else i),H,I.tok _,⟨_,rfl⟩,q⟩
theorem AO(hc:X.calm=true):CallR X (.builtin "max") (fun xs H Q=>∃ i j,xs=[.int i,.int j]/\Q (.int (if j > i then j else i)) H):=by
 intro pins s σ H xs us Q I r h;obtain⟨i,j,rfl,q⟩:=h;obtain⟨u,w',rfl,⟨t,rfl⟩,⟨t',rfl⟩⟩:=Md r;refine max_two_ints (I.ok.hd hc) fun h' tk k=>⟨_,H,I.kept k,?_,q⟩
 by_cases hj:j > i
 ·rw[if_pos hj,if_pos hj];exact⟨_,rfl⟩
 ·rw[if_neg hj,if_neg hj];exact⟨_,rfl⟩
theorem oH:CallR X (.type "int") (fun xs H Q=>(∃ i,xs=[.int i]/\Q (.int i) H)\/∃ k,xs=[.bl k]/\Q (.int (if k then 1 else 0)) H):=by
 intro pins s σ H xs us Q I r h;rcases h with⟨i,rfl,q⟩ | ⟨k,rfl,q⟩
 ·obtain⟨u,rfl,t,rfl⟩:=eD r;exact call_int_int ⟨.int i,H,I,⟨_,rfl⟩,q⟩
 ·obtain⟨u,rfl,r1⟩:=eD r
  cases r1
  exact call_int_bool ⟨.int (if k then 1 else 0),H,I.tok _,⟨_,rfl⟩,q⟩
theorem n4:CallR X (.type "str") (fun xs H Q=>∃ i,xs=[.int i]/\i.natAbs.log2<1920/\Q (.str (toString i)) H):=by
 intro pins s σ H xs us Q I r h;obtain⟨i,rfl,hz,q⟩:=h;obtain⟨u,rfl,t,rfl⟩:=eD r;exact PySem.P.str_of_int hz ⟨.str _,H,I.tok _,⟨_,rfl⟩,q⟩
end
end L2
namespace L2
open PySem PySem.Spec PyProof.Rows
structure ObjM (h:Heap) (x dx C:Addr) (mA:Str->Option Value):Prop where
 obj:h.get? x=some (PySem.W.instObj C dx)
 ns:h.Ns1 dx mA
 ne:dx≠x
theorem G2{h:Heap}{dx:Addr}{mA:Str->Option Value}(n:h.Ns1 dx mA):∃ od,h.get? dx=some od/\∀ name,PySem.W.lookIn name od=some (mA name):=by
 obtain⟨o,es,ep,ho,hd,hk,_,hm⟩:=n;refine⟨o,ho,fun name=>?_⟩;have e:=hm name
 unfold nsFind findBy at e;rw[<- Array.find?_toList]at e;unfold PySem.W.lookIn;rw[hd];dsimp only
 split
 ·rename_i y q;rw[q]at e;exact congrArg some e
 ·rename_i q;rw[q]at e;have a:es.toList.any (·.refKey)=false:=by
   rw[List.any_eq_false];intro y hy;obtain⟨z,t,hkey⟩:=hk y (Array.mem_toList_iff.mp hy);simp[DictEntry.refKey,hkey]
  have a':¬ es.toList.any (·.refKey)=true:=by rw[a];exact ak
  rw[if_neg a'];exact congrArg some e
theorem ObjM.look{h:Heap}{x dx C:Addr}{mA:Str->Option Value}(I:ObjM h x dx C mA):∃ od,PySem.W.InstAt h x (PySem.W.instObj C dx) C (some od)/\∀ name,PySem.W.lookIn name od=some (mA name) :=
 let ⟨od,ho,hl⟩:=G2 I.ns
 ⟨od,⟨I.obj,rfl,rfl,ho⟩,hl⟩
section
variable {prog:Program}{w:World}{A:Around}{E:Value->Shared->Prop}{s:Shared}{K:ac}{x dx C f:Addr}{mA:Str->Option Value}{name:Str}{v:Value}
theorem vG{expr:Bool}{Q:Value->Shared->Prop}(X:K.In s.heap)(I:ObjM s.heap x dx C mA)(hg:PySem.W.plainGet K C name=true)(hh:PySem.W.hasDictIn K C=true)
  (ha:PySem.W.findIn K (.ref C) name=some none) (hv:mA name=some v) (hv':PySem.W.handedIn v=true) (h:Q v {s with toks:=s.toks+1}) :
  wpAny (model prog w) A (getAttr (.ref x) name expr) Q E s:=by
 obtain⟨od,J,hl⟩:=I.look;exact PySem.W.get_value X J (PySem.W.plainGet_of hg).1 (PySem.W.findObj_own hh ha rfl (by rw[hl,hv])) hv' h
end
theorem RelO.some_of{v:V}{o:Option Value}(r:RelO (some v) o):∃ u,o=some u/\RelV v u:=by
 cases o with
 | none=>exact(show False from r).elim
 | some u=>exact⟨u,rfl,r⟩
structure Cls (K:ac) (C:Addr):Prop where
 pg:PySem.W.plainGet K C Str.empty=true
 hd:PySem.W.hasDictIn K C=true
 po:PySem.W.plainOver K C=true
 sa:PySem.W.findIn K (.ref C) "__setattr__"=some (some (.builtin "object.__setattr__"))
theorem Cls.get{K:ac}{C:Addr}(c:Cls K C)(f:Str):PySem.W.plainGet K C f=true:=c.pg
end L2
namespace L2
open PySem PySem.Spec PyProof.Rows
structure Room (k:Nat) (A:Around):Prop where
 hd:A.handled=none
 gd:A.guards=some []
 dp:A.depth+3*k+5<recursionLimit
 un:A.units+16*k+200<cLine
theorem Room.mono{j k:Nat}{A:Around}(r:Room k A)(h:j<=k):Room j A:=⟨r.hd,r.gd,by have:=r.dp;omega,by have:=r.un;omega⟩
theorem Room.deeper{k:Nat}{A:Around}(r:Room (k+1) A)(env:Env):Room k (A.deeper env) :=
 ⟨r.hd,r.gd,by have:=r.dp;show A.depth+1+3*k+5<_;omega,by have:=r.un;show A.units+3+16*k+200<_;omega⟩
theorem Room.in1{k:Nat}{A:Around}(r:Room (k+1) A):Room k A.in1 :=
 ⟨r.hd,r.gd,by have:=r.dp;show A.depth+3*k+5<_;omega,by have:=r.un;show A.units+1+16*k+200<_;omega⟩
theorem Room.depth{k:Nat}{A:Around}(r:Room k A):A.depth<recursionLimit:=by have:=r.dp;omega
theorem Room.units{k:Nat}{A:Around}(r:Room k A):A.units+64<cLine:=by have:=r.un;omega
def M9:TA:=fun _ H Q=>Q [] H
def Y6(ta:TE)(tr:TA):TA:=fun σ H Q=>ta σ H fun x H1=>tr σ H1 fun xs H2=>Q (x::xs) H2
section
variable {X:Cx}{e:Expr}{es:List Expr}{te:TE}{t:TA}{pos:Pos}
theorem iV:PA X [] M9:=fun _ _ _ _ H Q I h=>Calls.spliced_nil ⟨[],H,I,.nil,h⟩
theorem gU(ha:PE X e te)(hr:PA X es t)(hs:starEach (e::es) X.env=(false,eval e X.env)::starEach es X.env:=by rfl):PA X (e::es) (Y6 te t):=by
 intro pos pins s σ H Q I h;rw[hs];show wpAny _ _ (spliced ((false,eval e X.env)::backTo pos (starEach es X.env))) _ _ s
 refine Calls.spliced_cons (aP (ha pins s σ H _ I h) fun u s1 ⟨x,H1,I1,r1,q1⟩=>?_);exact aP (hr pos pins s1 σ H1 _ I1 q1) fun us s2 ⟨xs,H2,I2,r2,q2⟩=>⟨x::xs,H2,I2,.cons r1 r2,q2⟩
def L4(t:TA):TE:=fun σ H Q=>t σ H fun xs H1=>xs.length<=sizeLine/\∀ p,H1 p=none->Q (.ref p) (upd H1 p (.tup xs))
theorem DM{x1}(h:PA X es t):PE X (.Tuple es x1 pos) (L4 t):=by
 intro pins s σ H Q I hq;refine wpAny_Tuple_spliced (aP (h pos pins s σ H _ I hq) fun us s1 ⟨xs,H1,I1,r,z,q⟩=>⟨by rw[<- r.length];exact z,?_⟩)
 have hf:H1 s1.heap.objs.size=none:=I1.hok.fresh (aj _)
 refine⟨.ref s1.heap.objs.size,upd H1 s1.heap.objs.size (.tup xs),I1.laid (t':=s1.toks) (fun b u e=>ag _ e) (aj _) ?_,rfl,q _ hf⟩;exact⟨⟨z,NoD.new _ _ _⟩,us,r,⟨_,ah _ rfl,rfl,_,rfl⟩⟩
end
abbrev Sp:=List V->Hp->VK->XK->Prop
abbrev gL:=List Env->Hp->Shared->XK->Value->Shared->Prop
structure Env0 (P:Program) (w:World) (K:ac) (mg:Str->Option Value) (base:Heap) (A:Around) (outer:List Env) (s:Shared) (H:Hp):Prop where
 frames:A.frames=some outer
 mod:Mod K mg base
 bs:∀ b o,base.get? b=some o->s.heap.get? b=some o/\H b=none
 bsz:base.objs.size<=s.heap.objs.size
 funs:s.heap.FunFrames base outer
 frf:∀ b∈gR outer,H b=none
 hok:HOk P w H s.heap
 bare:AllBare s.gens
def CE(outer:List Env)(P:Program)(w:World)(H:Hp)(s:Shared)(Q:VK)(u:Value)(s':Shared):Prop :=
 ∃ v H',s'.os=s.os/\AllBare s'.gens/\Un (gR outer) [] H H' s.heap s'.heap/\HOk P w H' s'.heap/\RelV v u/\Q v H'
def CR(CX:gL)(outer:List Env)(P:Program)(w:World)(H:Hp)(s:Shared)(Q:VK)(E:XK)(r:Result)(s':Shared):Prop :=
 match r with
 | .ok (.ret u)=>CE outer P w H s Q u s'
 | .ok _=>False
 | .error e=>CX outer H s E e s'
structure FnOk (P:Program) (w:World) (K:ac) (mg:Str->Option Value) (base:Heap) (CX:gL) (k:Nat) (f:Addr) (fd:FuncData) (ps:List Str) (sp:Sp):Prop where
 len:∀ vs H Q E,sp vs H Q E->vs.length=ps.length
 run:∀ (A:Around) (outer:List Env) (s:Shared) (H:Hp) (args:Args) (us:List Value) (vs:List V) (Q:VK) (E:XK),Room k A->Env0 P w K mg base A outer s H->BindsTo s fd args (ps.zip us)->Vals vs us->sp vs H Q E ->
  codeAny (model P w) A (.call (.ref f) args) (CR CX outer P w H s Q E) s
theorem FnOk.mono{P:Program}{w:World}{K:ac}{mg:Str->Option Value}{base:Heap}{CX:gL}{j k:Nat}{f:Addr}{fd:FuncData}{ps:List Str}{sp:Sp}(F:FnOk P w K mg base CX j f fd ps sp)(h:j<=k) :
  FnOk P w K mg base CX k f fd ps sp:=⟨F.len,fun A outer s H args us vs Q E hr=>F.run A outer s H args us vs Q E (hr.mono h)⟩
theorem FnOk.imp{P:Program}{w:World}{K:ac}{mg:Str->Option Value}{base:Heap}{CX:gL}{k:Nat}{f:Addr}{fd:FuncData}{ps:List Str}{sp sp':Sp}(F:FnOk P w K mg base CX k f fd ps sp)
  (h:∀ vs H Q E,sp' vs H Q E->sp vs H Q E):FnOk P w K mg base CX k f fd ps sp' :=
 ⟨fun vs H Q E q=>F.len vs H Q E (h _ _ _ _ q),fun A outer s H args us vs Q E hr he hb hv hs=>F.run A outer s H args us vs Q E hr he hb hv (h _ _ _ _ hs)⟩
theorem Env0.in1{P:Program}{w:World}{K:ac}{mg:Str->Option Value}{base:Heap}{A:Around}{outer:List Env}{s:Shared}{H:Hp}(e:Env0 P w K mg base A outer s H) :
  Env0 P w K mg base A.in1 outer s H:=⟨e.frames,e.mod,e.bs,e.bsz,e.funs,e.frf,e.hok,e.bare⟩
section
variable {X:Cx}{pins:List (Addr×Obj)}{σ:St}{H:Hp}{s s':Shared}
theorem Inv.env0(I:Inv X pins σ H s):Env0 X.prog X.w X.K X.mg X.base X.A X.stack s H :=
 ⟨I.ok.frames,I.ok.mod,I.bs,Nat.le_trans I.ok.bsz I.sz,I.stack,I.stkFree,I.hok,I.bare⟩
theorem Inv.after{Q:VK}{u:Value}(I:Inv X pins σ H s)(h:CE X.stack X.prog X.w H s Q u s'):EP X pins σ Q u s':=by
 obtain⟨v,H',os,bare,un,hok,r,q⟩:=h;obtain⟨hh,g,d,t,os'⟩:=s';obtain rfl:os'=s.os:=os;exact⟨v,H',I.call (h':=hh) (g':=g) (d':=d) (t':=t) (ch:=[]) un hok bare (fun b z=>absurd z (by simp)),r,q⟩
end
def Ul(sp:Sp)(dvs:List V)(E:XK)(t:TA):TE:=fun σ H Q=>t σ H fun vs H1=>sp (vs++dvs) H1 Q E
def Binds(K:ac)(fd:FuncData)(ps:List Str)(ds:List Value):Prop :=
 ∀ (s:Shared) (us:List Value),K.In s.heap->(us++ds).length=ps.length->BindsTo s fd ⟨us,[]⟩ (ps.zip (us++ds))
theorem Binds.all{K:ac}{fd:FuncData}{ps:List Str}(h:∀ us:List Value,us.length=ps.length->bindArgs fd ⟨us,[]⟩=pure (ps.zip us)):Binds K fd ps []:=fun s us _ hl=>by
 rw[List.append_nil]at hl ⊢;exact .of_eq (h us hl)
def uS(CX:gL)(X:Cx)(E:XK):Prop:=∀ (pins:List (Addr×Obj)) (σ:St) (H:Hp) (s:Shared) (e:Value) (s':Shared),Inv X pins σ H s->CX X.stack H s E e s'->X.xe e s'
section
variable {X:Cx}{CX:gL}{k:Nat}{f C:Addr}{fd:FuncData}{ps:List Str}{sp:Sp}{dvs:List V}{ds:List Value}{E:XK}{x m:Str}{p pos apos:Pos}{e o:Expr}{es:List Expr}{ta:TE}{t:TA}
theorem Za{pins:List (Addr×Obj)}{σ:St}{H:Hp}{s:Shared}{Q:VK}{us:List Value}{vs:List V}(F:FnOk X.prog X.w X.K X.mg X.base CX k f fd ps sp)(hr:Room k X.A)(hb:Binds X.K fd ps ds)(hd:Vals dvs ds)(hx:uS CX X E)
  (I:Inv X pins σ H s) (r:Vals vs us) (h:sp (vs++dvs) H Q E):wpAny (model X.prog X.w) X.A (call (.ref f) us) (EP X pins σ Q) X.xe s:=by
 have r2:Vals (vs++dvs) (us++ds):=r.append hd
 have hl:(us++ds).length=ps.length:=by rw[<- r2.length];exact F.len _ _ _ _ h
 refine wpAny_call (codeAny_mono (F.run X.A X.stack s H ⟨us,[]⟩ (us++ds) (vs++dvs) Q E hr I.env0 (hb s us I.kIn hl) r2 h) fun r s' hq=>?_)
 cases r with
 | error e=>exact hx pins σ H s e s' I hq
 | ok fl =>
  cases fl with
  | ret u=>exact I.after hq
  | next=>exact False.elim hq
  | brk=>exact False.elim hq
  | cont=>exact False.elim hq
theorem Y2(F:FnOk X.prog X.w X.K X.mg X.base CX k f fd ps sp)(hr:Room k X.A)(hg:Gl X x)(hm:X.mg x=some (.ref f))(hk:PySem.W.keepIn X.K (.ref f)=true)(hb:Binds X.K fd ps ds)(hd:Vals dvs ds)(hx:uS CX X E)
  (ha:PA X (e::es) t) (hdb:(x==("__debug__" : Str))=false:=by decide) (he:starEach (e::es) X.env=(false,eval e X.env)::starEach es X.env:=by rfl) (hpl:(backTo pos (starEach es X.env)).any (·.1)=false:=by rfl) :
  PE X (.Call (.Name x p) (e::es) [] pos) (Ul sp dvs E t):=by
 intro pins s σ H Q I h;refine wpAny_Call_Name_kw (Nq I hg hm ?_ hdb);refine PySem.W.callWith_K (h₀:=X.base) I.ok.mod.kin hk (aP (ha pos pins s σ H _ I h) fun us s1 ⟨vs,H1,I1,r,q⟩=>⟨I1.kIn,?_⟩) he hpl;exact Za F hr hb hd hx I1 r q
end
structure FnScope (N P:List Str) (sc:Scope):Prop where
 kind:sc.kind=.function
 co:sc.isCoroutine=false
 gen:sc.isGenerator=false
 nd:N.Nodup
 pre:N.take P.length=P
 par:∀ x∈P,sc.names.lookup x=some .local\/sc.names.lookup x=some .cell
 nofree:∀ y∈sc.names,y.2≠.free
theorem Qt{kindOf:Str->Option NameKind}{x:Str}:∀ {binds:List (Str×Value)} {m:Str->Option Value},(∀ v,(x,v)∉binds)->bindL kindOf binds m x=m x
 | [],_,_=>rfl
 | (n,v)::r,m,h=>by
  unfold bindL;rw[Qt fun w hw=>h w (ap _ hw)]
  split
  ·have:x≠n:=by rintro rfl;exact h v List.mem_cons_self
   simp[this]
  ·rfl
theorem Bf{kindOf:Str->Option NameKind}{x:Str}:∀ {binds:List (Str×Value)} {m:Str->Option Value},(∀ v,(x,v)∉binds)->bindC kindOf binds m x=m x
 | [],_,_=>rfl
 | (n,v)::r,m,h=>by
  unfold bindC;rw[Bf fun w hw=>h w (ap _ hw)]
  split
  ·rfl
  ·have:x≠n:=by rintro rfl;exact h v List.mem_cons_self
   simp[this]
theorem Ro{kindOf:Str->Option NameKind}{x:Str}{v:Value}:∀ {P:List Str} {vs:List Value} {i:Nat} {m:Str->Option Value},P.Nodup->P[i]?=some x->vs[i]?=some v->kindOf x=some .local ->
  bindL kindOf (P.zip vs) m x=some v
 | [],_,_,_,_,h,_,_=>by simp at h
 | _::_,[],_,_,_,_,h,_=>by simp at h
 | p::P,w::vs,0,m,nd,h1,h2,hk=>by
  simp at h1 h2;subst h1;subst h2;show bindL kindOf ((p,w)::P.zip vs) m p=_
  unfold bindL;rw[Qt fun v hv=>(List.nodup_cons.mp nd).1 (List.of_mem_zip hv).1,if_pos hk];simp
 | p::P,w::vs,i+1,m,nd,h1,h2,hk=>by
  show bindL kindOf ((p,w)::P.zip vs) m x=_
  unfold bindL;exact Ro (i:=i) (List.nodup_cons.mp nd).2 (by simpa using h1) (by simpa using h2) hk
theorem Eb{kindOf:Str->Option NameKind}{x:Str}{v:Value}:∀ {P:List Str} {vs:List Value} {i:Nat} {m:Str->Option Value},P.Nodup->P[i]?=some x->vs[i]?=some v->kindOf x≠some .local ->
  bindC kindOf (P.zip vs) m x=some v
 | [],_,_,_,_,h,_,_=>by simp at h
 | _::_,[],_,_,_,_,h,_=>by simp at h
 | p::P,w::vs,0,m,nd,h1,h2,hk=>by
  simp at h1 h2;subst h1;subst h2;show bindC kindOf ((p,w)::P.zip vs) m p=_
  unfold bindC;rw[Bf fun v hv=>(List.nodup_cons.mp nd).1 (List.of_mem_zip hv).1,if_neg hk];simp
 | p::P,w::vs,i+1,m,nd,h1,h2,hk=>by
  show bindC kindOf ((p,w)::P.zip vs) m x=_
  unfold bindC;exact Eb (i:=i) (List.nodup_cons.mp nd).2 (by simpa using h1) (by simpa using h2) hk
def start(N:List Str)(vs:List V):St:=vs.map some++List.replicate (N.length-vs.length) none
def iI(CX:gL)(P:Program)(w:World)(K:ac)(mg:Str->Option Value)(base:Heap)(N:List Str)(qual:Str)(scope:Scope)(f:Addr)(cd:Value)(A:Around)(outer:List Env)(s:Shared)(H:Hp)(E:XK):Cx where
 prog:=P
 w:=w
 K:=K
 mg:=mg
 base:=base
 A:=A.deeper (envOfC qual scope s.heap.objs.size f cd)
 N:=N
 s₀:=s
 H₀:=H
 env:=envOfC qual scope s.heap.objs.size f cd
 outer:=outer
 stack:=envOfC qual scope s.heap.objs.size f cd::outer
 ex:=[]
 calm:=true
 fn:=fun _=>true
 pn:=[]
 xe:=fun e s'=>wpAny (model P w) (A.deeper (envOfC qual scope s.heap.objs.size f cd)) («leaving» (envOfC qual scope s.heap.objs.size f cd) e) (fun _ s''=>CX outer H s E e s'') (fun e' s''=>CX outer H s E e' s'') s'
theorem Ot{sc:Scope}{n:Nat}{x:Str}(h:sc.names.lookup x=some .cell):∃ c,(cellsFrom n sc.names []).lookup x=some c:=by
 have q:=PySem.W.cellsFrom_some sc.names n [] (.inl h)
 exact Option.isSome_iff_exists.mp q
theorem GQ{CX:gL}{P:Program}{w:World}{K:ac}{mg:Str->Option Value}{base:Heap}{N ps:List Str}{qual:Str}{scope:Scope}{f:Addr}{cd:Value}{A:Around}{outer:List Env}{s s1:Shared}{H:Hp}{E:XK}{us:List Value}{vs:List V}
  (S:FnScope N ps scope) (hd:A.handled=none) (e0:Env0 P w K mg base A outer s H) (hl:vs.length=ps.length) (r:Vals vs us)
  (x:InCallC s s.heap.objs.size (bindL (envOfC qual scope s.heap.objs.size f cd).kindOf (ps.zip us) fun _=>none) (cellsFrom (s.heap.objs.size+1) scope.names []) (bindC (envOfC qual scope s.heap.objs.size f cd).kindOf (ps.zip us) fun _=>none) s1) :
  Inv (iI CX P w K mg base N qual scope f cd A outer s H E) [] (start N vs) H s1:=by
 have hpl:ps.length<=N.length:=by have:=congrArg List.length S.pre;rw[List.length_take]at this;omega
 obtain⟨h1,tk,rfl,hk⟩:=x.done;have noA:∀ b:Addr,b∉(iI CX P w K mg base N qual scope f cd A outer s H E).ex:=fun b z=>absurd (show b∈([]:List Addr) from z) (by simp)
 refine⟨⟨e0.mod,S.kind,rfl,rfl,aj _,fun y z c h1 h2=>?_,fun y hy=>?_,fun y c _ h=>?_,fun _=>hd,Around.frames_deeper e0.frames,.inr ⟨rfl,rfl⟩,fun b z=>absurd z (noA b),e0.bs,e0.bsz,fun b _ _=>noA b,fun b z=>absurd z (noA b),e0.funs,e0.frf⟩,
  rfl,e0.bare,Un.kept hk,⟨_,x.toInCall.ns,fun i y v h1 h2 h3=>?_⟩,fun y c h=>⟨_,x.cell y c h⟩,e0.hok.fresh (aj _),fun y c h=>?_,fun p hp=>absurd (show p∈([]:List (Addr×Obj)) from hp) (by simp),e0.hok.kept hk,?_⟩
 ·exact name_of_addr x.apart (PySem.mem_of_lookup h1) (PySem.mem_of_lookup h2)
 ·have hy:scope.names.lookup y=some .cell\/scope.names.lookup y=some .free:=hy
  rcases hy with hy | hy
  ·exact Ot hy
  ·exact absurd rfl (S.nofree _ (PySem.mem_of_lookup hy))
 ·exact Nat.le_of_lt (x.above y c (PySem.mem_of_lookup h))
 ·have hi:i<vs.length:=by
   unfold start at h2
   by_cases hi:i<vs.length
   ·exact hi
   ·rw[List.getElem?_append_right (by simpa using hi)]at h2
    rw[List.getElem?_replicate]at h2
    split at h2<;>cases h2
  have ha:vs[i]?=some v:=by
   unfold start at h2;rw[List.getElem?_append_left (by simpa using hi),List.getElem?_map]at h2
   cases e:vs[i]? with
   | none=>rw[e]at h2;cases h2
   | some a=>rw[e]at h2;cases h2;rfl
  obtain⟨u,hu,rv⟩:=r.get ha;have hp:ps[i]?=some y:=by
   rw[<- S.pre,List.getElem?_take_of_lt (by omega)];exact h1
  have ndP:ps.Nodup:=by rw[<- S.pre];exact S.nd.sublist (List.take_sublist _ _)
  refine⟨u,rv,?_⟩;rcases S.par y (List.mem_of_getElem? hp) with k | k
  ·exact .inl ⟨k,Ro ndP hp hu k⟩
  ·obtain⟨c,e⟩:=Ot (n:=s.heap.objs.size+1) k;refine .inr ⟨.inl k,c,e,?_⟩;have q:=x.cell y c e
   rw[Eb ndP hp hu (by show scope.names.lookup y≠_;rw[k];decide)]at q
   exact q
 ·exact e0.hok.fresh (Nat.le_of_lt (x.above y c (PySem.mem_of_lookup h)))
 ·unfold start;show _=N.length
  rw[List.length_append,ar,List.length_replicate];omega
theorem Yo{CX:gL}{P:Program}{w:World}{K:ac}{mg:Str->Option Value}{base:Heap}{k:Nat}{f:Addr}{name qual:Str}{params:Arguments}{body:List Stmt}{scope:Scope}{dV kV doc pm cdv ct oc:Value}{an od:Option Addr}
  {osl:Array (Option Value)} {N ps:List Str} {sp:Sp} (lk:K.lookup f=some ⟨oc,od,.func (PySem.W.fnOf name qual params body scope dV kV doc pm an cdv ct),osl⟩) (hcd:PySem.W.codeIn K cdv qual=true) (S:FnScope N ps scope)
  (len:∀ vs H Q E,sp vs H Q E->vs.length=ps.length)
  (hbody:∀ (A:Around) (outer:List Env) (s:Shared) (H:Hp) (vs:List V) (Q:VK) (E:XK),Room k (A.deeper (envOfC qual scope s.heap.objs.size f cdv))->sp vs H Q E ->
   ∃ t,PSs (iI CX P w K mg base N qual scope f cdv A outer s H E) body t/\t {nx:=fun _ H'=>Q .non H',rt:=Q} (start N vs) H) :
  FnOk P w K mg base CX (k+1) f (PySem.W.fnOf name qual params body scope dV kV doc pm an cdv ct) ps sp:=by
 refine⟨len,fun A outer s H args us vs Q E hr e0 hb r hsp=>?_⟩;have hl:=len _ _ _ _ hsp
 have KX:K.In s.heap:=e0.mod.kin.keeps fun b o e=>(e0.bs b o e).1
 have lim:s.heap.NoLimit:=e0.mod.nolimit.keeps fun b o e=>(e0.bs b o e).1
 have hkind:∀ y∈ps.zip us,scope.names.lookup y.1=some .local\/(scope.names.lookup y.1=some .cell/\((cellsFrom (s.heap.objs.size+1) scope.names []).lookup y.1).isSome=true):=fun⟨n,v⟩ hy=>by
  rcases S.par n (List.of_mem_zip hy).1 with q | q
  ·exact .inl q
  ·exact .inr ⟨q,PySem.W.cellsFrom_some _ _ _ (.inl q)⟩
 refine codeAny_call_function hr.depth (KX _ _ lk) rfl S.co S.gen rfl (PySem.W.codeRec_of KX hcd) (hb _ _ _ _ ?_);refine wpAny_newFunctionEnv_cells S.kind hkind fun env he s1 x=>?_;subst he;refine⟨lim.keeps x.toInCall.keep,codeAny_func ?_⟩;obtain⟨t,ht,hq⟩:=hbody A outer s H vs Q E (hr.deeper _) hsp;have I:Inv (iI CX P w K mg base N qual scope f cdv A outer s H E) [] (start N vs) H s1:=GQ S hr.hd e0 hl r x
 refine wpAny_mono (ht [] s1 (start N vs) H _ I hq) (fun fl s' hs=>?_) fun e s' hs=>hs;have fin:∀ {σ':St} {H':Hp} {v:V} {u:Value},Inv (iI CX P w K mg base N qual scope f cdv A outer s H E) [] σ' H' s'->RelV v u->Q v H'->CE outer P w H s Q u s' :=
  fun {σ' H' v u} J rv q=>⟨v,H',J.os,J.bare,J.base,J.hok,rv,q⟩
 cases fl with
 | ret u =>
  obtain⟨v,σ',H',J,rv,q⟩:=hs;exact fin J rv q
 | next =>
  obtain⟨σ',H',J,q⟩:=hs;exact fin (v:=V.non) (u:=Value.none) J rfl q
 | brk =>
  obtain⟨_,_,_,q⟩:=hs;exact False.elim q
 | cont =>
  obtain⟨_,_,_,q⟩:=hs;exact False.elim q
end L2
namespace L2
open PySem PySem.Spec PyProof.Rows
section
variable {X:Cx}{x:Str}{p pos:Pos}{e:Expr}{es:List Expr}{t:TA}{id T:String}{r:List V->Hp->VK->Prop}
def Cd(r:List V->Hp->VK->Prop)(t:TA):TE:=fun σ H Q=>t σ H fun vs H1=>r vs H1 Q
theorem Ks(hc:CallR X (.builtin id) r)(hg:Gl X x)(hm:X.mg x=none)(hv:bootBuiltins x=some (.builtin id))(ha:PA X (e::es) t)(hn:x≠"__name__":=by decide)(hdb:(x==("__debug__" : Str))=false:=by decide)
  (he:starEach (e::es) X.env=(false,eval e X.env)::starEach es X.env:=by rfl) (hpl:(backTo pos (starEach es X.env)).any (·.1)=false:=by rfl):PE X (.Call (.Name x p) (e::es) [] pos) (Cd r t):=by
 intro pins s σ H Q I h;refine wpAny_Call_Name_kw (jB I hg hm hv ?_ hn hdb);exact PyProof.Rows.callWith_builtin1 (aP (ha pos pins s σ H _ I h) fun us s1 ⟨vs,H1,I1,r1,q1⟩=>hc pins s1 σ H1 vs us Q I1 r1 q1) he hpl
theorem Q3(hc:CallR X (.type T) r)(hg:Gl X x)(hm:X.mg x=none)(hv:bootBuiltins x=some (.type T))(ha:PA X (e::es) t)(hn:x≠"__name__":=by decide)(hdb:(x==("__debug__" : Str))=false:=by decide)
  (he:starEach (e::es) X.env=(false,eval e X.env)::starEach es X.env:=by rfl) (hpl:(backTo pos (starEach es X.env)).any (·.1)=false:=by rfl):PE X (.Call (.Name x p) (e::es) [] pos) (Cd r t):=by
 intro pins s σ H Q I h;refine wpAny_Call_Name_kw (jB I hg hm hv ?_ hn hdb);exact PyProof.Rows.callWith_type1 (aP (ha pos pins s σ H _ I h) fun us s1 ⟨vs,H1,I1,r1,q1⟩=>hc pins s1 σ H1 vs us Q I1 r1 q1) he hpl
end
end L2
namespace HT
open PySem PyProof.Rows
section
variable {prog:Program}{w:World}{A:Around}{E:Value->Shared->Prop}{s:Shared}
theorem cat_tup{t b:Addr}{vs ws:List Value}{Q:Value->Shared->Prop}(ht:IsTup s.heap t vs.toArray)(hb:IsTup s.heap b ws.toArray)(hv:vs≠[])
  (h1:ws=[]->Q (.ref t) s) (h2:ws≠[]->Q (.ref s.heap.objs.size) {s with heap:=s.heap.push {cls:=.type "tuple",data:=.seq (vs++ws).toArray}})
  (hsz:vs.length+ws.length<=sizeLine):wpAny (model prog w) A (binaryOp .Add (.ref t) (.ref b)) Q E s:=by
 obtain⟨⟨cls,dd,data,sl⟩,ho,hc,n,hd⟩:=id ht;obtain⟨⟨cls2,dd2,data2,sl2⟩,ho2,hc2,n2,hd2⟩:=id hb;simp only at hc hd hc2 hd2;subst hc hd hc2 hd2;have e:vs.toArray++ws.toArray=(vs++ws).toArray:=by simp
 by_cases hw:ws=[]
 ·exact concat_meets ⟨_,ho,rfl⟩ ⟨_,ho2,rfl⟩ noFill_tuple_add seq_tuple_add PySem.F.slot_tuple_add PySem.F.entry_tuple_add (PySem.F.args_tuple_add_2 _ _)
   (tuple_addW1 t b vs.toArray ws.toArray n n2 dd dd2 sl sl2 (by simpa using hv) (by simp[hw])) ⟨ho,ho2,h1 hw⟩
 ·refine concat_meets ⟨_,ho,rfl⟩ ⟨_,ho2,rfl⟩ noFill_tuple_add seq_tuple_add PySem.F.slot_tuple_add PySem.F.entry_tuple_add (PySem.F.args_tuple_add_2 _ _)
   (tuple_addW2 t b vs.toArray ws.toArray n n2 dd dd2 sl sl2 (by simpa using hv) (by simpa using hw) (by rw[au,au];exact hsz)) ⟨ho,ho2,?_⟩
  rw[e];exact h2 hw
def sIx(n d:Nat):Option Int->Nat
 | none=>d
 | some v=>if v<0 then (v+(n:Int)).toNat else min v.toNat n
theorem x3(n d:Nat)(hd:d<=n)(o:Option Int):sIx n d o<=n:=by
 cases o with
 | none=>exact hd
 | some v =>
  show(if v<0 then (v+(n:Int)).toNat else min v.toNat n)<=n
  by_cases hv:v<0
  ·rw[if_pos hv];omega
  ·rw[if_neg hv];exact Nat.min_le_right _ _
theorem Eg(v:Int)(n d:Nat):(if v<0 then max (v+(n:Int)) 0 else min v (n:Int))=((sIx n d (some v):Nat):Int):=by
 show(if v<0 then max (v+(n:Int)) 0 else min v (n:Int))=(((if v<0 then (v+(n:Int)).toNat else min v.toNat n):Nat):Int)
 by_cases hv:v<0
 ·simp only[if_pos hv];omega
 ·simp only[if_neg hv];omega
theorem EB(lo hi:Option Int)(n:Nat):Builtin.Slice.sliceAdjust lo hi 1 (n:Int)=(((sIx n 0 lo:Nat):Int),((sIx n n hi:Nat):Int)):=by
 have h1:¬ ((1:Int)<0):=by omega
 unfold Builtin.Slice.sliceAdjust;simp only[h1,if_false];refine Prod.ext ?_ ?_
 ·cases lo with
  | none=>rfl
  | some v=>exact Eg v n 0
 ·cases hi with
  | none=>rfl
  | some v=>exact Eg v n n
theorem T7(i j:Nat):Builtin.Slice.slicePlaces (i:Int) (j:Int) 1=j-i:=by
 unfold Builtin.Slice.slicePlaces;have h1:(1:Int) > 0:=by omega
 simp only[h1,if_true,Int.ediv_one]
 split<;>omega
theorem Ps{v:Value}{o:Option Int}{Q:Option Int->Shared->Prop}(p:IsPart v o)(h:Q o s):wpAny (model prog w) A (Builtin.Slice.slicePartIndex v) Q E s:=by
 cases p with
 | none=>exact slicePart_none h
 | int i t=>exact slicePart_int h
theorem sliceApplied_gen{sl:Addr}{vl vu:Value}{lo hi:Option Int}{n:Nat}{Q:Int×Int×Nat->Shared->Prop}(hs:s.heap.IsSliceOf sl vl vu .none)(pl:IsPart vl lo)(pu:IsPart vu hi)
  (h:Q (((sIx n 0 lo:Nat):Int),1,sIx n n hi-sIx n 0 lo) s):wpAny (model prog w) A (Builtin.Slice.sliceApplied (.ref sl) (pure (n:Int))) Q E s:=by
 obtain⟨os,hos,hcs,hds⟩:=id hs;unfold Builtin.Slice.sliceApplied Builtin.Slice.sliceFields;refine ad (ad (wpAny_field hos hds (x:=vl) rfl (ad (wpAny_field hos hds (x:=vu) rfl (ad (wpAny_field hos hds (x:=.none) rfl (ae ?_)))))));refine ad (slicePart_none ?_);show wpAny _ _ (if ((1:Int)==0)=true then _ else _) _ _ s
 rw[if_neg (by decide)]
 refine ad (Ps pl (ad (Ps pu (ad (ae ?_)))));show wpAny _ _ (match Builtin.Slice.sliceAdjust lo hi 1 (n:Int) with | (lo,hi)=>pure (lo,(1:Int),Builtin.Slice.slicePlaces lo hi 1)) _ _ s
 rw[EB lo hi n];show wpAny _ _ (pure (((sIx n 0 lo:Nat):Int),(1:Int),Builtin.Slice.slicePlaces ((sIx n 0 lo:Nat):Int) ((sIx n n hi:Nat):Int) 1)) _ _ s
 rw[T7];exact ae h
theorem Zc(xs:Array Value)(i k:Nat):((List.range k).filterMap fun(m:Nat)=>xs[((i:Int)+(m:Int)*1).toNat]?).toArray=((xs.toList.drop i).take k).toArray:=by
 have e:(fun(m:Nat)=>xs[((i:Int)+(m:Int)*1).toNat]?)=fun m=>xs[i+m]?:=by
  funext m
  have:((i:Int)+(m:Int)*1).toNat=i+m:=by omega
  rw[this]
 rw[e];have:=pick_run xs i k
 rw[List.filterMap_map]at this;have e2:((fun x=>xs[x]?)∘fun x=>i+x)=fun m=>xs[i+m]?:=rfl
 rw[e2]at this;rw[this]
theorem getItem_tuple_cut{t sl:Addr}{items:Array Value}{vl vu:Value}{lo hi:Option Int}{Q:Value->Shared->Prop}(ht:IsTup s.heap t items)(hs:s.heap.IsSliceOf sl vl vu .none)(pl:IsPart vl lo)(pu:IsPart vu hi)
  (hw:¬ (sIx items.size 0 lo=0/\sIx items.size items.size hi=items.size))
  (h:Q (.ref s.heap.objs.size) {s with heap:=s.heap.push {cls:=.type "tuple",data:=.seq ((items.toList.drop (sIx items.size 0 lo)).take (sIx items.size items.size hi-sIx items.size 0 lo)).toArray}})
  (hsz:items.size<=sizeLine):wpAny (model prog w) A (getItem (.ref t) (.ref sl)) Q E s:=by
 have htake:sizeOk (.seq ((items.toList.drop (sIx items.size 0 lo)).take (sIx items.size items.size hi-sIx items.size 0 lo)).toArray):=by
  show((items.toList.drop (sIx items.size 0 lo)).take (sIx items.size items.size hi-sIx items.size 0 lo)).toArray.size<=sizeLine
  rw[au,List.length_take,List.length_drop,Array.length_toList];omega
 have hj:sIx items.size items.size hi<=items.size:=x3 _ _ (aj _) hi
 obtain⟨os,hos,hcs,hds⟩:=id hs;have hTs:s.TypeIs (.ref sl) "slice":=⟨os,hos,hcs⟩
 unfold getItem
 try with_reducible refine wpAny_holding ?_
 first | refine ad (ae ?_) | skip
 refine ad (wpAny_sequenceKey ht.typeIs (by decide) ?_)
 refine ad (wpAny_callSpecial?_slot (name:=Str.ofString "__getitem__") ht.typeIs PyProof.Rows.slot_tuple_getitem
  (wpAny_call_entry PyProof.Rows.slot_tuple_getitem ht.typeIs entry_tuple_getitem ?_ (args_tuple_getitem _ _)))
 show wpAny _ _ (Builtin.Tuple.tupleItemsOf (.ref t)>>=_) _ _ s
 refine ad (tupleItemsOf_ ht ?_);refine ad (wpAny_typeOf hTs ?_);rw[if_pos (by decide)]
 refine ad (sliceApplied_gen hs pl pu ?_);have hno:¬ ((((sIx items.size 0 lo:Nat):Int)==0&&(1:Int)==1&&(sIx items.size items.size hi-sIx items.size 0 lo)==items.size)=true):=by
  intro q;rw[Bool.and_eq_true,Bool.and_eq_true]at q;have q1:((sIx items.size 0 lo:Nat):Int)=0:=eq_of_beq q.1.1
  have q2:sIx items.size items.size hi-sIx items.size 0 lo=items.size:=eq_of_beq q.2
  exact hw ⟨by omega,by omega⟩
 show wpAny _ _ (if (((sIx items.size 0 lo:Nat):Int)==0&&(1:Int)==1&&(sIx items.size items.size hi-sIx items.size 0 lo)==items.size)=true then _ else _) _ _ s
 rw[if_neg hno,Zc]
 first
  | exact ad (m:=Builtin.Tuple.tupleExact _) (wpAny_newObj_type (ae ⟨_,rfl,ae h⟩) htake)
  | exact ad (m:=Builtin.Tuple.tupleExact _) (wpAny_newObj_type (ad (ae (ae ⟨_,rfl,ae h⟩))) htake)
  | exact ad (ad (m:=Builtin.Tuple.tupleExact _) (wpAny_newObj_type (ae (ae ⟨_,rfl,ae h⟩)) htake))
  | exact ad (ad (m:=Builtin.Tuple.tupleExact _) (wpAny_newObj_type (ae ⟨_,rfl,ae h⟩) htake))
end
end HT
namespace L2
open PySem PySem.Spec PyProof.Rows
abbrev TO:=St->Hp->(Option Int->Hp->Prop)->Prop
def PO(X:Cx)(e:Option Expr)(t:TO):Prop :=
 ∀ (pins:List (Addr×Obj)) (s:Shared) (σ:St) (H:Hp) (Q:Option Int->Hp->Prop),Inv X pins σ H s->t σ H Q ->
  wpAny (model X.prog X.w) X.A (evalPart e X.env) (fun u s'=>∃ o H',Inv X pins σ H' s'/\IsPart u o/\Q o H') X.xe s
def CK:TO:=fun _ H Q=>Q none H
def BI(t:TE):TO:=fun σ H Q=>t σ H fun x H1=>∃ i,x=.int i/\Q (some i) H1
section
variable {X:Cx}{e:Expr}{te:TE}{lo hi:Option Expr}{tl th:TO}{pos p2:Pos}
theorem HW:PO X none CK:=by
 intro pins s σ H Q I h;rw[evalPart_none];exact ae ⟨none,H,I,.none,h⟩
theorem AL(h:PE X e te):PO X (some e) (BI te):=by
 intro pins s σ H Q I hw;rw[evalPart_some];refine aP (h pins s σ H _ I hw) fun u s1 ⟨x,H1,I1,r1,q1⟩=>?_;obtain⟨i,rfl,q⟩:=q1;obtain⟨t,rfl⟩:=r1;exact⟨some i,H1,I1,.int i t,q⟩
def SlR(X:Cx)(r:V->Option Int->Option Int->Hp->VK->Prop):Prop :=
 ∀ (pins:List (Addr×Obj)) (s:Shared) (σ:St) (H:Hp) (x:V) (v vl vu:Value) (lo hi:Option Int) (sl:Addr) (Q:VK),Inv X pins σ H s->RelV x v->s.heap.IsSliceOf sl vl vu .none->IsPart vl lo->IsPart vu hi->r x lo hi H Q ->
  ∃ T id,typeLookup (.type T) "__getitem__"=pure (some (.builtin id))/\s.TypeIs v T/\wpAny (model X.prog X.w) X.A (getItem v (.ref sl)) (EP X pins σ Q) X.xe s
theorem SlR.or{r r':V->Option Int->Option Int->Hp->VK->Prop}(h:SlR X r)(h':SlR X r'):SlR X (fun x lo hi H Q=>r x lo hi H Q\/r' x lo hi H Q):=by
 intro pins s σ H x v vl vu lo hi sl Q I rx hs pl pu q;rcases q with q | q
 ·exact h pins s σ H x v vl vu lo hi sl Q I rx hs pl pu q
 ·exact h' pins s σ H x v vl vu lo hi sl Q I rx hs pl pu q
def AW(r:V->Option Int->Option Int->Hp->VK->Prop)(te:TE)(tl th:TO):TE:=fun σ H Q=>te σ H fun x H1=>tl σ H1 fun l H2=>th σ H2 fun u H3=>r x l u H3 Q
theorem Je{r:V->Option Int->Option Int->Hp->VK->Prop}(hr:SlR X r)(he:PE X e te)(hl:PO X lo tl)(hu:PO X hi th):PE X (.Subscript e (.Slice lo hi none p2) pos) (AW r te tl th):=by
 intro pins s σ H Q I h;refine Subscript_ (aP (he pins s σ H _ I h) fun v s1 ⟨x,H1,I1,r1,q1⟩=>?_);refine wpAny_Slice (aP (hl pins s1 σ H1 _ I1 q1) fun vl s2 ⟨l,H2,I2,pl,q2⟩=>aP (hu pins s2 σ H2 _ I2 q2) fun vu s3 ⟨u,H3,I3,pu,q3⟩=>?_);rw[evalPart_none];refine ae ?_;have I4:Inv X pins σ H3 {s3 with heap:=s3.heap.push {cls:=.type "slice",data:=.fields #[vl,vu,.none]}}:=I3.kept (t':=s3.toks) fun b ob q=>ag _ q
 obtain⟨T,id,hT,ht,hg⟩:=hr pins {s3 with heap:=s3.heap.push {cls:=.type "slice",data:=.fields #[vl,vu,.none]}} σ H3 x v vl vu l u s3.heap.objs.size Q I4 r1 (Heap.IsSliceOf.new ..) pl pu q3;show wpAny (model X.prog X.w) X.A (subscriptTail e (.Slice lo hi none p2) v (.ref s3.heap.objs.size)) (EP X pins σ Q) X.xe {s3 with heap:=s3.heap.push {cls:=.type "slice",data:=.fields #[vl,vu,.none]}}
 exact tail_any (ops:=[.ref s3.heap.objs.size,v]) ht hT hg (by with_unfolding_all rfl)
def iD(xs:List V)(lo hi:Option Int):List V:=(xs.drop (HT.sIx xs.length 0 lo)).take (HT.sIx xs.length xs.length hi-HT.sIx xs.length 0 lo)
theorem Bh(xs:List V)(lo hi:Option Int):(iD xs lo hi).length<=xs.length:=by
 unfold iD;rw[List.length_take,List.length_drop];omega
def l9(K:ac):V->Option Int->Option Int->Hp->VK->Prop:=fun x lo hi H Q=>∃ a xs,x=.ref a/\SqT K H a xs /\
 ¬ (HT.sIx xs.length 0 lo=0/\HT.sIx xs.length xs.length hi=xs.length)/\∀ p,H p=none->Q (.ref p) (upd H p (.tup (iD xs lo hi)))
theorem Vv:SlR X (l9 X.K):=by
 intro pins s σ H x v vl vu lo hi sl Q I rx hs pl pu h;obtain⟨a,xs,rfl,hx,hw,q⟩:=h
 cases rx
 obtain⟨its,r,ht,hz⟩:=I.tuple hx;have hlen:its.toArray.size=xs.length:=by rw[au];exact r.length.symm
 refine⟨"tuple",_,PyProof.Rows.slot_tuple_getitem.lookup,ht.typeIs,?_⟩;refine HT.getItem_tuple_cut ht hs pl pu (by rw[hlen];exact hw) ?_ (by rw[hlen];exact hz)
 rw[hlen];refine⟨.ref s.heap.objs.size,_,I.laid (t':=s.toks) (o:=.tup (iD xs lo hi)) (fun b ob q=>ag _ q) (aj _) ?_,rfl,q _ (I.hok.fresh (aj _))⟩;exact⟨⟨Nat.le_trans (Bh xs lo hi) hz,NoD.new _ _ _⟩,_,(r.drop (HT.sIx xs.length 0 lo)).take (HT.sIx xs.length xs.length hi-HT.sIx xs.length 0 lo),IsTup.new _ _⟩
def GD(K:ac):R2:=fun x y H Q=>∃ a b xs ys,x=.ref a/\y=.ref b/\SqT K H a xs/\SqT K H b ys/\xs≠[]/\xs.length+ys.length<=sizeLine /\
 (ys=[]->Q (.ref a) H)/\(ys≠[]->∀ p,H p=none->Q (.ref p) (upd H p (.tup (xs++ys))))
theorem Vals.nil_iff{xs:List V}{us:List Value}(r:Vals xs us):us=[]↔xs=[]:=by
 cases r with
 | nil=>simp
 | cons _ _=>simp
theorem BR:OpR X (binaryOp .Add) (GD X.K):=by
 intro pins s σ H x y v u Q I rx ry h;obtain⟨a,b,xs,ys,rfl,rfl,ha,hb,hx,hz,q1,q2⟩:=h
 cases rx
 cases ry
 obtain⟨its,r1,p1,_⟩:=I.tuple ha;obtain⟨its2,r2,p2,_⟩:=I.tuple hb;refine HT.cat_tup p1 p2 (fun z=>hx (r1.nil_iff.mp z)) (fun z=>⟨.ref a,H,I,rfl,q1 (r2.nil_iff.mp z)⟩) (fun z=>?_) (by rw[<- r1.length,<- r2.length];exact hz)
 refine⟨.ref s.heap.objs.size,_,I.laid (t':=s.toks) (o:=.tup (xs++ys)) (fun b ob q=>ag _ q) (aj _) ?_,rfl,q2 (fun w=>z (r2.nil_iff.mpr w)) _ (I.hok.fresh (aj _))⟩;exact⟨⟨by rw[List.length_append];exact hz,NoD.new _ _ _⟩,_,r1.append r2,IsTup.new _ _⟩
end
end L2
namespace L2
open PySem PySem.Spec PyProof.Rows
def dQ(n:Nat)(i:Int):Option Nat:=if 0<=i then (if i<n then some i.toNat else none) else if -(n:Int)<=i then some (i+n).toNat else none
def bR{α:Type}(xs:List α)(i:Int):Option α:=(dQ xs.length i).bind fun j=>xs[j]?
theorem Sw{n:Nat}{i:Int}{j:Nat}(h:dQ n i=some j):seqIndex? i n=some j/\j<n/\-(n:Int)<=i/\i<n:=by
 unfold dQ at h
 by_cases h0:0<=i
 ·rw[if_pos h0]at h
  by_cases h1:i<n
  ·rw[if_pos h1]at h;have e:i.toNat=j:=Option.some.inj h
   exact⟨by rw[seqIndex_of h0 h1,e],by omega,by omega,h1⟩
  ·rw[if_neg h1]at h;cases h
 ·rw[if_neg h0]at h
  by_cases h1:-(n:Int)<=i
  ·rw[if_pos h1]at h;have e:(i+n).toNat=j:=Option.some.inj h
   exact⟨by rw[seqIndex_neg (by omega) h1,e],by omega,h1,by omega⟩
  ·rw[if_neg h1]at h;cases h
theorem yE{α:Type}{xs:List α}{i:Int}{v:α}(h:bR xs i=some v):∃ j,seqIndex? i xs.length=some j/\xs[j]?=some v/\j<xs.length/\-(xs.length:Int)<=i/\i<xs.length:=by
 unfold bR at h
 cases e:dQ xs.length i with
 | none=>rw[e]at h;cases h
 | some j =>
  rw[e]at h;obtain⟨h1,h2,h3,h4⟩:=Sw e;exact⟨j,h1,h,h2,h3,h4⟩
theorem eE{α:Type}{xs:List α}{j:Nat}{v:α}(h:xs[j]?=some v):bR xs (j:Int)=some v:=by
 have hj:j<xs.length:=(List.getElem?_eq_some_iff.mp h).1
 have e:dQ xs.length (j:Int)=some j:=by
  unfold dQ;rw[if_pos (by omega),if_pos (by omega)];simp
 unfold bR;rw[e];exact h
def uN(b:Expr):Prop:=∀ o i,subscripted b false o i=operate [o,i] (getItem o i)
def IxR(X:Cx)(r:R2):Prop :=
 ∀ (value slice:Expr) (pins:List (Addr×Obj)) (s:Shared) (σ:St) (H:Hp) (x y:V) (v u:Value) (Q:VK),Inv X pins σ H s->RelV x v->RelV y u->r x y H Q ->
  subscripted slice false v u=operate [v,u] (getItem v u)->wpAny (model X.prog X.w) X.A (subscriptTail value slice v u) (EP X pins σ Q) X.xe s
def MtR(X:Cx)(id:String)(r:V->List V->Hp->VK->Prop):Prop :=
 ∀ (pins:List (Addr×Obj)) (s:Shared) (σ:St) (H:Hp) (x:V) (xs:List V) (v:Value) (us:List Value) (Q:VK),Inv X pins σ H s->RelV x v->Vals xs us->r x xs H Q ->
  wpAny (model X.prog X.w) X.A (call (.builtin id) (v::us)) (EP X pins σ Q) X.xe s
section
variable {X:Cx}{a b:Expr}{ta tb:TE}{pos:Pos}
theorem IxR.or{r r':R2}(h:IxR X r)(h':IxR X r'):IxR X (fun x y H Q=>r x y H Q\/r' x y H Q):=by
 intro value slice pins s σ H x y v u Q I rx ry q hs;rcases q with q | q
 ·exact h value slice pins s σ H x y v u Q I rx ry q hs
 ·exact h' value slice pins s σ H x y v u Q I rx ry q hs
theorem MtR.or{id:String}{r r':V->List V->Hp->VK->Prop}(h:MtR X id r)(h':MtR X id r'):MtR X id (fun x xs H Q=>r x xs H Q\/r' x xs H Q):=by
 intro pins s σ H x xs v us Q I rx rs q;rcases q with q | q
 ·exact h pins s σ H x xs v us Q I rx rs q
 ·exact h' pins s σ H x xs v us Q I rx rs q
theorem Ys{r:R2}(hr:IxR X r)(ha:PE X a ta)(hb:PE X b tb)(hs:uN b):PE X (.Subscript a b pos) (D3 r ta tb):=by
 intro pins s σ H Q I h;exact Subscript_ (Nt ha hb I h fun v u s2 x y H2 I2 rx ry q=>hr a b pins s2 σ H2 x y v u Q I2 rx ry q (hs _ _))
def Dz(K:ac):R2:=fun x y H Q=>∃ p xs i v,x=.ref p/\y=.int i/\SqL K H p xs/\bR xs i=some v/\Q v H
def Ms(K:ac):R2:=fun x y H Q=>∃ p xs i v,x=.ref p/\y=.int i/\SqT K H p xs/\bR xs i=some v/\Q v H
def La:R2:=fun x y H Q=>∃ z i c,x=.str z/\y=.int i/\z.length<=sizeLine/\bR z.cps.toList i=some c/\Q (.str ⟨#[c]⟩) H
theorem Xp:IxR X (Dz X.K):=by
 intro value slice pins s σ H x y v u Q I rx ry h hs;obtain⟨p,xs,i,z,rfl,rfl,hq,he,q⟩:=h
 cases rx
 obtain⟨t,rfl⟩:=ry;obtain⟨its,r,pl,hz⟩:=I.list hq;obtain⟨j,h1,h2,h3,h4,h5⟩:=yE he;obtain⟨w,ew,rw'⟩:=r.get h2;have hl:=r.length
 have hn:=jX
 have fin:EP X pins σ Q w s:=⟨z,H,I,rw',q⟩
 by_cases h0:0<=i
 ·have hj:i.toNat=j:=by
   rw[seqIndex_of h0 h5]at h1;exact Option.some.inj h1
  exact item_listR pl.isList h0 (by omega) (by rw[hj];simpa using ew) fin hs
 ·have hj:(i+(its.toArray.size:Int)).toNat=j:=by
   rw[seqIndex_neg (by omega) h4]at h1
   rw[au,<- hl];exact Option.some.inj h1
  exact subscriptTail_builtinR (x:=w) pl.isList.typeIs slot_list_getitem.lookup
   (wpAny_getItem_list_neg (Q:=fun r s'=>r=w/\EP X pins σ Q r s') pl.isList (by omega) (by rw[au]<;>omega) (by omega) (by rw[hj];simpa using ew) ⟨rfl,fin⟩) hs
theorem Vd:IxR X (Ms X.K):=by
 intro value slice pins s σ H x y v u Q I rx ry h hs;obtain⟨p,xs,i,z,rfl,rfl,hq,he,q⟩:=h
 cases rx
 obtain⟨t,rfl⟩:=ry;obtain⟨its,r,pl,hz⟩:=I.tuple hq;obtain⟨j,h1,h2,h3,h4,h5⟩:=yE he;obtain⟨w,ew,rw'⟩:=r.get h2;have hl:=r.length
 have hn:=jX
 have fin:EP X pins σ Q w s:=⟨z,H,I,rw',q⟩
 exact subscriptTail_builtinR (x:=w) pl.typeIs slot_tuple_getitem.lookup
  (getItem_tuple (j:=j) (Q:=fun r s'=>r=w/\EP X pins σ Q r s') pl (by omega) (by omega) (by rw[au,<- hl];exact h1) (by simpa using ew) ⟨rfl,fin⟩) hs
theorem u9:IxR X La:=by
 intro value slice pins s σ H x y v u Q I rx ry h hs;obtain⟨z,i,c,rfl,rfl,hz,he,q⟩:=h;obtain⟨t,rfl⟩:=rx;obtain⟨t',rfl⟩:=ry;obtain⟨j,h1,h2,h3,h4,h5⟩:=yE he;have hl:z.cps.toList.length=z.length:=by simp[Str.length]
 rw[hl]at h1 h4 h5;have hn:=jX
 exact tail_any (typeIs_str s z t) slot_str_getitem.lookup (getItem_str (c:=c) (by
  have e1:decide (i < -(2^63:Int))=false:=decide_eq_false (by omega)
  have e2:decide (i ≥ 2^63)=false:=decide_eq_false (by omega)
  rw[e1,e2,Bool.or_false]) (by rw[h1];simpa using h2) ⟨.str ⟨#[c]⟩,H,I.tok _,⟨_,rfl⟩,q⟩) hs
def Um(K:ac):R2:=fun x y H Q=>Dz K x y H Q\/Ms K x y H Q\/La x y H Q
theorem Y7:IxR X (Um X.K):=Xp.or (Vd.or u9)
theorem G8(its:List Value)(n j:Nat)(u:Value):Obj.mapSeq (·.setIfInBounds j u) {cls:=.type "list",data:=.seq its.toArray n}={cls:=.type "list",data:=.seq (its.set j u).toArray n}:=by
 simp[Obj.mapSeq]
theorem Inv.lst{pins:List (Addr×Obj)}{σ:St}{H:Hp}{s:Shared}{p:Addr}{xs:List V}(I:Inv X pins σ H s)(h:H p=some (.lst xs)) :
  ∃ (its:List Value) (n:Nat),Vals xs its/\s.heap.get? p=some {cls:=.type "list",data:=.seq its.toArray n}/\xs.length<=sizeLine:=by
 obtain⟨z,its,n,r,e⟩:=I.hok p _ h;exact⟨its,n,r,e,z⟩
theorem Inv.lstUpd{pins:List (Addr×Obj)}{σ:St}{H:Hp}{s:Shared}{p:Addr}{xs ys:List V}{its its':List Value}{n n':Nat}{f:Obj->Obj}(I:Inv X pins σ H s)(h:H p=some (.lst xs))
  (ho:s.heap.get? p=some {cls:=.type "list",data:=.seq its.toArray n}) (hf:f {cls:=.type "list",data:=.seq its.toArray n}={cls:=.type "list",data:=.seq its'.toArray n'}) (r:Vals ys its') (hz:ys.length<=sizeLine) (t:Nat) :
  Inv X pins σ (upd H p (.lst ys)) {s with heap:=s.heap.update p f,toks:=t}:=by
 have e:(s.heap.update p f).get? p=some {cls:=.type "list",data:=.seq its'.toArray n'}:=by
  rw[Heap.get?_update_self f ho (by rw[hf]<;>rfl),hf]
 refine I.write (x:=p) (e:=p) (by rw[h];trivial) (.inl rfl) (fun b u hb q=>(Heap.get?_update_other _ _ (Ne.symm hb)).trans q) ⟨_,e⟩ ?_
 exact⟨hz,its',n',r,e⟩
def Vl:V->V->V->Hp->(Hp->Prop)->Prop:=fun o i v H Q=>∃ p xs k j,o=.ref p/\i=.int k/\H p=some (.lst xs)/\dQ xs.length k=some j/\Q (upd H p (.lst (xs.set j v)))
theorem Yr:Bp X Vl:=by
 intro pins s σ H o i v ov iv u Q I ro ri rv h;obtain⟨p,xs,k,j,rfl,rfl,hp,hj,q⟩:=h
 cases ro
 obtain⟨t,rfl⟩:=ri;obtain⟨its,n,r,ho,hz⟩:=I.lst hp;obtain⟨h1,h2,h3,h4⟩:=Sw hj;have hl:=r.length
 have hn:=jX
 have I':Inv X pins σ (upd H p (.lst (xs.set j v))) {s with heap:=s.heap.update p (Obj.mapSeq (·.setIfInBounds j u))} :=
  I.lstUpd hp ho (G8 its n j u) (r.set rv j) (by rw[List.length_set];exact hz) s.toks
 by_cases h0:0<=k
 ·have hk:k.toNat=j:=by
   rw[seqIndex_of h0 h4]at h1;exact Option.some.inj h1
  exact PySem.W.ki_setAt ho h0 (by omega) (by rw[au,<- hl];exact h4) (by rw[hk];exact⟨_,I',q⟩)
 ·have hk:(k+(its.toArray.size:Int)).toNat=j:=by
   rw[seqIndex_neg (by omega) h3]at h1
   rw[au,<- hl];exact Option.some.inj h1
  exact PySem.W.ki_setBack ho (by omega) (by rw[au,<- hl];exact h3) (by omega) (by rw[hk];exact⟨_,I',q⟩)
theorem Uo(lo hi:Option Int)(n:Nat):(sliceBounds lo hi none n).1=((HT.sIx n 0 lo:Nat):Int)/\(sliceBounds lo hi none n).2.1=((HT.sIx n n hi:Nat):Int)/\(sliceBounds lo hi none n).2.2=1:=by
 refine⟨?_,?_,rfl⟩
 ·cases lo with
  | none=>simp[sliceBounds,HT.sIx]
  | some i =>
   simp only[sliceBounds,HT.sIx,Option.getD_none,show(1:Int) > 0 by decide,if_true]
   by_cases h:i<0
   ·simp only[h,if_true]<;>omega
   ·simp only[h,if_false]<;>omega
 ·cases hi with
  | none=>simp[sliceBounds,HT.sIx]
  | some i =>
   simp only[sliceBounds,HT.sIx,Option.getD_none,show(1:Int) > 0 by decide,if_true]
   by_cases h:i<0
   ·simp only[h,if_true]<;>omega
   ·simp only[h,if_false]<;>omega
theorem Zv(its:List Value)(lo hi:Option Int):slicePick its.toArray lo hi none=((its.drop (HT.sIx its.length 0 lo)).take (HT.sIx its.length its.length hi-HT.sIx its.length 0 lo)).toArray:=by
 obtain⟨h1,h2,h3⟩:=Uo lo hi its.toArray.size;unfold slicePick;rw[h1,h2,h3];simp only[sliceRange_one,pick_run,au]<;>rfl
def AD(K:ac):V->Option Int->Option Int->Hp->VK->Prop:=fun x lo hi H Q=>∃ a xs,x=.ref a/\SqL K H a xs/\∀ p,H p=none->Q (.ref p) (upd H p (.lst (iD xs lo hi)))
theorem k6:SlR X (AD X.K):=by
 intro pins s σ H x v vl vu lo hi sl Q I rx hs pl pu h;obtain⟨a,xs,rfl,hx,q⟩:=h
 cases rx
 obtain⟨its,r,ht,hz⟩:=I.list hx;have hlen:=r.length
 refine⟨"list",_,slot_list_getitem.lookup,ht.isList.typeIs,?_⟩;refine wpAny_getItem_list_slice ht.isList hs pl pu .none (by simp) ?_ (by rw[au]<;>omega)
 rw[Zv,<- hlen];refine⟨.ref s.heap.objs.size,_,I.laid (t':=s.toks) (o:=.lst (iD xs lo hi)) (fun b ob q=>ag _ q) (aj _) ?_,rfl,q _ (I.hok.fresh (aj _))⟩;exact⟨Nat.le_trans (Bh xs lo hi) hz,_,0,(r.drop (HT.sIx xs.length 0 lo)).take (HT.sIx xs.length xs.length hi-HT.sIx xs.length 0 lo),ah _ rfl⟩
def fW:V->Bool
 | .non=>true
 | .bl _=>true
 | .int _=>true
 | .str _=>true
 | _=>false
def kA:V->V->Bool
 | .non,.non=>true
 | .bl a,.bl b=>a==b
 | .bl a,.int b=>(if a then 1 else 0)==b
 | .int a,.bl b=>a==(if b then 1 else 0)
 | .int a,.int b=>a==b
 | .str a,.str b=>a==b
 | _,_=>false
theorem Xx{A:Around}{s:Shared}{y x:V}{u v:Value}(ry:RelV y u)(rx:RelV x v)(fy:fW y=true)(fx:fW x=true):SeqAt.EqAt A s u v (kA y x):=by
 cases y with
 | non =>
  cases ry
  cases x with
  | non=>cases rx;exact SeqAt.EqAt.same _
  | bl b=>cases rx;exact SeqAt.EqAt.none_bool b
  | int b=>obtain⟨t,rfl⟩:=rx;exact SeqAt.EqAt.none_int b t
  | str b=>obtain⟨t,rfl⟩:=rx;exact SeqAt.EqAt.none_str b t
  | _=>exact absurd (show false=true from fx) ak
 | bl a =>
  cases ry
  cases x with
  | non=>cases rx;exact SeqAt.EqAt.bool_none a
  | bl b=>cases rx;exact SeqAt.EqAt.bool_bool a b
  | int b=>obtain⟨t,rfl⟩:=rx;exact SeqAt.EqAt.bool_int a b t
  | str b=>obtain⟨t,rfl⟩:=rx;exact SeqAt.EqAt.bool_str a b t
  | _=>exact absurd (show false=true from fx) ak
 | int a =>
  obtain⟨t',rfl⟩:=ry
  cases x with
  | non=>cases rx;exact SeqAt.EqAt.int_none a t'
  | bl b=>cases rx;exact SeqAt.EqAt.int_bool a t' b
  | int b=>obtain⟨t,rfl⟩:=rx;exact SeqAt.EqAt.int_int a t' b t
  | str b=>obtain⟨t,rfl⟩:=rx;exact SeqAt.EqAt.int_str a t' b t
  | _=>exact absurd (show false=true from fx) ak
 | str a =>
  obtain⟨t',rfl⟩:=ry
  cases x with
  | non=>cases rx;exact SeqAt.EqAt.str_none a t'
  | bl b=>cases rx;exact SeqAt.EqAt.str_bool a t' b
  | int b=>obtain⟨t,rfl⟩:=rx;exact SeqAt.EqAt.str_int a t' b t
  | str b=>obtain⟨t,rfl⟩:=rx;exact SeqAt.EqAt.str_str a t' b t
  | _=>exact absurd (show false=true from fx) ak
 | _=>exact absurd (show false=true from fy) ak
def eL(x:V)(u:Value):Bool:=match u with
 | .none=>kA .non x
 | .bool b=>kA (.bl b) x
 | .int i _=>kA (.int i) x
 | .str z _=>kA (.str z) x
 | _=>false
theorem Ty{x y:V}{u:Value}(r:RelV y u)(f:fW y=true):eL x u=kA y x:=by
 cases y with
 | non=>cases r;rfl
 | bl b=>cases r;rfl
 | int i=>obtain⟨t,rfl⟩:=r;rfl
 | str z=>obtain⟨t,rfl⟩:=r;rfl
 | _=>exact absurd (show false=true from f) ak
theorem nV{x:V}:∀ {xs:List V} {us:List Value},Vals xs us->xs.all fW=true->us.any (eL x)=xs.any fun y=>kA y x
 | _,_,.nil,_=>rfl
 | y::xs,u::us,.cons r t,f=>by
  rw[List.all_cons,Bool.and_eq_true]at f;rw[List.any_cons,List.any_cons,Ty r f.1,nV t f.2]
theorem kE{A:Around}{s:Shared}{x:V}{v:Value}(rx:RelV x v)(fx:fW x=true):∀ {xs:List V} {us:List Value},Vals xs us->xs.all fW=true->∀ u∈us,SeqAt.EqAt A s u v (eL x u)
 | _,_,.nil,_=>fun u hu=>by cases hu
 | y::xs,u::us,.cons r t,f=>fun u' hu=>by
  rw[List.all_cons,Bool.and_eq_true]at f;rcases List.mem_cons.mp hu with rfl | hu
  ·rw[Ty r f.1];exact Xx r rx f.1 fx
  ·exact kE rx fx t f.2 u' hu
def jA(x:V)(xs:List V):Bool:=xs.any fun y=>kA y x
def Ff(K:ac)(neg:Bool):R2:=fun x y H Q=>∃ p xs,y=.ref p/\(SqL K H p xs\/SqT K H p xs)/\fW x=true/\xs.all fW=true/\Q (.bl (if neg then !jA x xs else jA x xs)) H
theorem kW:OpR X (compareOp .In) (Ff X.K false):=by
 intro pins s σ H x y v u Q I rx ry h;obtain⟨p,xs,rfl,hq,fx,fs,q⟩:=h
 cases ry
 rcases hq with hq | hq
 ·obtain⟨its,r,pl,hz⟩:=I.list hq;refine SeqAt.in_listAt (eL x) pl.isList (fun w hw=>kE rx fx r fs w (by simpa using hw)) ⟨.bl _,H,I,rfl,?_⟩
  rw[show its.toArray.any (eL x)=its.any (eL x) by simp,nV r fs]
  exact q
 ·obtain⟨its,r,pl,hz⟩:=I.tuple hq;refine SeqAt.in_tupleAt (eL x) pl (fun w hw=>kE rx fx r fs w (by simpa using hw)) ⟨.bl _,H,I,rfl,?_⟩
  rw[show its.toArray.any (eL x)=its.any (eL x) by simp,nV r fs]
  exact q
theorem lA:OpR X (compareOp .NotIn) (Ff X.K true):=by
 intro pins s σ H x y v u Q I rx ry h;obtain⟨p,xs,rfl,hq,fx,fs,q⟩:=h
 cases ry
 rcases hq with hq | hq
 ·obtain⟨its,r,pl,hz⟩:=I.list hq;refine SeqAt.notIn_listAt (eL x) pl.isList (fun w hw=>kE rx fx r fs w (by simpa using hw)) ⟨.bl _,H,I,rfl,?_⟩
  rw[show its.toArray.any (eL x)=its.any (eL x) by simp,nV r fs]
  exact q
 ·obtain⟨its,r,pl,hz⟩:=I.tuple hq;refine SeqAt.notIn_tupleAt (eL x) pl (fun w hw=>kE rx fx r fs w (by simpa using hw)) ⟨.bl _,H,I,rfl,?_⟩
  rw[show its.toArray.any (eL x)=its.any (eL x) by simp,nV r fs]
  exact q
theorem vQ:CallR X (.builtin "len") (fun xs H Q=>∃ p ys,xs=[.ref p]/\(SqL X.K H p ys\/SqT X.K H p ys)/\Q (.int ys.length) H):=by
 intro pins s σ H xs us Q I r h;obtain⟨p,ys,rfl,hq,q⟩:=h;obtain⟨u,rfl,rx⟩:=eD r
 cases rx
 have hn:=jX
 rcases hq with hq | hq
 ·obtain⟨its,r',pl,hz⟩:=I.list hq;have hlen:=r'.length
  exact Calls.call_len_list pl.isList (by simp only[au]<;>omega) ⟨.int ys.length,H,I.tok _,⟨s.toks+1,by rw[au,hlen]⟩,q⟩
 ·obtain⟨its,r',pl,hz⟩:=I.tuple hq;have hlen:=r'.length
  exact len_tuple pl (by simp only[au]<;>omega) ⟨.int ys.length,H,I.tok _,⟨s.toks+1,by rw[au,hlen]⟩,q⟩
theorem Uw:CallR X (.builtin "len") (fun xs H Q=>∃ z,xs=[.str z]/\z.length<=sizeLine/\Q (.int z.length) H):=by
 intro pins s σ H xs us Q I r h;obtain⟨z,rfl,hz,q⟩:=h;obtain⟨u,rfl,t,rfl⟩:=eD r;have hn:=jX
 exact len_str (by omega) ⟨.int z.length,H,I.tok _,⟨_,rfl⟩,q⟩
theorem CallR.or{f:Value}{r r':List V->Hp->VK->Prop}(h:CallR X f r)(h':CallR X f r'):CallR X f (fun xs H Q=>r xs H Q\/r' xs H Q):=by
 intro pins s σ H xs us Q I rs q;rcases q with q | q
 ·exact h pins s σ H xs us Q I rs q
 ·exact h' pins s σ H xs us Q I rs q
theorem Tp:CallR X (.type "list") (fun xs H Q=>∃ p ys,xs=[.ref p]/\(SqL X.K H p ys\/SqT X.K H p ys)/\∀ l,H l=none->Q (.ref l) (upd H l (.lst ys))):=by
 intro pins s σ H xs us Q I r h;obtain⟨p,ys,rfl,hq,q⟩:=h;obtain⟨u,rfl,rx⟩:=eD r
 cases rx
 have fin:∀ (its:List Value),Vals ys its->ys.length<=sizeLine->∀ (h':Heap) (c':Nat),(∀ b o',s.heap.get? b=some o'->h'.get? b=some o') ->
   h'.get? s.heap.objs.size=some {cls:=.type "list",dict:=none,data:=.seq its.toArray c',slots:=#[]}->EP X pins σ Q (.ref s.heap.objs.size) {s with heap:=h'}:=fun its r' hz h' c' kp e =>
  ⟨.ref s.heap.objs.size,_,I.laid (t':=s.toks) kp (aj _) (show ObjOk X.prog X.w _ h' _ (.lst ys) from⟨hz,its,c',r',e⟩),rfl,q _ (I.hok.fresh (aj _))⟩
 rcases hq with hq | hq
 ·obtain⟨its,r',pl,hz⟩:=I.list hq;have hlen:=r'.length
  obtain⟨o,ho,hc,n,hd⟩:=pl.isList;exact call_list_seq p (.inl rfl) ho hc hd (fun h' c' kp e=>fin its r' hz h' c' kp e) (by simp only[au]<;>omega)
 ·obtain⟨its,r',pl,hz⟩:=I.tuple hq;have hlen:=r'.length
  obtain⟨o,ho,hc,n,hd⟩:=pl;exact call_list_seq p (.inr rfl) ho hc hd (fun h' c' kp e=>fin its r' hz h' c' kp e) (by simp only[au]<;>omega)
theorem tZ:CallR X (.type "tuple") (fun xs H Q=>∃ p ys,xs=[.ref p]/\((SqL X.K H p ys/\∀ l,H l=none->Q (.ref l) (upd H l (.tup ys)))\/(SqT X.K H p ys/\Q (.ref p) H))):=by
 intro pins s σ H xs us Q I r h;obtain⟨p,ys,rfl,h⟩:=h;obtain⟨u,rfl,rx⟩:=eD r
 cases rx
 rcases h with⟨hq,q⟩ | ⟨hq,q⟩
 ·obtain⟨its,r',pl,hz⟩:=I.list hq;have hlen:=r'.length
  refine call_tuple_list pl.isList (fun h' kp=>?_) (by simp only[au]<;>omega)
  have I1:Inv X pins σ H {s with heap:=h'}:=I.kept (t':=s.toks) kp
  have I2:Inv X pins σ (upd H h'.objs.size (.tup ys)) {s with heap:=h'.push {cls:=.type "tuple",data:=.seq its.toArray}} :=
   I1.laid (t':=s.toks) (fun b o e=>ag _ e) (aj _) (show ObjOk X.prog X.w _ _ _ (.tup ys) from⟨⟨hz,NoD.new _ _ _⟩,its,r',IsTup.new _ _⟩)
  exact⟨.ref h'.objs.size,_,I2,rfl,q _ (I1.hok.fresh (aj _))⟩
 ·obtain⟨its,r',pl,hz⟩:=I.tuple hq;exact call_tuple_same pl ⟨.ref p,H,I,rfl,q⟩
def wN(K:ac)(T:String)(x:V)(H:Hp):Prop:=match x with
 | .str _=>T="str"
 | .int _=>T="int"
 | .ref p=>(T="list"/\∃ xs,SqL K H p xs)\/(T="tuple"/\∃ o,K.lookup p=some o/\o.cls=.type "tuple"/\o.dict=none) \/
   (T="dict"/\((∃ kvs,H p=some (.dK kvs))\/∃ kvs,H p=some (.dT kvs)))\/(T="set"/\∃ S n,H p=some (.set S n))
 | _=>False
theorem Rt{pins:List (Addr×Obj)}{σ:St}{H:Hp}{s:Shared}{T:String}{x:V}{v:Value}(I:Inv X pins σ H s)(r:RelV x v)(ty:wN X.K T x H) :
  s.TypeIs v T/\∀ a,v=.ref a->∃ ob,s.heap.get? a=some ob/\ob.dict=none:=by
 cases x with
 | str z =>
  obtain⟨t,rfl⟩:=r
  cases (show T="str" from ty)
  exact⟨typeIs_str s z t,fun _ e=>nomatch e⟩
 | int i =>
  obtain⟨t,rfl⟩:=r
  cases (show T="int" from ty)
  exact⟨typeIs_int s i t,fun _ e=>nomatch e⟩
 | ref p =>
  cases r
  rcases ty with⟨rfl,xs,hq⟩ | ⟨rfl,o,hk,hc,hd⟩ | ⟨rfl,hk⟩ | ⟨rfl,S,n,hk⟩
  ·obtain⟨its,_,pl,_⟩:=I.list hq;refine⟨pl.isList.typeIs,fun a e=>?_⟩
   cases e
   obtain⟨o,n,e,c,hd,_⟩:=pl;exact⟨o,e,hd⟩
  ·refine⟨⟨o,I.kIn p o hk,hc⟩,fun a e=>?_⟩
   cases e
   exact⟨o,I.kIn _ o hk,hd⟩
  ·have z:∃ o,s.heap.get? p=some o/\o.ExactDict:=by
    rcases hk with⟨kvs,hk⟩ | ⟨kvs,hk⟩
    ·obtain⟨_,_,_,_,o,_,_,e,ex,_⟩:=I.hok p _ hk;exact⟨o,e,ex⟩
    ·obtain⟨_,_,_,_,o,_,_,e,ex,_⟩:=I.hok p _ hk;exact⟨o,e,ex⟩
   obtain⟨o,e,ex⟩:=z;refine⟨⟨o,e,ex.1⟩,fun a e2=>?_⟩
   cases e2
   exact⟨o,e,ex.2.1⟩
  ·obtain⟨o,_,_,_,e,ex,_⟩:=I.hok p _ hk;refine⟨⟨o,e,ex.1⟩,fun a e2=>?_⟩
   cases e2
   exact⟨o,e,ex.2.1⟩
 | _=>exact False.elim ty
def ES(K:ac)(T:String)(r:V->List V->Hp->VK->Prop)(to:TE):TE:=fun σ H Q=>to σ H fun x H1=>wN K T x H1/\r x [] H1 Q
def T2(K:ac)(T:String)(r:V->List V->Hp->VK->Prop)(to:TE)(t:TA):TE:=fun σ H Q=>to σ H fun x H1=>wN K T x H1/\t σ H1 fun xs H2=>r x xs H2 Q
variable {o e:Expr}{es:List Expr}{to:TE}{t:TA}{name:Str}{apos cpos:Pos}{T id:String}{r:V->List V->Hp->VK->Prop}
theorem D5(pa:PlainAttrs T)(slot:Slot T name id)(hty:typeOf (.builtin id)=pure (.type "method_descriptor"))(hm:MtR X id r)(ho:PE X o to)
  (hbase:attributeBase o name X.env (eval o X.env)=eval o X.env:=by rfl) (hline:(apos.endLine==cpos.line)=true:=by rfl):PE X (.Call (.Attribute o name apos) [] [] cpos) (ES X.K T r to):=by
 intro pins s σ H Q I h;refine wpAny_Call_method0_late hbase hline (aP (ho pins s σ H _ I h) fun v s1 ⟨x,H1,I1,r1,ty,q1⟩=>?_);obtain⟨h1,h2⟩:=Rt I1 r1 ty;exact⟨T,id,pa,slot,hty,h1,h2,Calls.callWith_builtin rfl (PySem.evalArgs_none (hm pins s1 σ H1 x [] v [] Q I1 r1 .nil q1))⟩
theorem wZ(pa:PlainAttrs T)(slot:Slot T name id)(hty:typeOf (.builtin id)=pure (.type "method_descriptor"))(hm:MtR X id r)(ho:PE X o to)(ha:PA X (e::es) t)
  (hbase:attributeBase o name X.env (eval o X.env)=eval o X.env:=by rfl)
  (hfew:((backTo cpos (starEach (e::es) X.env)).all (fun x=>!x.1)&&(backToKw cpos (keywordEach [] X.env)).all (fun x=>x.1.isSome)
   && decide ((e::es).length+([]:List Keyword).length+(if ([]:List Keyword).isEmpty then 0 else 1)<30))=true:=by rfl)
  (hline:(apos.endLine==cpos.line)=true:=by rfl) (hs:starEach (e::es) X.env=(false,eval e X.env)::starEach es X.env:=by rfl) (hplain:(backTo cpos (starEach es X.env)).any (·.1)=false:=by rfl) :
  PE X (.Call (.Attribute o name apos) (e::es) [] cpos) (T2 X.K T r to t):=by
 intro pins s σ H Q I h;refine wpAny_Call_method_late hbase hfew hline rfl (aP (ho pins s σ H _ I h) fun v s1 ⟨x,H1,I1,r1,ty,q1⟩=>?_);obtain⟨h1,h2⟩:=Rt I1 r1 ty;refine⟨T,id,pa,slot,hty,h1,h2,?_⟩;have hA:=ha cpos pins s1 σ H1 _ I1 q1
 rw[hs]at hA ⊢;refine Calls.callWith_builtin (by show(false||(backTo cpos (starEach es X.env)).any (·.1))=false;rw[hplain]<;>rfl) (Calls.evalArgs_plain ?_)
 exact aP hA fun us s2 ⟨vs,H2,I2,r2,q2⟩=>hm pins s2 σ H2 x vs v us Q I2 r1 r2 q2
end
end L2
namespace L2
open PySem PySem.Spec PyProof.Rows
def Lh(X:Cx)(id:String)(r:V->List V->Hp->VK->Prop):Prop :=
 ∀ (pins:List (Addr×Obj)) (s:Shared) (σ:St) (H:Hp) (x:V) (xs:List V) (v:Value) (us:List Value) (Q:VK),Inv X pins σ H s->RelV x v->Vals xs us->r x xs H Q ->
  wpAny (model X.prog X.w) X.A (call (.builtin id) (v::us)) (EP X pins σ Q) X.xe s
theorem Vals.one:∀ {x:V} {us:List Value},Vals [x] us->∃ u,us=[u]/\RelV x u
 | _,_,.cons r .nil=>⟨_,rfl,r⟩
theorem Vals.two:∀ {x y:V} {us:List Value},Vals [x,y] us->∃ u v,us=[u,v]/\RelV x u/\RelV y v
 | _,_,_,.cons r (.cons q .nil)=>⟨_,_,rfl,r,q⟩
theorem Vals.zero:∀ {us:List Value},Vals [] us->us=[]
 | _,.nil=>rfl
theorem Vals.reverse{xs:List V}{us:List Value}(h:Vals xs us):Vals xs.reverse us.reverse:=by
 induction h with
 | nil=>exact .nil
 | cons r t ih=>rw[List.reverse_cons,List.reverse_cons];exact Vals.append ih (.cons r .nil)
theorem Vals.rep{xs:List V}{us:List Value}(h:Vals xs us):∀ k:Nat,Vals (List.replicate k xs).flatten (List.replicate k us).flatten
 | 0=>.nil
 | k+1=>by
  rw[List.replicate_succ,List.replicate_succ,List.flatten_cons,List.flatten_cons];exact Vals.append h (Vals.rep h k)
section
variable {X:Cx}{pins:List (Addr×Obj)}{σ:St}{H:Hp}{s:Shared}{l b:Addr}{xs ys zs:List V}
theorem Inv.lset{its its':List Value}{n:Nat}{f:Array Value->Array Value}{t':Nat}(I:Inv X pins σ H s)(hH:H l=some (.lst xs))
  (e:s.heap.get? l=some {cls:=.type "list",data:=.seq its.toArray n}) (hf:f its.toArray=its'.toArray) (hv:Vals ys its') (hz:ys.length<=sizeLine) :
  Inv X pins σ (upd H l (.lst ys)) {s with heap:=s.heap.update l (Obj.mapSeq f),toks:=t'}:=by
 have q:=PySem.IsL.update e f
 rw[hf]at q;refine I.write (x:=l) (e:=l) (by rw[hH];exact trivial) (.inl rfl) (fun b' u hb hu=>(Heap.get?_update_other s.heap (Obj.mapSeq f) (Ne.symm hb)).trans hu) ⟨_,q⟩ ?_
 exact⟨hz,its',_,hv,q⟩
theorem Inv.lnew{its:List Value}{t':Nat}(I:Inv X pins σ H s)(hv:Vals ys its)(hz:ys.length<=sizeLine) :
  Inv X pins σ (upd H s.heap.objs.size (.lst ys)) {s with heap:=s.heap.push {cls:=.type "list",data:=.seq its.toArray},toks:=t'} :=
 I.laid (fun _ _ q=>ag _ q) (aj _) ⟨hz,its,0,hv,ah _ rfl⟩
theorem Inv.fresh(I:Inv X pins σ H s):H s.heap.objs.size=none:=I.hok.fresh (aj _)
theorem Inv.lstM(I:Inv X pins σ H s)(hH:H l=some (.lst xs)):xs.length<=sizeLine/\∃ (its:List Value) (n:Nat),Vals xs its/\xs.length=its.length/\s.heap.get? l=some {cls:=.type "list",data:=.seq its.toArray n}:=by
 obtain⟨z,its,n,r,e⟩:=I.hok l _ hH;exact⟨z,its,n,r,r.length,e⟩
end
section
variable {X:Cx}
def Yk:V->List V->Hp->VK->Prop:=fun x vs H Q=>∃ l xs y,x=.ref l/\vs=[y]/\H l=some (.lst xs)/\xs.length<sizeLine/\Q .non (upd H l (.lst (xs++[y])))
theorem vE:Lh X "list.append" Yk:=by
 intro pins s σ H x vs v us Q I rx rv h;obtain⟨l,xs,y,rfl,rfl,hH,hz,q⟩:=h
 cases rx
 obtain⟨u,rfl,ru⟩:=rv.one;obtain⟨z,its,n,r,hl,e⟩:=I.lstM hH;refine call_meets F.slot_list_append ⟨_,e,rfl⟩ F.entry_list_append (F.args_list_append_2 _ _) (PySem.list_append l its.toArray n u (by rw[au];omega)) ⟨e,?_⟩
 refine⟨.non,_,I.lset (its':=its++[u]) hH e (by simp) (r.append (.cons ru .nil)) ?_,rfl,q⟩
 rw[List.length_append,List.length_singleton];omega
def HA:V->List V->Hp->VK->Prop:=fun x vs H Q=>∃ l xs,x=.ref l/\vs=[]/\H l=some (.lst xs)/\Q .non (upd H l (.lst []))
theorem Vh:Lh X "list.clear" HA:=by
 intro pins s σ H x vs v us Q I rx rv h;obtain⟨l,xs,rfl,rfl,hH,q⟩:=h
 cases rx
 have hus:=rv.zero
 subst hus;obtain⟨z,its,n,r,hl,e⟩:=I.lstM hH;refine call_meets F.slot_list_clear ⟨_,e,rfl⟩ F.entry_list_clear (F.args_list_clear_1 _) (AutoSeq1.list_clear_list_0 l its.toArray n (by rw[au];omega)) ⟨e,?_⟩
 exact⟨.non,_,I.lset (its':=[]) (ys:=[]) hH e rfl .nil (Nat.zero_le _),rfl,q⟩
end
end L2
namespace Att
open PySem PySem.W PySem.Calls PyProof.Rows
theorem G4{P:Params}{h:Heap}:∀ (ns:List Int) (vs:List Value),WellAll P h vs (ns.map WData.int)->IntsAre vs ns:=by
 intro ns
 induction ns with
 | nil =>
  intro vs w;rw[List.map_nil]at w
  cases w
  exact .nil
 | cons n ns ih =>
  intro vs w;rw[aq]at w
  cases w with
  | cons a b =>
   cases a
   exact .cons _ _ (ih _ b)
theorem EC{l:OpenLaw}{n:Nat}(hn:l.most=some n){P:Params}{h:Heap}{args:List WData}{vals:List Value}
  (hpre:l.row.toRowW.claim.pre args=true) (hwl:WellAll P h vals args) :
  ∃ a vs ns,vals=[Value.ref a]/\args=[WData.list (ns.map WData.int)]/\h.get? a=some {cls:=.type "list",data:=.seq vs.toArray}/\IntsAre vs ns/\ns.length<=n:=by
 have hsh:WShape.hasAll [] args [.list .int]=true:=(pre_splitW hpre).1
 have hc:l.pre.holds [] {args:=args}=true:=(pre_splitW hpre).2
 obtain⟨d,r,rfl,h1,h2⟩:=hasAllW_cons hsh;obtain rfl:=hasAllW_nil h2;obtain⟨xs,rfl,h3⟩:=hasW_list h1;obtain⟨ns,rfl⟩:=items_int h3;have hlen:ns.length<=n:=by
  unfold OpenLaw.pre at hc;have h4:(WTm.not (.lt (.lit (.int (n:Int))) (.len (.arg 0)))).holds [] {args:=[.list (ns.map .int)]}=true:=by
   have h4:=(holds_andW hc).1
   rw[hn]at h4;exact h4
  have h5:=condW_of h4 (w_not (w_lt w_lit (w_len_list (w_arg rfl))))
  rw[ar]at h5;refine Nat.le_of_not_lt fun q=>?_;have q':(n:Int)<((ns.length:Nat):Int):=by omega
  first
   | (rw[decide_eq_true q']at h5;exact absurd h5 (by decide))
   | (simp at h5;omega)
 cases hwl with
 | cons w1 w2 =>
  cases w2
  cases w1 with
  | list ho hall=>exact⟨_,_,ns,rfl,rfl,ho,G4 ns _ hall,hlen⟩
theorem b5(l:OpenLaw)(args:List WData):l.row.toRowW.claim.post args (.bool true) args=true :=
 postW_of (r:=l.row.toRowW) (X:=(true==true))
  (show WShape.has [] (.bool true) .bool=true by first | rfl | decide | simp[WShape.has,WShape.arms,WShape.armsAll])
  (show(WTm.eq .res (.lit (.bool true))).value [] {args:=args,res:=some (.bool true),after:=args}=some (.bool (true==true)) from w_eq_bool (w_res rfl) w_lit) rfl
theorem attach_call{l:OpenLaw}{n:Nat}{q:Program}{loose:List Str}{XP:(Str->Option Value)->Heap->Prop}{YP:World->Heap->Prop}{d:DefRec}
  (hn:l.most=some n) (hdf:d.params.defaults=[])
  (call:∀ (w:World) (s₀ s₁:Shared) (mg mb:Str->Option Value) (fa:Addr) (o:Obj) (pm cd doc:Value) (a:Addr) (vs:List Value) (ns:List Int),
   Ground q loose [] XP w s₀ mg mb s₁.heap->YP w s₁.heap ->
   s₁.heap.get? fa=some o->o.data=.func (docDef d.name d.params d.body d.scope pm cd doc)->s₁.heap.CodeRec cd d.name->mg d.name=some (.ref fa) ->
   s₁.heap.get? a=some {cls:=.type "list",data:=.seq vs.toArray}->IntsAre vs ns->ns.length<=n->s₁.gens=#[] ->
   codeAny (model l.prog w) callerA (.call (.ref fa) ⟨[.ref a],[]⟩) (fun r s'=>r=.ok (.ret (.bool true))/\OldK s₁.heap s'.heap/\s'.os=s₁.os/\AllBare s'.gens) s₁) :
  WalkO q loose XP YP l.row.toRowW d [] (fun f vs=>PySem.call f vs):=by
 intro w s₀ s₁ mg mb G Y fa o pm cd doc dV kV ho hd hcd hD hmg hg args vals as hpre hlay hrd hwl hlo;obtain rfl:dV=.none:=Dflts.none hD hdf;obtain rfl:kV=.none:=Dflts.noKw hD;obtain⟨a,vs,ns,rfl,rfl,hobj,hints,hlen⟩:=EC hn hpre hwl;refine enter_call (codeAny_mono (call w s₀ s₁ mg mb fa o pm cd doc a vs ns G Y ho (fd_plain hd) hcd hmg hobj hints hlen hg) fun r s' hq=>?_);obtain⟨rfl,h2,h3,h4⟩:=hq;exact⟨.inl ⟨.bool true,.bool true,[],rfl,fun _=>rfl,.bool true,b5 l _,fun _=>⟨List.Pairwise.nil,fun _ hm=>(nomatch hm)⟩⟩,h2,h3,h4⟩
end Att
namespace L2
open PySem PySem.Spec PyProof.Rows
theorem oE:∀ {vs:List Value} {ns:List Int},IntsAre vs ns->Vals (ns.map V.int) vs
 | _,_,.nil=>.nil
 | _,_,.cons n t h=>.cons ⟨t,rfl⟩ (oE h)
def uI(H:Hp):Prop:=∀ b,H b=none\/∃ o xs,H b=some (.frz o (.lst xs))
theorem Ug{P:Program}{w:World}{K:ac}{mg mb:Str->Option Value}{CX:gL}{k:Nat}{fa a:Addr}{fd:FuncData}{x:Str}{sp:Sp}{s₁:Shared}{vs:List Value}{ns:List Int}
  (KX:K.In s₁.heap) (hns:s₁.heap.Ns mainGlobals mg) (hb:s₁.heap.Ns builtinsNs mb) (hbb:∀ x:Str,x≠"__name__"->mb x=bootBuiltins x) (hlim:s₁.heap.NoLimit) (hg:s₁.gens=#[])
  (ha:s₁.heap.get? a=some {cls:=.type "list",data:=.seq vs.toArray}) (hi:IntsAre vs ns) (hl:ns.length<=sizeLine) (hr:Room k callerA)
  (F:∀ base:Heap,K.In base->base.Ns mainGlobals mg->FnOk P w K mg base CX k fa fd [x] sp) (hbind:∀ (s:Shared) (u:Value),BindsTo s fd ⟨[u],[]⟩ [(x,u)])
  (hsp:∀ H:Hp,uI H->SqL K H a (ns.map V.int)->sp [.ref a] H (fun v _=>v=.bl true) fun _ _ _=>False)
  (hCX:∀ H e s',CX [] H s₁ (fun _ _ _=>False) e s'->False) :
  codeAny (model P w) callerA (.call (.ref fa) ⟨[.ref a],[]⟩) (fun r s'=>r=.ok (.ret (.bool true))/\OldK s₁.heap s'.heap/\s'.os=s₁.os/\AllBare s'.gens) s₁:=by
 have rv:=oE hi
 have lenV:=hi.length
 -- from an abstract heap in which nothing but the script may be tracked
 have core:∀ H:Hp,uI H->SqL K H a (ns.map V.int)->HOk P w H s₁.heap->(∀ b,H b≠none->b=a)->(H a≠none->K.lookup a=none) ->
   codeAny (model P w) callerA (.call (.ref fa) ⟨[.ref a],[]⟩) (fun r s'=>r=.ok (.ret (.bool true))/\OldK s₁.heap s'.heap/\s'.os=s₁.os/\AllBare s'.gens) s₁:=by
  intro H hO hS hok hA hK;have base_of:∀ {b:Addr} {o:Obj},s₁.heap.get? b=some o->H b=none->(iP s₁.heap H).get? b=some o:=fun e n=>y8 e n
  have noA:∀ {b:Addr} {o:Obj} {es:Array DictEntry} {ep:Nat},s₁.heap.get? b=some o->o.data=.dict es ep->H b=none:=fun {b o es ep} e d=>by
   cases q:H b with
   | none=>rfl
   | some u =>
    have e':b=a:=hA b (by rw[q];simp)
    subst e';rw[ha]at e;cases e;have d':Data.seq vs.toArray _=Data.dict es ep:=d
    cases d'
  have nsK:∀ {b:Addr} {m:Str->Option Value},s₁.heap.Ns b m->(iP s₁.heap H).Ns b m:=fun {b m} ⟨o,es,ep,e,d,r⟩=>⟨o,es,ep,base_of e (noA e d),d,r⟩
  have hKb:K.In (iP s₁.heap H):=fun b o e=>base_of (KX b o e) (by
   cases q:H b with
   | none=>rfl
   | some u =>
    have e':b=a:=hA b (by rw[q];simp)
    subst e';rw[hK (by rw[q];simp)]at e;cases e)
  have hM:Mod K mg (iP s₁.heap H):=⟨hKb,nsK hns,⟨mb,nsK hb,hbb⟩,let ⟨mc,h1,h2⟩:=hlim;⟨mc,nsK h1,h2⟩⟩
  have e0:Env0 P w K mg (iP s₁.heap H) callerA [] s₁ H:=⟨rfl,hM,fun b o e=>DF e,Nat.le_of_eq (DV _ _),trivial,fun b hb=>absurd (show b∈([]:List Addr) from hb) (by simp),hok,.of_eq hg⟩
  refine codeAny_mono ((F _ hKb (nsK hns)).run callerA [] s₁ H ⟨[.ref a],[]⟩ [.ref a] [.ref a] _ _ hr e0 (hbind s₁ (.ref a)) (.cons rfl .nil) (hsp H hO hS)) fun r s' h=>?_
  cases r with
  | error e=>exact(hCX H e s' h).elim
  | ok fl =>
   cases fl with
   | next=>exact False.elim h
   | brk=>exact False.elim h
   | cont=>exact False.elim h
   | ret u =>
    obtain⟨v,H',os,bare,un,hok',r',q⟩:=h;have q':v=.bl true:=q
    subst q';obtain rfl:u=Value.bool true:=r';refine⟨rfl,OldK.of_keep fun b o e=>?_,os,bare⟩
    cases q:H b with
    | none=>exact un.keep b o e q (by intro z;exact absurd (show b∈([]:List Addr) from z) (by simp)) (by simp)
    | some u =>
     rcases hO b with z | ⟨ob,xs,z⟩
     ·rw[q]at z;cases z
     ·have z2:=un.frzs b ob _ z
      obtain⟨e1,_⟩:=hok b _ z;obtain⟨e2,_⟩:=hok' b _ z2;rw[e]at e1;cases e1;exact e2
 cases hk:K.lookup a with
 | some o =>
  -- the script is one of the module's own objects
  have e:=KX a o hk
  rw[ha]at e
  cases e
  refine core (fun _=>none) (fun _=>.inl rfl) (.inr ⟨_,vs.toArray,_,hk,rfl,rfl,rfl,by rw[au,lenV];exact hl,by simpa using rv⟩) (fun b u z=>by have z':(none:Option HO)=some u:=z;cases z') (fun b z=>absurd rfl z) fun z=>absurd rfl z
 | none =>
  refine core (fun b=>if b=a then some (.frz {cls:=.type "list",data:=.seq vs.toArray} (.lst (ns.map V.int))) else none) (fun b=>?_) (.inl (.inr ⟨{cls:=.type "list",data:=.seq vs.toArray},if_pos rfl⟩)) (fun b u z=>?_) (fun b z=>?_) fun _=>hk
  ·by_cases hb:b=a
   ·exact .inr ⟨_,_,if_pos hb⟩
   ·exact .inl (if_neg hb)
  ·by_cases hb:b=a
   ·have z':=(if_pos hb).symm.trans z
    cases z'
    subst hb;exact⟨ha,by rw[ar];exact hl,vs,_,rv,ha⟩
   ·have z':=(if_neg hb).symm.trans z
    cases z'
  ·by_cases hb:b=a
   ·exact hb
   ·exact absurd (if_neg hb) z
end L2
namespace L2
open PySem PySem.Spec PyProof.Rows
theorem walk_of{l:PySem.W.OpenLaw}{n k:Nat}{q:Program}{loose:List Str}{XP:(Str->Option Value)->Heap->Prop}{YP:World->Heap->Prop}{d:DefRec}{K:Params->ac}{CX:World->gL}{sp:World->Sp}{x:Str}
  (hn:l.most=some n) (hn2:n<=sizeLine) (hdf:d.params.defaults=[]) (hr:Room k callerA)
  (hY:∀ (w:World) (h:Heap),YP w h->(K w.params).In h)
  (F:∀ (w:World) (mg:Str->Option Value) (fa:Addr) (h:Heap),(K w.params).In h->h.Ns mainGlobals mg->mg d.name=some (.ref fa) ->
   ∃ fd:FuncData,(∀ (s:Shared) (u:Value),BindsTo s fd ⟨[u],[]⟩ [(x,u)]) /\
    ∀ base:Heap,(K w.params).In base->base.Ns mainGlobals mg->FnOk l.prog w (K w.params) mg base (CX w) k fa fd [x] (sp w))
  (hsp:∀ (w:World) (H:Hp) (a:Addr) (ns:List Int),ns.length<=n->uI H->SqL (K w.params) H a (ns.map V.int)->sp w [.ref a] H (fun v _=>v=.bl true) fun _ _ _=>False)
  (hCX:∀ (w:World) (H:Hp) (s:Shared) (e:Value) (s':Shared),CX w [] H s (fun _ _ _=>False) e s'->False) :
  PySem.W.WalkO q loose XP YP l.row.toRowW d [] (fun f vs=>PySem.call f vs):=by
 refine Att.attach_call hn hdf fun w s₀ s₁ mg mb fa o pm cd doc a vs ns G Y ho hd hcd hmg hobj hints hlen hg=>?_;have KX:=hY w _ Y
 obtain⟨fd,hb,hF⟩:=F w mg fa _ KX G.T.g hmg;exact Ug KX G.T.g G.T.b G.T.builtins G.T.nolimit hg hobj hints (Nat.le_trans hlen hn2) hr hF hb (fun H hO hS=>hsp w H a ns hlen hO hS) fun H e s'=>hCX w H s₁ e s'
end L2
namespace L2
open PySem PySem.Spec PyProof.Rows
def mB(s:Stmt):Arguments:=match s with
 | .FunctionDef _ a _ _ _ _ _ _ _ _=>a
 | _=>{posonlyargs:=[],args:=[],vararg:=none,kwonlyargs:=[],kw_defaults:=[],kwarg:=none,defaults:=[]}
def hU(s:Stmt):List Stmt:=match s with
 | .FunctionDef _ _ b _ _ _ _ _ _ _=>b
 | _=>[]
def eF(s:Stmt):Scope:=match s with
 | .FunctionDef _ _ _ _ _ _ sc _ _ _=>sc
 | _=>{kind:=.function,names:=[],isGenerator:=false,isCoroutine:=false}
abbrev eV:gL:=fun _ _ _ _ _ _=>False
abbrev E0:XK:=fun _ _ _=>False
theorem HK{X:Cx}:uS eV X E0:=fun _ _ _ _ _ _ _ h=>h.elim
structure Fun (K:ac) (x qual:Str) (st:Stmt) (f:Addr) (fd:FuncData):Prop where
 ex:∃ (oc:Value) (od:Option Addr) (kV doc pm:Value) (an:Option Addr) (cdv ct:Value) (osl:Array (Option Value)),
  fd=PySem.W.fnOf x qual (mB st) (hU st) (eF st) .none kV doc pm an cdv ct/\K.lookup f=some ⟨oc,od,.func fd,osl⟩/\PySem.W.codeIn K cdv qual=true
 kp:PySem.W.keepIn K (.ref f)=true
section
variable {P:Program}{w:World}{K:ac}{mg:Str->Option Value}{base:Heap}
theorem Fun.ok{x qual:Str}{st:Stmt}{f:Addr}{fd:FuncData}{N ps:List Str}{k:Nat}{sp:Sp}(F:Fun K x qual st f fd)(S:FnScope N ps (eF st))(len:∀ vs H Q E,sp vs H Q E->vs.length=ps.length)
  (hbody:∀ (cdv:Value) (A:Around) (outer:List Env) (s:Shared) (H:Hp) (vs:List V) (Q:VK) (E:XK),Room k (A.deeper (envOfC qual (eF st) s.heap.objs.size f cdv))->sp vs H Q E ->
   ∃ t,PSs (iI eV P w K mg base N qual (eF st) f cdv A outer s H E).nox (hU st) t/\t {nx:=fun _ H'=>Q .non H',rt:=Q} (start N vs) H):FnOk P w K mg base eV (k+1) f fd ps sp:=by
 obtain⟨oc,od,kV,doc,pm,an,cdv,ct,osl,rfl,lk,hcd⟩:=F.ex;refine Yo lk hcd S len fun A outer s H vs Q E hr hsp=>?_;obtain⟨t,h,q⟩:=hbody cdv A outer s H vs Q E hr hsp;exact⟨t,h.nox,q⟩
theorem Fun.binds{x qual:Str}{st:Stmt}{f:Addr}{fd:FuncData}{ps:List Str}(F:Fun K x qual st f fd)
  (h:∀ (kV doc pm:Value) (an:Option Addr) (cdv ct:Value) (us:List Value),us.length=ps.length->bindArgs (PySem.W.fnOf x qual (mB st) (hU st) (eF st) .none kV doc pm an cdv ct) ⟨us,[]⟩=pure (ps.zip us)):Binds K fd ps []:=by
 obtain⟨oc,od,kV,doc,pm,an,cdv,ct,osl,rfl,lk,hcd⟩:=F.ex;exact .all (h kV doc pm an cdv ct)
theorem Wg{x qual:Str}{st:Stmt}{f:Addr}{oc:Value}{od an:Option Addr}{osl:Array (Option Value)}{kV doc pm cdv ct:Value}(l:K.lookup f=some ⟨oc,od,.func (PySem.W.fnOf x qual (mB st) (hU st) (eF st) .none kV doc pm an cdv ct),osl⟩)
  (c:PySem.W.codeIn K cdv qual=true) (k:PySem.W.keepIn K (.ref f)=true):Fun K x qual st f (PySem.W.fnOf x qual (mB st) (hU st) (eF st) .none kV doc pm an cdv ct):=⟨⟨oc,od,kV,doc,pm,an,cdv,ct,osl,rfl,l,c⟩,k⟩
end
theorem Wx{A B:Prop}(h:B):if false=true then A else B:=by
 rw[if_neg ak];exact h
theorem ID{A B:Prop}(h:A):if true=true then A else B:=by
 rw[if_pos rfl];exact h
def Same(H H':Hp):Prop:=∀ b o,H b=some o->H' b=some o
theorem Same.refl(H:Hp):Same H H:=fun _ _ h=>h
theorem Same.trans{H H1 H2:Hp}(a:Same H H1)(b:Same H1 H2):Same H H2:=fun c o h=>b c o (a c o h)
theorem Same.free{H H':Hp}(e:Same H H'){l:Addr}(h:H' l=Option.none):H l=Option.none:=by
 cases q:H l with
 | none=>rfl
 | some o =>
  rw[e l o q]at h
  cases h
theorem Same.seq{K:ac}{H H':Hp}{a:Addr}{xs:List V}(e:Same H H')(h:SqL K H a xs):SqL K H' a xs:=by
 rcases h with (h | ⟨o,h⟩) | h
 ·exact .inl (.inl (e _ _ h))
 ·exact .inl (.inr ⟨o,e _ _ h⟩)
 ·exact .inr h
end L2
namespace L2
open PySem PySem.Spec PyProof.Rows
section
variable {κ:Type}[DecidableEq κ]
def cX(kvs:List (κ×V))(k:κ):Option V:=(kvs.find? fun kv=>decide (kv.1=k)).map (·.2)
def eG(kvs:List (κ×V))(k:κ)(v:V):List (κ×V) :=
 if (kvs.any fun kv=>decide (kv.1=k))=true then kvs.map (fun kv=>if kv.1=k then (kv.1,v) else kv) else kvs++[(k,v)]
def Ie(kvs:List (κ×V))(k:κ):List (κ×V):=kvs.filter fun kv=>decide (kv.1≠k)
theorem nA{p:κ×V}{r:List (κ×V)}{k:κ}(e:p.1=k):cX (p::r) k=some p.2:=by simp[cX,List.find?_cons,e]
theorem mR{p:κ×V}{r:List (κ×V)}{k:κ}(e:¬ p.1=k):cX (p::r) k=cX r k:=by simp[cX,List.find?_cons,e]
theorem yW(k:κ):∀ kvs:List (κ×V),(kvs.any fun kv=>decide (kv.1=k))=(cX kvs k).isSome
 | []=>rfl
 | p::r=>by
  rw[List.any_cons]
  by_cases e:p.1=k
  ·simp only[nA e,decide_eq_true e,Bool.true_or,Option.isSome_some]
  ·rw[mR e,decide_eq_false e,Bool.false_or];exact yW k r
theorem RelO.isSome_eq{o:Option V}{u:Option Value}(r:RelO o u):o.isSome=u.isSome:=by
 cases o with
 | none=>cases u with
  | none=>rfl
  | some _=>exact(show False from r).elim
 | some _=>cases u with
  | none=>exact(show False from r).elim
  | some _=>rfl
theorem RelO.getD{o:Option V}{u:Option Value}{d:V}{d':Value}(r:RelO o u)(rd:RelV d d'):RelV (o.getD d) (u.getD d'):=by
 cases o with
 | none=>cases u with
  | none=>exact rd
  | some _=>exact(show False from r).elim
 | some _=>cases u with
  | none=>exact(show False from r).elim
  | some _=>exact r
theorem KV.val{kvs:List (κ×V)}{vs:List (κ×Value)}(r:KV kvs vs)(k:κ):RelO (cX kvs k) (valueAt vs k):=by
 unfold KV at r
 induction r with
 | nil=>exact True.intro
 | @cons p q ps qs h t ih =>
  obtain⟨h1,h2⟩:=h
  by_cases e:p.1=k
  ·have e':q.1=k:=h1.symm.trans e
   have b:valueAt (q::qs) k=some q.2:=by simp[valueAt,List.find?_cons,e']
   rw[nA e,b];exact h2
  ·have e':¬ q.1=k:=fun z=>e (h1.trans z)
   have b:valueAt (q::qs) k=valueAt qs k:=by simp[valueAt,List.find?_cons,e']
   rw[mR e,b];exact ih
theorem KV.any{kvs:List (κ×V)}{vs:List (κ×Value)}(r:KV kvs vs)(k:κ):(kvs.any fun kv=>decide (kv.1=k))=vs.any fun kv=>decide (kv.1=k):=by
 unfold KV at r
 induction r with
 | nil=>rfl
 | cons h t ih=>rw[List.any_cons,List.any_cons,ih,h.1]
theorem KV.repl{kvs:List (κ×V)}{vs:List (κ×Value)}(r:KV kvs vs)(k:κ){y:V}{u:Value}(ry:RelV y u) :
  KV (kvs.map fun kv=>if kv.1=k then (kv.1,y) else kv) (vs.map fun kv=>if kv.1=k then (kv.1,u) else kv):=by
 unfold KV at r ⊢
 induction r with
 | nil=>exact .nil
 | @cons p q ps qs h t ih =>
  rw[aq,aq];refine .cons ?_ ih;obtain⟨h1,h2⟩:=h
  by_cases e:p.1=k
  ·rw[if_pos e,if_pos (h1.symm.trans e)];exact⟨h1,ry⟩
  ·rw[if_neg e,if_neg (fun z=>e (h1.trans z))];exact⟨h1,h2⟩
theorem KV.put{kvs:List (κ×V)}{vs:List (κ×Value)}(r:KV kvs vs)(k:κ){y:V}{u:Value}(ry:RelV y u):KV (eG kvs k y) (stored vs k u):=by
 unfold eG stored;rw[r.any k]
 by_cases e:(vs.any fun kv=>decide (kv.1=k))=true
 ·rw[if_pos e,if_pos e];exact r.repl k ry
 ·rw[if_neg e,if_neg e];exact Paired.snoc r ⟨rfl,ry⟩
theorem KV.drop{kvs:List (κ×V)}{vs:List (κ×Value)}(r:KV kvs vs)(k:κ):KV (Ie kvs k) (without vs k):=by
 unfold KV at r ⊢;unfold Ie without
 induction r with
 | nil=>exact .nil
 | @cons p q ps qs h t ih =>
  obtain⟨h1,h2⟩:=h;rw[List.filter_cons,List.filter_cons]
  by_cases e:p.1=k
  ·have a:¬ decide (p.1≠k)=true:=by simp[e]
   have b:¬ decide (q.1≠k)=true:=by simp[h1.symm.trans e]
   rw[if_neg a,if_neg b];exact ih
  ·have e':¬ q.1=k:=fun z=>e (h1.trans z)
   have a:decide (p.1≠k)=true:=by simp[e]
   have b:decide (q.1≠k)=true:=by simp[e']
   rw[if_pos a,if_pos b];exact .cons ⟨h1,h2⟩ ih
theorem KV.keys{kvs:List (κ×V)}{vs:List (κ×Value)}(r:KV kvs vs):kvs.map (·.1)=vs.map (·.1):=by
 unfold KV at r
 induction r with
 | nil=>rfl
 | cons h t ih=>rw[aq,aq,ih,h.1]
theorem KV.length{kvs:List (κ×V)}{vs:List (κ×Value)}(r:KV kvs vs):kvs.length=vs.length:=Paired.length r
end
theorem pH{P:Program}{w:World}{k:bF}{u:Value}(r:RelV (kV k) u):(dP P w).is k u=true:=by
 cases k with
 | inl i=>obtain⟨t,e⟩:=(show ∃ t,u=Value.int i t from r);subst e;exact Wq P w i t
 | inr x=>obtain⟨t,e⟩:=(show ∃ t,u=Value.str x t from r);subst e;exact FP P w x t
theorem xD{P:Program}{w:World}:∀ {ks:List bF} {us:List Value},Vals (ks.map kV) us->ItemsAre (dP P w) ks us
 | [],_,r=>by rw[List.map_nil]at r;cases r;exact .nil
 | k::ks,_,r=>by
  rw[aq]at r
  cases r with
  | cons h t=>exact .cons (pH h) (xD t)
abbrev KT(H:Hp):List (List bF×V)->List (List bF×Addr×Value)->Prop:=Paired fun p q=>p.1=q.1/\H q.2.1=some (.tup (p.1.map kV))/\RelV p.2 q.2.2
theorem KT.val{H:Hp}{kvs:List (List bF×V)}{xs:List (List bF×Addr×Value)}(r:KT H kvs xs)(k:List bF):RelO (cX kvs k) ((atKey xs k).map (·.2)):=by
 induction r with
 | nil=>exact True.intro
 | @cons p q ps qs h t ih =>
  obtain⟨h1,_,h2⟩:=h
  by_cases e:p.1=k
  ·have e':q.1=k:=h1.symm.trans e
   have b:atKey (q::qs) k=some q.2:=by simp[atKey,List.find?_cons,e']
   rw[nA e,b];exact h2
  ·have e':¬ q.1=k:=fun z=>e (h1.trans z)
   have b:atKey (q::qs) k=atKey qs k:=by simp[atKey,List.find?_cons,e']
   rw[mR e,b];exact ih
theorem KT.repl{H:Hp}{kvs:List (List bF×V)}{xs:List (List bF×Addr×Value)}(r:KT H kvs xs)(k:List bF){y:V}{u:Value}(ry:RelV y u) :
  KT H (kvs.map fun kv=>if kv.1=k then (kv.1,y) else kv) (xs.map (putAt k u)):=by
 induction r with
 | nil=>exact .nil
 | @cons p q ps qs h t ih =>
  rw[aq,aq];refine .cons ?_ ih;obtain⟨h1,h2,h3⟩:=h;unfold putAt
  by_cases e:p.1=k
  ·rw[if_pos e,if_pos (h1.symm.trans e)];exact⟨h1,h2,ry⟩
  ·rw[if_neg e,if_neg (fun z=>e (h1.trans z))];exact⟨h1,h2,h3⟩
theorem KT.put{H:Hp}{kvs:List (List bF×V)}{xs:List (List bF×Addr×Value)}(r:KT H kvs xs)(k:List bF){b:Addr}{y:V}{u:Value}(hb:H b=some (.tup (k.map kV)))(ry:RelV y u) :
  KT H (eG kvs k y) (storedH xs k b u):=by
 have e:(kvs.any fun kv=>decide (kv.1=k))=(atKey xs k).isSome:=by
  rw[yW,(r.val k).isSome_eq,Option.isSome_map]
 unfold eG storedH;rw[e]
 by_cases q:(atKey xs k).isSome=true
 ·rw[if_pos q,if_pos q];exact r.repl k ry
 ·rw[if_neg q,if_neg q];exact Paired.snoc r ⟨rfl,hb,ry⟩
theorem KT.keeps{H H':Hp}{kvs:List (List bF×V)}{xs:List (List bF×Addr×Value)}(r:KT H kvs xs)(ht:∀ b ys,H b=some (.tup ys)->H' b=some (.tup ys)):KT H' kvs xs :=
 Paired.mapP r fun _ _ z=>⟨z.1,ht _ _ z.2.1,z.2.2⟩
section
variable {P:Program}{w:World}{H:Hp}{h:Heap}{a:Addr}
theorem Dy{u:HO}(ok:HOk P w H h)(e:Rd H a u):ObjOk P w H h a u:=e.ok ok
theorem Of{kvs:List (bF×V)}(ok:HOk P w H h)(e:Rd H a (.dK kvs)):kvs.length<=sizeLine/\(a==sysModules)=false/\∃ vs,KV kvs vs/\h.DictOf (dP P w) a vs :=
 show ObjOk P w H h a (.dK kvs) from Dy ok e
theorem Pq{ks:List bF}(ok:HOk P w H h)(e:H a=some (.tup (ks.map kV))):(tupleKind (dP P w)).is h ks a:=by
 obtain⟨_,its,r,o,h1,h2,n,h3⟩:=(show ObjOk P w H h a (.tup (ks.map kV)) from ok a _ e)
 exact⟨o,its.toArray,n,h1,h2,h3,by simpa using xD r⟩
theorem Ep{kvs:List (List bF×V)}(ok:HOk P w H h)(e:Rd H a (.dT kvs)):kvs.length<=sizeLine/\(a==sysModules)=false /\
  ∃ xs,KT H kvs xs/\h.DictOfH (tupleKind (dP P w)) a xs:=by
 obtain⟨z,y,xs,r,o,es,ep,h1,h2,h3,h4,h5⟩:=(show ObjOk P w H h a (.dT kvs) from Dy ok e)
 refine⟨z,y,xs,r,o,es,ep,h1,h2,h3,h4,fun x hx=>?_,h5⟩;have all:∀ {l:List (List bF×V)} {m:List (List bF×Addr×Value)},KT H l m->∀ x∈m,(tupleKind (dP P w)).is h x.1 x.2.1:=by
  intro l m q
  induction q with
  | nil=>intro x hx;exact nomatch hx
  | @cons p q ps qs hq t ih =>
   intro x hx;rcases List.mem_cons.mp hx with e | hx
   ·subst e;exact Pq ok (by rw[<- hq.1];exact hq.2.1)
   ·exact ih x hx
 exact all r x hx
end
def DGet(H:Hp)(a:Addr)(y:V)(r:Option V):Prop :=
 (∃ kvs k,Rd H a (.dK kvs)/\y=kV k/\r=cX kvs k)\/∃ kvs k b,Rd H a (.dT kvs)/\y=.ref b/\H b=some (.tup (k.map kV))/\r=cX kvs k
def DPut(H:Hp)(a:Addr)(y v:V)(H':Hp):Prop :=
 (∃ kvs k,H a=some (.dK kvs)/\y=kV k/\kvs.length<sizeLine/\H'=upd H a (.dK (eG kvs k v))) \/
 ∃ kvs k b,H a=some (.dT kvs)/\y=.ref b/\H b=some (.tup (k.map kV))/\kvs.length<sizeLine/\H'=upd H a (.dT (eG kvs k v))
theorem DGet.k{H:Hp}{a:Addr}{kvs:List (bF×V)}{k:bF}(e:H a=some (.dK kvs)):DGet H a (kV k) (cX kvs k):=.inl ⟨kvs,k,.inl e,rfl,rfl⟩
theorem DGet.t{H:Hp}{a b:Addr}{kvs:List (List bF×V)}{k:List bF}(e:H a=some (.dT kvs))(eb:H b=some (.tup (k.map kV))):DGet H a (.ref b) (cX kvs k):=.inr ⟨kvs,k,b,.inl e,rfl,eb,rfl⟩
theorem DPut.k{H:Hp}{a:Addr}{kvs:List (bF×V)}{k:bF}{v:V}(e:H a=some (.dK kvs))(hl:kvs.length<sizeLine):DPut H a (kV k) v (upd H a (.dK (eG kvs k v))):=.inl ⟨kvs,k,e,rfl,hl,rfl⟩
theorem DPut.t{H:Hp}{a b:Addr}{kvs:List (List bF×V)}{k:List bF}{v:V}(e:H a=some (.dT kvs))(eb:H b=some (.tup (k.map kV)))(hl:kvs.length<sizeLine) :
  DPut H a (.ref b) v (upd H a (.dT (eG kvs k v))):=.inr ⟨kvs,k,b,e,rfl,eb,hl,rfl⟩
section
variable {X:Cx}{pins:List (Addr×Obj)}{σ:St}{H:Hp}{s:Shared}{a:Addr}{y v:V}{u r:Value}{o:Option V}{A:Around}{E:Value->Shared->Prop}
theorem Inv.big(I:Inv X pins σ H s):sysModules<s.heap.objs.size:=by
 have h:mainGlobals<s.heap.objs.size:=(I.mod.glob.keeps I.bk).lt
 exact Nat.lt_trans (by decide) h
theorem BK{Q:Value->Shared->Prop}(hu:A.units+1<cLine)(I:Inv X pins σ H s)(g:DGet H a y (some v))(ry:RelV y u)(h:∀ w' s',Inv X pins σ H s'->RelV v w'->Q w' s') :
  wpAny (model X.prog X.w) A (getItem (.ref a) u) Q E s:=by
 rcases g with⟨kvs,k,e,ey,l⟩ | ⟨kvs,k,b,e,ey,eb,l⟩
 ·subst ey;obtain⟨z,hd,vs,rel,dd⟩:=Of I.hok e;obtain⟨w',hw,rw'⟩:=RelO.some_of (v:=v) (o:=valueAt vs k) (by rw[l];exact rel.val k)
  exact wpAny_getItem_of (pH ry) dd.mapOf hw (h w' _ (I.tok _) rw')
 ·subst ey
  cases (show u=Value.ref b from ry)
  obtain⟨z,hd,xs,rel,dd⟩:=Ep I.hok e;obtain⟨w',hw,rw'⟩:=RelO.some_of (v:=v) (o:=(atKey xs k).map (·.2)) (by rw[l];exact rel.val k)
  obtain⟨p,hp,hp2⟩:=Option.map_eq_some_iff.mp hw;refine wpAny_getItem_heap (tupleKind_room_in1 hu) (Pq I.hok eb) dd hp ?_;rw[hp2];exact h w' _ (I.tok _) rw'
end
def lV(i:Expr):Prop:=∀ ov iv,subscripted i false ov iv=operate [ov,iv] (getItem ov iv)
theorem Pa{prog:Program}{w:World}{A:Around}{E:Value->Shared->Prop}{s:Shared}{env:Env}{value slice:Expr}{pos:Pos}{T id:String}{Q:Value->Shared->Prop}
  (hl:typeLookup (.type T) "__getitem__"=pure (some (.builtin id))) (hs:lV slice)
  (h:wpAny (model prog w) A (eval value env) (fun o s₁=>wpAny (model prog w) A (eval slice env) (fun i s₂=>s₂.TypeIs o T/\wpAny (model prog w) A (getItem o i) Q E s₂) E s₁) E s) :
  wpAny (model prog w) A (eval (.Subscript value slice pos) env) Q E s:=by
 refine Subscript_ (wpAny_mono h (fun o s₁ h₁=>wpAny_mono h₁ (fun i s₂ h₂=>?_) fun _ _ x=>x) fun _ _ x=>x);obtain⟨hT,h₂⟩:=h₂;unfold subscriptTail;refine ad ?_;rw[getitemInPython_of_ne hT.not_modules];refine ad (wpAny_specialOf hT hl ?_);have fin:wpAny (model prog w) A (subscripted slice false o i) (fun r s₃=>wpAny (model prog w) A (letTemporaryGo value o r>>=fun _=>pure r) Q E s₃) E s₂:=by
  rw[hs o i];exact wpAny_operating (wpAny_mono h₂ (fun r s₃ h₃=>ad (wpAny_letTemporaryGo (ae h₃))) fun _ _ x=>x)
 first
  | exact ae (ad fin)
  | exact ad (ae (ad fin))
  | exact ad fin
theorem Q7{X:Cx}{pins:List (Addr×Obj)}{σ:St}{H:Hp}{s:Shared}{a:Addr}{y:V}{o:Option V}(I:Inv X pins σ H s)(g:DGet H a y o):s.TypeIs (.ref a) "dict":=by
 rcases g with⟨kvs,k,e,_,_⟩ | ⟨kvs,k,b,e,_,_,_⟩
 ·obtain⟨_,_,vs,_,dd⟩:=Of I.hok e;exact dd.typeIs
 ·obtain⟨_,_,xs,_,dd⟩:=Ep I.hok e;exact dd.typeIs
def T5(td ty:TE):TE:=fun σ H Q=>td σ H fun x H1=>ty σ H1 fun y H2=>∃ a v,x=.ref a/\DGet H2 a y (some v)/\Q v H2
section
variable {X:Cx}{o i e value:Expr}{pos pos' tpos:Pos}{td ty tv:TE}
theorem FC(hu:X.A.units+1<cLine)(ho:PE X o td)(hi:PE X i ty)(hs:lV i):PE X (.Subscript o i pos) (T5 td ty):=by
 intro pins s σ H Q I h;refine Pa PySem.F.slot_dict_getitem.lookup hs (aP (ho pins s σ H _ I h) fun u s1 ⟨x,H1,I1,rx,q1⟩=>aP (hi pins s1 σ H1 _ I1 q1) fun iv s2 ⟨y,H2,I2,ry,a,v,ex,g,q2⟩=>?_);subst ex;obtain rfl:u=Value.ref a:=rx;exact⟨Q7 I2 g,BK hu I2 g ry fun w' s3 I3 rw'=>⟨v,H2,I3,rw',q2⟩⟩
end
end L2
namespace DL
open PySem PySem.Spec PyProof.Rows L2
inductive D where
 | dat (p:PyData)
 | cel (a:Addr)
inductive Cel where
 | l (xs:List PyData)
 | d (kvs:List (bF×PyData))
 | t (kvs:List (List bF×PyData))
 | dl (kas:List (bF×Addr))
 | fd (kvs:List (bF×PyData))
 | ft (kvs:List (List bF×PyData))
 | n (kvs:List (List PyData×D))
 | g (kvs:List (bF×D))
 | o (N:Str) (fs:List (Str×D))
@[simp] def nC:Option Cel->Bool
 | some (.fd _)=>true
 | some (.ft _)=>true
 | _=>false
abbrev Mu:=Addr->Option Cel
abbrev bS:=List (Option D)
@[simp] def Fs:bF->PyData
 | .inl i=>.int i
 | .inr z=>.str z
def Oq:PyData:=.int (2^1930)
theorem ED:Oq.showable=false:=by
 show decide ((((2:Int)^1930).natAbs).log2<1920)=false
 rw[Int.natAbs_pow,show(2:Int).natAbs=2 from rfl,Nat.log2_two_pow]
 decide
def Mo(K:ac):HO->List (PyData×V)->Prop
 | .dK ws,vs=>vs=ws.map fun kv=>(Fs kv.1,kv.2)
 | .dT ws,vs=>vs=ws.map fun kv=>(.tuple (kv.1.map Fs),kv.2)
 | .dN K' ws,vs=>K'=K/\vs=ws.map fun kv=>(.tuple kv.1,kv.2)
 | _,_=>False
mutual
def RP(K:ac)(Z:Addr->Prop)(m:Mu)(H:Hp):PyData->V->Prop
 | .none,v=>v=.non
 | .bool b,v=>v=.bl b
 | .int i,v=>v=.int i
 | .str x,v=>v=.str x
 | .tuple xs,v=>∃ a vs,v=.ref a/\SqT K H a vs/\RPs K Z m H xs vs
 | .list xs,v=>∃ a vs,v=.ref a/\(m a=none/\¬ Z a)/\SqL K H a vs/\RPs K Z m H xs vs
 | .dict kvs,v=>∃ a o u vs,v=.ref a/\H a=some (.frz o u)/\Mo K u vs/\RPd K Z m H kvs ((Oq,.non)::vs)
def RPd(K:ac)(Z:Addr->Prop)(m:Mu)(H:Hp):List (PyData×PyData)->List (PyData×V)->Prop
 | [],vs=>vs=[]
 | (k,p)::xs,vs=>∃ v r,vs=(k,v)::r/\RP K Z m H p v/\RPd K Z m H xs r
def RPs(K:ac)(Z:Addr->Prop)(m:Mu)(H:Hp):List PyData->List V->Prop
 | [],vs=>vs=[]
 | x::xs,vs=>∃ v r,vs=v::r/\RP K Z m H x v/\RPs K Z m H xs r
end
def RD(K:ac)(Z:Addr->Prop)(m:Mu)(H:Hp):D->V->Prop
 | .dat p,v=>RP K Z m H p v
 | .cel a,v=>v=.ref a/\(m a).isSome=true
def RDs(K:ac)(Z:Addr->Prop)(m:Mu)(H:Hp):List D->List V->Prop
 | [],vs=>vs=[]
 | x::xs,vs=>∃ v r,vs=v::r/\RD K Z m H x v/\RDs K Z m H xs r
def RKV{κ:Type}(K:ac)(Z:Addr->Prop)(m:Mu)(H:Hp):List (κ×PyData)->List (κ×V)->Prop
 | [],vs=>vs=[]
 | (k,p)::xs,vs=>∃ v r,vs=(k,v)::r/\RP K Z m H p v/\RKV K Z m H xs r
def RW(K:ac)(Z:Addr->Prop)(m:Mu)(H:Hp):D->V->Prop
 | .dat p,v=>RP K Z m H p v
 | .cel a,v=>v=.ref a
def RKW{κ:Type}(K:ac)(Z:Addr->Prop)(m:Mu)(H:Hp):List (κ×D)->List (κ×V)->Prop
 | [],vs=>vs=[]
 | (k,p)::xs,vs=>∃ v r,vs=(k,v)::r/\RW K Z m H p v/\RKW K Z m H xs r
def RC(K:ac)(Z:Addr->Prop)(m:Mu)(H:Hp):Cel->HO->Prop
 | .l xs,.lst vs=>RPs K Z m H xs vs
 | .d kvs,.dK vs=>RKV K Z m H kvs vs
 | .t kvs,.dT vs=>RKV K Z m H kvs vs
 | .dl kas,.dK vs=>vs=kas.map fun x=>(x.1,V.ref x.2)
 | .fd kvs,.frz _ (.dK vs)=>RKV K Z m H kvs vs
 | .ft kvs,.frz _ (.dT vs)=>RKV K Z m H kvs vs
 | .n kvs,.dN K' vs=>K'=K/\RKW K Z m H kvs vs
 | .g kvs,.dK vs=>RKW K Z m H kvs vs
 | .o N fs,.ins C _ vs=>PySem.W.nsIn K mainGlobals N=some (some (.ref C))/\RKW K Z m H fs vs
 | _,_=>False
structure Ok (K:ac) (Z:Addr->Prop) (m:Mu) (H:Hp):Prop where
 g:∀ a c,m a=some c->∃ o,H a=some o/\RC K Z m H c o
 z:∀ a,Z a->m a=none/\H a≠none
structure Ext (K:ac) (Z:Addr->Prop) (m:Mu) (H:Hp) (m':Mu) (H':Hp):Prop where
 t:∀ a vs,SqT K H a vs->SqT K H' a vs
 l:∀ a vs,(m a=none/\¬ Z a)->SqL K H a vs->m' a=none/\SqL K H' a vs
 z:∀ a,Z a->H' a=H a
 c:∀ a,(m a).isSome=true->(m' a).isSome=true
 fz:∀ a o u,H a=some (.frz o u)->H' a=some (.frz o u)
 fm:∀ a,nC (m a)=true->m' a=m a
 ll:∀ a vs,(m a=none/\¬ Z a)->H a=some (.lst vs)->H' a=some (.lst vs)
section
variable {K:ac}{Z:Addr->Prop}{m m' m2:Mu}{H H' H2:Hp}
theorem Ext.refl:Ext K Z m H m H:=⟨fun _ _ h=>h,fun _ _ h1 h2=>⟨h1.1,h2⟩,fun _ _=>rfl,fun _ h=>h,fun _ _ _ h=>h,fun _ _=>rfl,fun _ _ _ h=>h⟩
theorem Ext.trans(a:Ext K Z m H m' H')(b:Ext K Z m' H' m2 H2):Ext K Z m H m2 H2 :=
 ⟨fun x vs h=>b.t x vs (a.t x vs h),fun x vs h1 h2=>let ⟨q1,q2⟩:=a.l x vs h1 h2;b.l x vs ⟨q1,h1.2⟩ q2,fun x h=>(b.z x h).trans (a.z x h),fun x h=>b.c x (a.c x h),fun x o u h=>b.fz x o u (a.fz x o u h),fun x h=>by
  have q:=a.fm x h
  rw[b.fm x (by rw[q];exact h),q],fun x vs h1 h2=>b.ll x vs ⟨(a.l x vs h1 (.inl (.inl h2))).1,h1.2⟩ (a.ll x vs h1 h2)⟩
mutual
theorem RP.ext(e:Ext K Z m H m' H'):∀ (p:PyData) (v:V),RP K Z m H p v->RP K Z m' H' p v
 | .none,v,h=>by simpa only[RP] using h
 | .bool _,v,h=>by simpa only[RP] using h
 | .int _,v,h=>by simpa only[RP] using h
 | .str _,v,h=>by simpa only[RP] using h
 | .tuple xs,v,h=>by
  simp only[RP]at h ⊢;obtain⟨a,vs,h1,h2,h3⟩:=h;exact⟨a,vs,h1,e.t a vs h2,RPs.ext e xs vs h3⟩
 | .list xs,v,h=>by
  simp only[RP]at h ⊢;obtain⟨a,vs,h1,h2,h3,h4⟩:=h;obtain⟨q1,q2⟩:=e.l a vs h2 h3;exact⟨a,vs,h1,⟨q1,h2.2⟩,q2,RPs.ext e xs vs h4⟩
 | .dict kvs,v,h=>by
  simp only[RP]at h ⊢;obtain⟨a,o,u,vs,h1,h2,h3,h4⟩:=h;exact⟨a,o,u,vs,h1,e.fz a o u h2,h3,RPd.ext e kvs _ h4⟩
theorem RPd.ext(e:Ext K Z m H m' H'):∀ (xs:List (PyData×PyData)) (vs:List (PyData×V)),RPd K Z m H xs vs->RPd K Z m' H' xs vs
 | [],vs,h=>by simpa only[RPd] using h
 | (k,p)::xs,vs,h=>by
  simp only[RPd]at h ⊢;obtain⟨v,r,h1,h2,h3⟩:=h;exact⟨v,r,h1,RP.ext e p v h2,RPd.ext e xs r h3⟩
theorem RPs.ext(e:Ext K Z m H m' H'):∀ (xs:List PyData) (vs:List V),RPs K Z m H xs vs->RPs K Z m' H' xs vs
 | [],vs,h=>by simpa only[RPs] using h
 | x::xs,vs,h=>by
  simp only[RPs]at h ⊢;obtain⟨v,r,h1,h2,h3⟩:=h;exact⟨v,r,h1,RP.ext e x v h2,RPs.ext e xs r h3⟩
end
theorem RD.ext(e:Ext K Z m H m' H'){d:D}{v:V}(h:RD K Z m H d v):RD K Z m' H' d v:=by
 cases d with
 | dat p=>exact RP.ext e p v h
 | cel a=>exact⟨h.1,e.c a h.2⟩
theorem RDs.ext(e:Ext K Z m H m' H'):∀ {xs:List D} {vs:List V},RDs K Z m H xs vs->RDs K Z m' H' xs vs
 | [],_,h=>h
 | _::_,_,⟨v,r,h1,h2,h3⟩=>⟨v,r,h1,h2.ext e,RDs.ext e h3⟩
theorem RKV.lift{κ:Type}{Z':Addr->Prop}(tr:∀ p v,RP K Z m H p v->RP K Z' m' H' p v):∀ {xs:List (κ×PyData)} {vs:List (κ×V)},RKV K Z m H xs vs->RKV K Z' m' H' xs vs
 | [],_,h=>h
 | _::_,_,⟨v,r,h1,h2,h3⟩=>⟨v,r,h1,tr _ _ h2,RKV.lift tr h3⟩
theorem RKW.lift{κ:Type}{Z':Addr->Prop}(tr:∀ p v,RP K Z m H p v->RP K Z' m' H' p v):∀ {xs:List (κ×D)} {vs:List (κ×V)},RKW K Z m H xs vs->RKW K Z' m' H' xs vs
 | [],_,h=>h
 | (_,.dat _)::_,_,⟨v,r,h1,h2,h3⟩=>⟨v,r,h1,tr _ _ h2,RKW.lift tr h3⟩
 | (_,.cel _)::_,_,⟨v,r,h1,h2,h3⟩=>⟨v,r,h1,h2,RKW.lift tr h3⟩
theorem RPs.lift{Z':Addr->Prop}(tr:∀ p v,RP K Z m H p v->RP K Z' m' H' p v):∀ {ps:List PyData} {vs:List V},RPs K Z m H ps vs->RPs K Z' m' H' ps vs
 | [],_,h=>by simpa only[RPs] using h
 | _::_,_,h=>by
  simp only[RPs]at h ⊢;obtain⟨v,r,h1,h2,h3⟩:=h;exact⟨v,r,h1,tr _ _ h2,RPs.lift tr h3⟩
theorem RC.lift{Z':Addr->Prop}{c:Cel}{o:HO}(tr:∀ p v,RP K Z m H p v->RP K Z' m' H' p v)(h:RC K Z m H c o):RC K Z' m' H' c o:=by
 cases c<;>cases o<;>first | exact RPs.lift tr h | exact RKV.lift tr h | exact RKW.lift tr h | exact⟨h.1,RKW.lift tr h.2⟩ | exact h | (rename_i ob u;cases u<;>first | exact RKV.lift tr h | exact h)
theorem RC.ext{c:Cel}{o:HO}(e:Ext K Z m H m' H')(h:RC K Z m H c o):RC K Z m' H' c o:=h.lift fun p v q=>RP.ext e p v q
theorem RC.mut{c:Cel}{o:HO}(h:RC K Z m H c o)(nf:nC (some c)=false):(∀ xs,o≠.tup xs)/\(∀ a b,o≠.frz a b):=by
 cases c with
 | fd _=>cases nf
 | ft _=>cases nf
 | dl _=>cases o<;>first | exact h.elim | exact⟨fun _ e=>(nomatch e),fun _ _ e=>(nomatch e)⟩
 | l _=>cases o<;>first | exact h.elim | exact⟨fun _ e=>(nomatch e),fun _ _ e=>(nomatch e)⟩
 | d _=>cases o<;>first | exact h.elim | exact⟨fun _ e=>(nomatch e),fun _ _ e=>(nomatch e)⟩
 | n _=>cases o<;>first | exact h.elim | exact⟨fun _ e=>(nomatch e),fun _ _ e=>(nomatch e)⟩
 | g _=>cases o<;>first | exact h.elim | exact⟨fun _ e=>(nomatch e),fun _ _ e=>(nomatch e)⟩
 | o _ _=>cases o<;>first | exact h.elim | exact⟨fun _ e=>(nomatch e),fun _ _ e=>(nomatch e)⟩
 | t _=>cases o<;>first | exact h.elim | exact⟨fun _ e=>(nomatch e),fun _ _ e=>(nomatch e)⟩
theorem Ok.l{a:Addr}{xs:List PyData}(ok:Ok K Z m H)(h:m a=some (.l xs)):∃ vs,H a=some (.lst vs)/\RPs K Z m H xs vs:=by
 obtain⟨o,h1,h2⟩:=ok.g a _ h
 cases o<;>first | exact⟨_,h1,h2⟩ | exact h2.elim
theorem Ok.d{a:Addr}{xs:List (bF×PyData)}(ok:Ok K Z m H)(h:m a=some (.d xs)):∃ vs,H a=some (.dK vs)/\RKV K Z m H xs vs:=by
 obtain⟨o,h1,h2⟩:=ok.g a _ h
 cases o<;>first | exact⟨_,h1,h2⟩ | exact h2.elim
theorem Ok.t{a:Addr}{xs:List (List bF×PyData)}(ok:Ok K Z m H)(h:m a=some (.t xs)):∃ vs,H a=some (.dT vs)/\RKV K Z m H xs vs:=by
 obtain⟨o,h1,h2⟩:=ok.g a _ h
 cases o<;>first | exact⟨_,h1,h2⟩ | exact h2.elim
theorem RPs.length:∀ {xs:List PyData} {vs:List V},RPs K Z m H xs vs->vs.length=xs.length
 | [],_,h=>by simp only[RPs]at h;subst h;rfl
 | _::xs,_,h=>by
  simp only[RPs]at h;obtain⟨v,r,h1,_,h3⟩:=h;subst h1;rw[List.length_cons,List.length_cons,RPs.length h3]
theorem RDs.length:∀ {xs:List D} {vs:List V},RDs K Z m H xs vs->vs.length=xs.length
 | [],_,h=>by cases (show _=[] from h);rfl
 | _::xs,_,⟨v,r,h1,_,h3⟩=>by
  subst h1;rw[List.length_cons,List.length_cons,RDs.length h3]
theorem RPs.get:∀ {xs:List PyData} {vs:List V} {i:Nat} {p:PyData},RPs K Z m H xs vs->xs[i]?=some p->∃ v,vs[i]?=some v/\RP K Z m H p v
 | [],_,_,_,_,e=>by simp at e
 | x::xs,_,0,p,h,e=>by
  simp only[RPs]at h;obtain⟨v,r,h1,h2,_⟩:=h;simp at e;subst h1 e;exact⟨v,rfl,h2⟩
 | x::xs,_,i+1,p,h,e=>by
  simp only[RPs]at h;obtain⟨v,r,h1,_,h3⟩:=h;obtain⟨u,q1,q2⟩:=RPs.get (i:=i) (p:=p) h3 (by simpa using e)
  subst h1;exact⟨u,by simpa using q1,q2⟩
theorem RPs.set:∀ {xs:List PyData} {vs:List V} {i:Nat} {p:PyData} {v:V},RPs K Z m H xs vs->RP K Z m H p v->RPs K Z m H (xs.set i p) (vs.set i v)
 | [],_,_,_,_,h,_=>by simp only[RPs]at h;subst h;simp[RPs]
 | x::xs,_,0,p,v,h,q=>by
  simp only[RPs]at h;obtain⟨w,r,h1,_,h3⟩:=h;subst h1;simp only[List.set_cons_zero,RPs];exact⟨v,r,rfl,q,h3⟩
 | x::xs,_,i+1,p,v,h,q=>by
  simp only[RPs]at h;obtain⟨w,r,h1,h2,h3⟩:=h;subst h1;simp only[List.set_cons_succ,RPs];exact⟨w,_,rfl,h2,RPs.set h3 q⟩
theorem RPs.append:∀ {xs ys:List PyData} {vs ws:List V},RPs K Z m H xs vs->RPs K Z m H ys ws->RPs K Z m H (xs++ys) (vs++ws)
 | [],_,_,_,h,q=>by simp only[RPs]at h;subst h;simpa using q
 | x::xs,_,_,_,h,q=>by
  simp only[RPs]at h;obtain⟨w,r,h1,h2,h3⟩:=h;subst h1;simp only[List.cons_append,RPs];exact⟨w,_,rfl,h2,RPs.append h3 q⟩
theorem RPs.drop:∀ {xs:List PyData} {vs:List V} (n:Nat),RPs K Z m H xs vs->RPs K Z m H (xs.drop n) (vs.drop n)
 | _,_,0,h=>by simpa using h
 | [],_,n+1,h=>by simp only[RPs]at h;subst h;simp[RPs]
 | x::xs,_,n+1,h=>by
  simp only[RPs]at h;obtain⟨w,r,h1,h2,h3⟩:=h;subst h1;simpa using RPs.drop n h3
theorem RPs.take:∀ {xs:List PyData} {vs:List V} (n:Nat),RPs K Z m H xs vs->RPs K Z m H (xs.take n) (vs.take n)
 | _,_,0,h=>by simp[RPs]
 | [],_,n+1,h=>by simp only[RPs]at h;subst h;simp[RPs]
 | x::xs,_,n+1,h=>by
  simp only[RPs]at h;obtain⟨w,r,h1,h2,h3⟩:=h;subst h1;simp only[List.take_succ_cons,RPs];exact⟨w,_,rfl,h2,RPs.take n h3⟩
theorem RPs.reverse:∀ {xs:List PyData} {vs:List V},RPs K Z m H xs vs->RPs K Z m H xs.reverse vs.reverse
 | [],_,h=>by simp only[RPs]at h;subst h;simp[RPs]
 | x::xs,_,h=>by
  simp only[RPs]at h;obtain⟨w,r,h1,h2,h3⟩:=h;subst h1;rw[List.reverse_cons,List.reverse_cons];exact(RPs.reverse h3).append (by simp only[RPs];exact⟨w,[],rfl,h2,rfl⟩)
@[simp] def pds:List D->Option (List PyData)
 | []=>some []
 | .dat p::r=>(pds r).map (p :: ·)
 | .cel _::_=>none
theorem RDs.pds:∀ {xs:List D} {vs:List V} {ps:List PyData},RDs K Z m H xs vs->DL.pds xs=some ps->RPs K Z m H ps vs
 | [],vs,ps,h,e=>by
  cases (show vs=[] from h)
  cases (show some []=some ps from e)
  simp[RPs]
 | .dat p::r,vs,ps,⟨v,w,h1,h2,h3⟩,e=>by
  simp only[DL.pds]at e
  cases q:DL.pds r with
  | none=>rw[q]at e;cases e
  | some qs =>
   rw[q]at e
   cases e
   simp only[RPs];exact⟨v,w,h1,h2,RDs.pds h3 q⟩
 | .cel a::r,_,_,_,e=>by simp only[DL.pds]at e;cases e
theorem SqT.same{a:Addr}{xs:List V}(e:Same H H')(h:SqT K H a xs):SqT K H' a xs:=by
 rcases h with (h | ⟨o,h⟩) | h
 ·exact .inl (.inl (e _ _ h))
 ·exact .inl (.inr ⟨o,e _ _ h⟩)
 ·exact .inr h
theorem Ext.grow(s:Same H H')(hz:∀ a,Z a->H a≠none):Ext K Z m H m H':=⟨fun _ _ h=>SqT.same s h,fun _ _ h1 h2=>⟨h1.1,s.seq h2⟩,fun a h=>by
 cases q:H a with
 | none=>exact absurd q (hz a h)
 | some o=>exact s a o q,fun _ h=>h,fun a o u h=>s _ _ h,fun _ _=>rfl,fun _ _ _ h=>s _ _ h⟩
theorem Ok.grow(s:Same H H')(ok:Ok K Z m H):Ok K Z m H':=by
 have e:Ext K Z m H m H':=Ext.grow s fun a h=>(ok.z a h).2
 refine⟨fun a c h=>?_,fun a h=>⟨(ok.z a h).1,by rw[e.z a h];exact(ok.z a h).2⟩⟩
 obtain⟨o,h1,h2⟩:=ok.g a c h;exact⟨o,s _ _ h1,h2.ext e⟩
theorem Ok.ext(s:Same H H')(ok:Ok K Z m H):Ext K Z m H m H':=Ext.grow s fun a h=>(ok.z a h).2
theorem dM{p:Addr}{o:HO}(h:H p=none):Same H (upd H p o):=fun b u q=>by rw[cC (kC q h)];exact q
def bW(m:Mu)(a:Addr)(c:Cel):Mu:=fun b=>if b=a then some c else m b
theorem cO{a:Addr}{c:Cel}:bW m a c a=some c:=by unfold bW;rw[if_pos rfl]
theorem cZ{a b:Addr}{c:Cel}(h:b≠a):bW m a c b=m b:=by unfold bW;rw[if_neg h]
theorem sY{a:Addr}{x y:Cel}:bW (bW m a x) a y=bW m a y:=by funext b;unfold bW;split<;>rfl
theorem SqL.ne{p a:Addr}{xs:List V}(hp:H p=none)(hk:K.lookup p=none)(h:SqL K H a xs):a≠p:=by
 rintro rfl;rcases h with (h | ⟨o,h⟩) | ⟨o,_,_,h,_⟩
 ·rw[hp]at h;cases h
 ·rw[hp]at h;cases h
 ·rw[hk]at h;cases h
theorem Ext.cell{p:Addr}{o:HO}{c:Cel}(ok:Ok K Z m H)(hp:H p=none)(hk:K.lookup p=none):Ext K Z m H (bW m p c) (upd H p o):=by
 refine⟨fun _ _ h=>SqT.same (dM hp) h,fun a xs h1 h2=>?_,fun a h=>?_,fun a h=>?_,fun a o u h=>dM hp _ _ h,fun a h=>?_,fun _ _ _ h=>dM hp _ _ h⟩
 ·have ne:=SqL.ne hp hk h2
  exact⟨by rw[cZ ne];exact h1.1,(dM hp).seq h2⟩
 ·have ne:a≠p:=fun e=>(ok.z a h).2 (by rw[e];exact hp)
  exact cC ne
 ·by_cases e:a=p
  ·subst e;rw[cO];rfl
  ·rw[cZ e];exact h
 ·have ne:a≠p:=by
   rintro rfl
   cases q:m a with
   | none=>rw[q]at h;cases h
   | some x =>
    obtain⟨w,h1,_⟩:=ok.g a x q;rw[hp]at h1
    cases h1
  exact cZ ne
theorem Ok.updC{p:Addr}{o:HO}{c:Cel}(ok:Ok K Z m H)(hz:¬ Z p)(e:Ext K Z m H (bW m p c) (upd H p o))(r:RC K Z m H c o):Ok K Z (bW m p c) (upd H p o):=by
 refine⟨fun a x h=>?_,fun a h=>?_⟩
 ·by_cases q:a=p
  ·subst q;rw[cO]at h
   cases h
   exact⟨o,dS,r.ext e⟩
  ·rw[cZ q]at h;obtain⟨w,h1,h2⟩:=ok.g a x h;exact⟨w,by rw[cC q];exact h1,h2.ext e⟩
 ·have ne:a≠p:=fun e=>hz (e▸h)
  exact⟨by rw[cZ ne];exact(ok.z a h).1,by rw[cC ne];exact(ok.z a h).2⟩
theorem Ok.cell{p:Addr}{o:HO}{c:Cel}(ok:Ok K Z m H)(hp:H p=none)(hk:K.lookup p=none)(r:RC K Z m H c o):Ok K Z (bW m p c) (upd H p o) :=
 ok.updC (fun h=>(ok.z p h).2 hp) (Ext.cell ok hp hk) r
theorem Ext.put{a:Addr}{o o0:HO}{c c0:Cel}(ok:Ok K Z m H)(hm:m a=some c0)(hH:H a=some o0)(nf:nC (some c0)=false:=by rfl):Ext K Z m H (bW m a c) (upd H a o):=by
 have mu:(∀ xs,o0≠.tup xs)/\(∀ a b,o0≠.frz a b):=by
  obtain⟨w,h1,h2⟩:=ok.g a c0 hm;rw[hH]at h1
  cases h1
  exact h2.mut nf
 refine⟨fun b xs h=>?_,fun b xs h1 h2=>?_,fun b h=>?_,fun b h=>?_,fun b w u h=>?_,fun b h=>?_,fun b vs h1 h2=>by rw[cC (by rintro rfl;rw[hm]at h1;cases h1.1)];exact h2⟩
 ·rcases h with (h | ⟨w,h⟩) | h
  ·have ne:b≠a:=by rintro rfl;rw[hH]at h;cases h;exact absurd rfl (mu.1 _)
   exact .inl (.inl (by rw[cC ne];exact h))
  ·have ne:b≠a:=by rintro rfl;rw[hH]at h;cases h;exact absurd rfl (mu.2 _ _)
   exact .inl (.inr ⟨w,by rw[cC ne];exact h⟩)
  ·exact .inr h
 ·have ne:b≠a:=by rintro rfl;rw[hm]at h1;cases h1.1
  refine⟨by rw[cZ ne];exact h1.1,?_⟩
  rcases h2 with (h | ⟨w,h⟩) | h
  ·exact .inl (.inl (by rw[cC ne];exact h))
  ·exact .inl (.inr ⟨w,by rw[cC ne];exact h⟩)
  ·exact .inr h
 ·have ne:b≠a:=by rintro rfl;have:=(ok.z b h).1;rw[hm]at this;cases this
  exact cC ne
 ·by_cases e:b=a
  ·subst e;rw[cO];rfl
  ·rw[cZ e];exact h
 ·have ne:b≠a:=by rintro rfl;rw[hH]at h;cases h;exact absurd rfl (mu.2 _ _)
  rw[cC ne];exact h
 ·have ne:b≠a:=by rintro rfl;rw[hm,nf]at h;cases h
  exact cZ ne
theorem Ok.put{a:Addr}{o o0:HO}{c c0:Cel}(ok:Ok K Z m H)(hm:m a=some c0)(hH:H a=some o0)(r:RC K Z m H c o)(nf:nC (some c0)=false:=by rfl):Ok K Z (bW m a c) (upd H a o) :=
 ok.updC (fun h=>by have:=(ok.z a h).1;rw[hm]at this;cases this) (Ext.put ok hm hH nf) r
def RS(K:ac)(Z:Addr->Prop)(m:Mu)(H:Hp)(d:bS)(s:L2.St):Prop:=d.length=s.length/\∀ (i:Nat) (x:D),d[i]?=some (some x)->∃ v,s[i]?=some (some v)/\RD K Z m H x v
theorem RS.ext{d:bS}{s:L2.St}(r:RS K Z m H d s)(e:Ext K Z m H m' H'):RS K Z m' H' d s:=⟨r.1,fun i x h=>let ⟨v,h1,h2⟩:=r.2 i x h;⟨v,h1,h2.ext e⟩⟩
theorem RS.set{d:bS}{s:L2.St}{i:Nat}{x:D}{v:V}(r:RS K Z m H d s)(h:RD K Z m H x v):RS K Z m H (d.set i (some x)) (s.set i (some v)):=by
 refine⟨by rw[List.length_set,List.length_set];exact r.1,fun j y q=>?_⟩
 by_cases e:j=i
 ·subst e;rw[List.getElem?_set]at q;simp only[if_true]at q
  split at q
  ·rename_i hl
   cases q
   refine⟨v,?_,h⟩;rw[List.getElem?_set];simp only[if_true];rw[if_pos (by rw[<- r.1];exact hl)]
  ·cases q
 ·rw[List.getElem?_set_ne (Ne.symm e)]at q;obtain⟨w,h1,h2⟩:=r.2 j y q;exact⟨w,by rw[List.getElem?_set_ne (Ne.symm e)];exact h1,h2⟩
end
abbrev DK:=D->Mu->Prop
abbrev DE:=bS->Mu->DK->Prop
abbrev DT:=bS->Mu->(Bool->Mu->Prop)->Prop
abbrev DA:=bS->Mu->(List D->Mu->Prop)->Prop
structure Ends2 where
 nx:bS->Mu->Prop
 rt:DK
 bk:bS->Mu->Prop:=fun _ _=>False
 ct:bS->Mu->Prop:=fun _ _=>False
abbrev DS:=Ends2->bS->Mu->Prop
def LE(K:ac)(f:DE):TE:=fun s H Q=>∃ (Z:Addr->Prop) (d:bS) (m:Mu) (R:DK),Ok K Z m H/\RS K Z m H d s/\f d m R /\
 ∀ x m' v H',R x m'->Ext K Z m H m' H'->Ok K Z m' H'->RD K Z m' H' x v->Q v H'
def LT(K:ac)(f:DT):TT:=fun s H Q=>∃ (Z:Addr->Prop) (d:bS) (m:Mu) (R:Bool->Mu->Prop),Ok K Z m H/\RS K Z m H d s/\f d m R /\
 ∀ b m' H',R b m'->Ext K Z m H m' H'->Ok K Z m' H'->Q b H'
def LA(K:ac)(f:DA):TA:=fun s H Q=>∃ (Z:Addr->Prop) (d:bS) (m:Mu) (R:List D->Mu->Prop),Ok K Z m H/\RS K Z m H d s/\f d m R /\
 ∀ xs m' vs H',R xs m'->Ext K Z m H m' H'->Ok K Z m' H'->RDs K Z m' H' xs vs->Q vs H'
def LS(K:ac)(f:DS):TS:=fun E s H=>∃ (Z:Addr->Prop) (d:bS) (m:Mu) (R:Ends2),Ok K Z m H/\RS K Z m H d s/\f R d m /\
 (∀ d' m' s' H',R.nx d' m'->Ext K Z m H m' H'->Ok K Z m' H'->RS K Z m' H' d' s'->E.nx s' H') /\
 (∀ x m' v H',R.rt x m'->Ext K Z m H m' H'->Ok K Z m' H'->RD K Z m' H' x v->E.rt v H') /\
 (∀ d' m' s' H',R.bk d' m'->Ext K Z m H m' H'->Ok K Z m' H'->RS K Z m' H' d' s'->E.bk s' H') /\
 (∀ d' m' s' H',R.ct d' m'->Ext K Z m H m' H'->Ok K Z m' H'->RS K Z m' H' d' s'->E.ct s' H')
theorem PE.imp{X:Cx}{e:Expr}{t t':TE}(h:PE X e t)(q:∀ s H Q,t' s H Q->t s H Q):PE X e t':=fun pins s d H Q I w=>h pins s d H Q I (q _ _ _ w)
theorem PT.imp{X:Cx}{e:Expr}{t t':TT}(h:PT X e t)(q:∀ s H Q,t' s H Q->t s H Q):PT X e t':=fun pins s d H Q I w=>h pins s d H Q I (q _ _ _ w)
theorem PA.imp{X:Cx}{e:List Expr}{t t':TA}(h:PA X e t)(q:∀ s H Q,t' s H Q->t s H Q):PA X e t':=fun pos pins s d H Q I w=>h pos pins s d H Q I (q _ _ _ w)
theorem PS.imp{X:Cx}{e:Stmt}{t t':TS}(h:PS X e t)(q:∀ E s H,t' E s H->t E s H):PS X e t':=fun pins s d H E I w=>h pins s d H E I (q _ _ _ w)
theorem PSs.imp{X:Cx}{e:List Stmt}{t t':TS}(h:PSs X e t)(q:∀ E s H,t' E s H->t E s H):PSs X e t':=fun pins s d H E I w=>h pins s d H E I (q _ _ _ w)
section
variable {X:Cx}{pos:Pos}
@[simp] def aA(i:Nat):DE:=fun d m Q=>∃ x,d[i]?=some (some x)/\Q x m
theorem FS(i:Nat){x:Str}(hN:X.N[i]?=some x:=by rfl)(hv:iQ X.env.scope x:=by first | exact Or.inl rfl | exact Or.inr (Or.inl rfl) | exact Or.inr (Or.inr rfl))(hd:(x==("__debug__" : Str))=false:=by decide)
  (hcd:(x==("__classdict__" : Str))=false:=by decide):PE X (.Name x pos) (LE X.K (aA i)) :=
 PE.imp (Y4 hN hv hd hcd) fun s H Q h=>by
  obtain⟨Z,d,m,R,ok,rs,⟨x,h1,h2⟩,k⟩:=h;obtain⟨v,q1,q2⟩:=rs.2 i x h1;exact⟨v,q1,k x m v H h2 Ext.refl ok q2⟩
@[simp] def aE(p:PyData):DE:=fun _ m Q=>Q (.dat p) m
theorem rG{e:Expr}{p:PyData}{v:V}(h:PE X e (tC v))(r:∀ Z m H,RP X.K Z m H p v):PE X e (LE X.K (aE p)) :=
 PE.imp h fun s H Q ⟨Z,d,m,R,ok,rs,h2,k⟩=>k _ m v H h2 Ext.refl ok (r Z m H)
theorem le_int{i:Int}{j:Nat}:PE X (.Constant (.int i) j pos) (LE X.K (aE (.int i))):=rG f7 fun Z m H=>by simp only[RP]
theorem Xa{b:Bool}{j:Nat}:PE X (.Constant (.bool b) j pos) (LE X.K (aE (.bool b))):=rG Uz fun Z m H=>by simp only[RP]
theorem AZ{j:Nat}:PE X (.Constant .none j pos) (LE X.K (aE .none)):=rG y9 fun Z m H=>by simp only[RP]
theorem le_str{x:Str}{j:Nat}:PE X (.Constant (.str x) j pos) (LE X.K (aE (.str x))):=rG zC fun Z m H=>by simp only[RP]
end
end DL
namespace DL
open PySem PySem.Spec PyProof.Rows L2
section
variable {X:Cx}{pins:List (Addr×Obj)}{σ:L2.St}{H:Hp}{s:Shared}{Z:Addr->Prop}{m:Mu}
mutual
theorem RP.reads0(I:Inv X pins σ H s):∀ (p:PyData) (v:V) (u:Value),RP X.K Z m H p v->RelV v u->p.hasDict=false->∃ as,Reads s.heap u p as
 | .none,v,u,h,r,_=>by simp only[RP]at h;subst h;cases r;exact⟨_,.none⟩
 | .bool b,v,u,h,r,_=>by simp only[RP]at h;subst h;cases r;exact⟨_,.bool b⟩
 | .int i,v,u,h,r,_=>by simp only[RP]at h;subst h;obtain⟨t,rfl⟩:=r;exact⟨_,.int i t⟩
 | .str x,v,u,h,r,_=>by simp only[RP]at h;subst h;obtain⟨t,rfl⟩:=r;exact⟨_,.str x t⟩
 | .tuple xs,v,u,h,r,nd=>by
  simp only[RP]at h;obtain⟨a,vs,rfl,h2,h3⟩:=h
  cases r
  obtain⟨its,rv,⟨o,e,c,n,d⟩,_⟩:=I.tuple h2;obtain⟨as,q⟩:=RPs.reads0 I xs vs its h3 rv nd;exact⟨_,.tuple e c d (by simpa using q)⟩
 | .list xs,v,u,h,r,nd=>by
  simp only[RP]at h;obtain⟨a,vs,rfl,_,h2,h3⟩:=h
  cases r
  obtain⟨its,rv,⟨o,n,e,c,_,d⟩,_⟩:=I.list h2;obtain⟨as,q⟩:=RPs.reads0 I xs vs its h3 rv nd;exact⟨_,.list e c d (by simpa using q)⟩
 | .dict _,v,u,h,r,nd=>nomatch nd
theorem RPs.reads0(I:Inv X pins σ H s):∀ (xs:List PyData) (vs:List V) (us:List Value),RPs X.K Z m H xs vs->Vals vs us->PyData.hasDictAll xs=false->∃ as,ReadsAll s.heap us xs as
 | [],vs,us,h,r,_=>by simp only[RPs]at h;subst h;cases r;exact⟨_,.nil⟩
 | x::xs,vs,us,h,r,nd=>by
  simp only[PyData.hasDictAll,Bool.or_eq_false_iff]at nd;simp only[RPs]at h;obtain⟨v,w,rfl,h1,h2⟩:=h
  cases r with
  | cons r1 r2 =>
   obtain⟨as,q1⟩:=RP.reads0 I x v _ h1 r1 nd.1;obtain⟨bs,q2⟩:=RPs.reads0 I xs w _ h2 r2 nd.2;exact⟨_,.cons q1 q2⟩
end
theorem RP.reads(I:Inv X pins σ H s)(p:PyData)(v:V)(u:Value)(h:RP X.K Z m H p v)(r:RelV v u)(nd:p.hasDict=false:=by first | assumption | (refine PyData.hasDict_of_canLay _ ?_;assumption)):∃ as,Reads s.heap u p as:=RP.reads0 I p v u h r nd
mutual
theorem RP.noDict(K:ac):∀ (p:PyData) (v:V),RP K Z m H p v->p.showable=true->p.hasDict=false
 | .none,_,_,_=>rfl
 | .bool _,_,_,_=>rfl
 | .int _,_,_,_=>rfl
 | .str _,_,_,_=>rfl
 | .tuple xs,v,h,sh=>by
  simp only[RP]at h;obtain⟨_,vs,_,_,h⟩:=h;simp only[PyData.hasDict];exact RPs.noDict K xs vs h sh
 | .list xs,v,h,sh=>by
  simp only[RP]at h;obtain⟨_,vs,_,_,_,h⟩:=h;simp only[PyData.hasDict];exact RPs.noDict K xs vs h sh
 | .dict kvs,v,h,sh=>by
  simp only[RP]at h;obtain⟨a,o,u,vs,_,_,_,h⟩:=h
  cases kvs with
  | nil=>simp[RPd]at h
  | cons x r =>
   obtain⟨k,p⟩:=x;simp only[RPd]at h;obtain⟨v,r',h1,_⟩:=h
   cases h1
   simp only[PyData.showable,PyData.showableKv,ED,Bool.false_and]at sh
   cases sh
theorem RPs.noDict(K:ac):∀ (xs:List PyData) (vs:List V),RPs K Z m H xs vs->PyData.showableAll xs=true->PyData.hasDictAll xs=false
 | [],_,_,_=>rfl
 | x::xs,vs,h,sh=>by
  simp only[PyData.showableAll,Bool.and_eq_true]at sh;simp only[RPs]at h;obtain⟨v,w,rfl,h1,h2⟩:=h;simp only[PyData.hasDictAll,RP.noDict K x v h1 sh.1,RPs.noDict K xs w h2 sh.2,Bool.or_self]
end
end
abbrev D2:=D->D->Mu->DK->Prop
def cM(X:Cx)(op:Value->Value->Sem Value)(r:D2):Prop :=
 ∀ (pins:List (Addr×Obj)) (s:Shared) (σ:L2.St) (H:Hp) (Z:Addr->Prop) (m:Mu) (x y:V) (dx dy:D) (v u:Value) (R:DK) (Q:VK),Inv X pins σ H s->Ok X.K Z m H->RelV x v->RelV y u->RD X.K Z m H dx x->RD X.K Z m H dy y->r dx dy m R ->
  (∀ d m' v' H',R d m'->Ext X.K Z m H m' H'->Ok X.K Z m' H'->RD X.K Z m' H' d v'->Q v' H')->wpAny (model X.prog X.w) X.A (op v u) (EP X pins σ Q) X.xe s
@[simp] def aF(r:D2)(f g:DE):DE:=fun d m Q=>f d m fun x m1=>g d m1 fun y m2=>r x y m2 Q
section
variable {X:Cx}{a b c:Expr}{f g:DE}{pos:Pos}
theorem zB{op:Value->Value->Sem Value}{r:D2}(ho:cM X op r)(ha:PE X a (LE X.K f))(hb:PE X b (LE X.K g)){pins:List (Addr×Obj)}{s:Shared}{σ:L2.St}{H:Hp}{Q:VK}(I:Inv X pins σ H s)
  (h:LE X.K (aF r f g) σ H Q) :
  wpAny (model X.prog X.w) X.A (eval a X.env) (fun v s₁=>wpAny (model X.prog X.w) X.A (eval b X.env) (fun u s₂=>wpAny (model X.prog X.w) X.A (op v u) (EP X pins σ Q) X.xe s₂) X.xe s₁) X.xe s:=by
 obtain⟨Z,d,m,R,ok,rs,hf,k⟩:=h;refine Nt ha hb I (R:=fun x y H2=>∃ m2 dx dy,Ok X.K Z m2 H2/\Ext X.K Z m H m2 H2/\RD X.K Z m2 H2 dx x/\RD X.K Z m2 H2 dy y/\r dx dy m2 R) ?_ fun v u s2 x y H2 I2 rx ry ⟨m2,dx,dy,ok2,e2,r1,r2,q⟩=>?_
 ·exact⟨Z,d,m,_,ok,rs,hf,fun x m1 v H1 q e1 ok1 r1=>⟨Z,d,m1,_,ok1,rs.ext e1,q,fun y m2 v2 H2 q2 e2 ok2 r2=>⟨m2,x,y,ok2,e1.trans e2,r1.ext e2,r2,q2⟩⟩⟩
 ·exact ho pins s2 σ H2 Z m2 x y dx dy v u R Q I2 ok2 rx ry r1 r2 q fun d' m' v' H' h1 h2 h3 h4=>k d' m' v' H' h1 (e2.trans h2) h3 h4
theorem AX{op:Operator}{r:D2}(ho:cM X (binaryOp op) r)(ha:PE X a (LE X.K f))(hb:PE X b (LE X.K g)):PE X (.BinOp a op b pos) (LE X.K (aF r f g)) :=
 fun _ _ _ _ _ I h=>wpAny_BinOp (zB ho ha hb I h)
theorem Wo{op:CmpOp}{r:D2}(ho:cM X (compareOp op) r)(ha:PE X a (LE X.K f))(hb:PE X b (LE X.K g))(hm:behindInMarks op b=false:=by exact rT _):PE X (.Compare a [op] [b] pos) (LE X.K (aF r f g)) :=
 fun _ _ _ _ _ I h=>wpAny_Compare1 (zB ho ha hb I h) hm
@[simp] def bG(f:DE):DT:=fun d m Q=>f d m fun x m1=>∃ b,x=.dat (.bool b)/\Q b m1
theorem LT.le{K:ac}{σ:L2.St}{H:Hp}{Q:Bool->Hp->Prop}(h:LT K (bG f) σ H Q):LE K f σ H (fun x H'=>∃ k,x=.bl k/\Q k H'):=by
 obtain⟨Z,d,m,R,ok,rs,hf,k⟩:=h;refine⟨Z,d,m,_,ok,rs,hf,fun x m' v H' ⟨b,e,q⟩ e1 ok1 rd=>⟨b,?_,k b m' H' q e1 ok1⟩⟩;subst e;simpa only[RD,RP] using rd
theorem x6{op:CmpOp}{r:D2}(ho:cM X (compareOp op) r)(ha:PE X a (LE X.K f))(hb:PE X b (LE X.K g))(hm:behindInMarks op b=false:=by exact rT _):PT X (.Compare a [op] [b] pos) (LT X.K (bG (aF r f g))):=by
 intro pins s σ H Q I h;refine wpAny_isTrue_Compare1 (aP (zB ho ha hb I h.le) fun v s1 h1=>aP h1 fun u s2 h2=>aP h2 fun c s3 ⟨z,H3,I3,r3,k,e,q3⟩=>?_) hm;subst e
 cases r3
 exact wpAny_truthy_bool ⟨H3,I3,q3⟩
theorem HR(h:PE X a (LE X.K f))(he:∀ whole,isTrue a X.env whole=(do let v <- whole;standAt a.pos;holding [v] (truthy v)):=by intro _;rfl):PT X a (LT X.K (bG f)) :=
 PT.imp (GU h he) fun _ _ _ q=>q.le
end
section
variable {X:Cx}{a b c:Expr}{rest:List Expr}{f g:DE}{t u:DT}{pos:Pos}
@[simp] def jC(t u:DT):DT:=fun d m Q=>t d m fun k m1=>if k=true then u d m1 Q else Q false m1
@[simp] def eA(t u:DT):DT:=fun d m Q=>t d m fun k m1=>if k=true then Q true m1 else u d m1 Q
@[simp] def iE(t:DT):DT:=fun d m Q=>t d m fun k m1=>Q (!k) m1
theorem PW.imp{e:Expr}{t t':TT}(h:PW X e t)(q:∀ s H Q,t' s H Q->t s H Q):PW X e t':=fun wh pins s d H Q I w=>h wh pins s d H Q I (q _ _ _ w)
theorem Yx(ha:PT X a (LT X.K t)):PW X (.BoolOp .And [a] pos) (LT X.K t):=X8 ha
theorem c9(ha:PT X a (LT X.K t)):PW X (.BoolOp .Or [a] pos) (LT X.K t):=Q1 ha
theorem S0(ha:PT X a (LT X.K t))(hb:PW X (.BoolOp .And (b::rest) pos) (LT X.K u)):PW X (.BoolOp .And (a::b::rest) pos) (LT X.K (jC t u)) :=
 PW.imp (GE ha hb) fun s H Q ⟨Z,d,m,R,ok,rs,h,k⟩=>⟨Z,d,m,_,ok,rs,h,fun b m1 H1 q e1 ok1=>by
  cases b with
  | true=>rw[if_pos rfl]at q ⊢;exact⟨Z,d,m1,R,ok1,rs.ext e1,q,fun b' m2 H2 q2 e2 ok2=>k b' m2 H2 q2 (e1.trans e2) ok2⟩
  | false=>rw[if_neg ak]at q ⊢;exact k false m1 H1 q e1 ok1⟩
theorem W9(ha:PT X a (LT X.K t))(hb:PW X (.BoolOp .Or (b::rest) pos) (LT X.K u)):PW X (.BoolOp .Or (a::b::rest) pos) (LT X.K (eA t u)) :=
 PW.imp (Yc ha hb) fun s H Q ⟨Z,d,m,R,ok,rs,h,k⟩=>⟨Z,d,m,_,ok,rs,h,fun b m1 H1 q e1 ok1=>by
  cases b with
  | false=>rw[if_neg ak]at q ⊢;exact⟨Z,d,m1,R,ok1,rs.ext e1,q,fun b' m2 H2 q2 e2 ok2=>k b' m2 H2 q2 (e1.trans e2) ok2⟩
  | true=>rw[if_pos rfl]at q ⊢;exact k true m1 H1 q e1 ok1⟩
theorem BS(ha:PT X a (LT X.K t)):PT X (.UnaryOp .Not a pos) (LT X.K (iE t)) :=
 PT.imp (AE ha) fun s H Q ⟨Z,d,m,R,ok,rs,h,k⟩=>⟨Z,d,m,_,ok,rs,h,fun b m1 H1 q e1 ok1=>k (!b) m1 H1 q e1 ok1⟩
@[simp] def lH(f g:DE):DE:=fun d m Q=>f d m fun x m1=>∃ b,x=.dat (.bool b)/\if b=true then g d m1 Q else Q (.dat (.bool false)) m1
@[simp] def vJ(f:DE):DE:=fun d m Q=>f d m fun x m1=>∃ b,x=.dat (.bool b)/\Q (.dat (.bool (!b))) m1
theorem RD.bl{K:ac}{Z:Addr->Prop}{m:Mu}{H:Hp}{b:Bool}{v:V}(h:RD K Z m H (.dat (.bool b)) v):v=.bl b:=by simpa only[RD,RP] using h
theorem RD.ofBl{K:ac}{Z:Addr->Prop}{m:Mu}{H:Hp}{b:Bool}:RD K Z m H (.dat (.bool b)) (.bl b):=by simp only[RD,RP]
theorem BZ{op:BoolOp}(h:PE X a (LE X.K f)):PE X (.BoolOp op [a] pos) (LE X.K f):=v9 h
theorem V9(ha:PE X a (LE X.K f))(hb:PE X (.BoolOp .And (b::rest) pos) (LE X.K g)):PE X (.BoolOp .And (a::b::rest) pos) (LE X.K (lH f g)) :=
 PE.imp (Zu ha hb) fun s H Q ⟨Z,d,m,R,ok,rs,h,k⟩=>⟨Z,d,m,_,ok,rs,h,fun x m1 v H1 ⟨b,e,q⟩ e1 ok1 rd=>by
  subst e;refine⟨b,rd.bl,?_⟩
  cases b with
  | true=>rw[if_pos rfl]at q ⊢;exact⟨Z,d,m1,R,ok1,rs.ext e1,q,fun x2 m2 v2 H2 q2 e2 ok2 r2=>k x2 m2 v2 H2 q2 (e1.trans e2) ok2 r2⟩
  | false=>rw[if_neg ak]at q ⊢;exact k _ m1 _ H1 q e1 ok1 .ofBl⟩
theorem HV(ha:PE X a (LE X.K f)):PE X (.UnaryOp .Not a pos) (LE X.K (vJ f)) :=
 PE.imp (CO ha) fun s H Q ⟨Z,d,m,R,ok,rs,h,k⟩=>⟨Z,d,m,_,ok,rs,h,fun x m1 v H1 ⟨b,e,q⟩ e1 ok1 rd=>by
  subst e;exact⟨b,rd.bl,k _ m1 _ H1 q e1 ok1 .ofBl⟩⟩
@[simp] def iC(t:DT)(f g:DE):DE:=fun d m Q=>t d m fun k m1=>if k=true then f d m1 Q else g d m1 Q
theorem G7(hc:PT X c (LT X.K t))(ha:PE X a (LE X.K f))(hb:PE X b (LE X.K g)):PE X (.IfExp c a b pos) (LE X.K (iC t f g)) :=
 PE.imp (IA hc ha hb) fun s H Q ⟨Z,d,m,R,ok,rs,h,k⟩=>⟨Z,d,m,_,ok,rs,h,fun b m1 H1 q e1 ok1=>by
  cases b with
  | true=>rw[if_pos rfl]at q ⊢;exact⟨Z,d,m1,R,ok1,rs.ext e1,q,fun x2 m2 v2 H2 q2 e2 ok2 r2=>k x2 m2 v2 H2 q2 (e1.trans e2) ok2 r2⟩
  | false=>rw[if_neg ak]at q ⊢;exact⟨Z,d,m1,R,ok1,rs.ext e1,q,fun x2 m2 v2 H2 q2 e2 ok2 r2=>k x2 m2 v2 H2 q2 (e1.trans e2) ok2 r2⟩⟩
end
section
variable {X:Cx}{e:Expr}{es:List Expr}{f:DE}{g:DA}{pos:Pos}
@[simp] def aI:DA:=fun _ m Q=>Q [] m
@[simp] def aC(f:DE)(g:DA):DA:=fun d m Q=>f d m fun x m1=>g d m1 fun xs m2=>Q (x::xs) m2
theorem Go:PA X [] (LA X.K aI):=PA.imp iV fun s H Q ⟨Z,d,m,R,ok,rs,h,k⟩=>k [] m [] H h Ext.refl ok rfl
theorem Su(ha:PE X e (LE X.K f))(hr:PA X es (LA X.K g))(hs:starEach (e::es) X.env=(false,eval e X.env)::starEach es X.env:=by rfl):PA X (e::es) (LA X.K (aC f g)) :=
 PA.imp (gU ha hr hs) fun s H Q ⟨Z,d,m,R,ok,rs,h,k⟩=>⟨Z,d,m,_,ok,rs,h,fun x m1 v H1 q e1 ok1 r1=>⟨Z,d,m1,_,ok1,rs.ext e1,q,fun xs m2 vs H2 q2 e2 ok2 r2 =>
  k (x::xs) m2 (v::vs) H2 q2 (e1.trans e2) ok2 ⟨v,vs,rfl,r1.ext e2,r2⟩⟩⟩
@[simp] def cY(g:DA):DE:=fun d m Q=>g d m fun xs m1=>∃ ps,pds xs=some ps/\ps.length<=sizeLine/\Q (.dat (.tuple ps)) m1
theorem FA{j:Nat}(h:PA X es (LA X.K g)):PE X (.Tuple es j pos) (LE X.K (cY g)) :=
 PE.imp (DM h) fun s H Q ⟨Z,d,m,R,ok,rs,h,k⟩=>⟨Z,d,m,_,ok,rs,h,fun xs m1 vs H1 ⟨ps,e,hz,q⟩ e1 ok1 r1=>by
  have rp:=r1.pds e
  refine⟨by rw[rp.length];exact hz,fun p hp=>?_⟩
  have sm:Same H1 (upd H1 p (.tup vs)):=dM hp
  refine k _ m1 _ _ q (e1.trans (ok1.ext sm)) (ok1.grow sm) ?_;simp only[RD,RP];exact⟨p,vs,rfl,.inl (.inl dS),RPs.ext (ok1.ext sm) _ _ rp⟩⟩
@[simp] def dD(g:DA):DE:=fun d m Q=>g d m fun xs m1=>∃ ps,pds xs=some ps/\ps.length<=sizeLine/\Q (.dat (.list ps)) m1
@[simp] def jO(g:DA):DE:=fun d m Q=>g d m fun xs m1=>∃ ps,pds xs=some ps/\ps.length<=sizeLine/\∀ a,m1 a=none->Q (.cel a) (bW m1 a (.l ps))
theorem Jg{t:TA}(h:PA X es t):PE X (.List es pos) (fun s H Q=>t s H fun xs H1=>xs.length<=sizeLine/\∀ p,H1 p=none->X.K.lookup p=none->Q (.ref p) (upd H1 p (.lst xs))):=by
 intro pins s σ H Q I hq;refine wpAny_List_spliced (aP (h pos pins s σ H _ I hq) fun us s1 ⟨xs,H1,I1,r,z,q⟩=>⟨by rw[<- r.length];exact z,?_⟩)
 have hf:H1 s1.heap.objs.size=none:=I1.hok.fresh (aj _)
 have hk:X.K.lookup s1.heap.objs.size=none:=by
  cases e:X.K.lookup s1.heap.objs.size with
  | none=>rfl
  | some o=>exact absurd (af (I1.kIn _ o e)) (Nat.lt_irrefl _)
 refine⟨.ref s1.heap.objs.size,upd H1 s1.heap.objs.size (.lst xs),I1.laid (t':=s1.toks) (fun b u e=>ag _ e) (aj _) ?_,rfl,q _ hf hk⟩;exact⟨z,us,0,r,ah _ rfl⟩
theorem fH{K:ac}{Z:Addr->Prop}{m:Mu}{H:Hp}{p:Addr}(ok:Ok K Z m H)(hp:H p=none):m p=none/\¬ Z p:=by
 refine⟨?_,fun h=>(ok.z p h).2 hp⟩
 cases e:m p with
 | none=>rfl
 | some ds =>
  obtain⟨vs,h1,_⟩:=ok.g p ds e;rw[hp]at h1
  cases h1
theorem d9(h:PA X es (LA X.K g)):PE X (.List es pos) (LE X.K (dD g)) :=
 PE.imp (Jg h) fun s H Q ⟨Z,d,m,R,ok,rs,h,k⟩=>⟨Z,d,m,_,ok,rs,h,fun xs m1 vs H1 ⟨ps,e,hz,q⟩ e1 ok1 r1=>by
  have rp:=r1.pds e
  refine⟨by rw[rp.length];exact hz,fun p hp hk=>?_⟩
  have sm:Same H1 (upd H1 p (.lst vs)):=dM hp
  refine k _ m1 _ _ q (e1.trans (ok1.ext sm)) (ok1.grow sm) ?_;simp only[RD,RP];exact⟨p,vs,rfl,fH ok1 hp,.inl (.inl dS),RPs.ext (ok1.ext sm) _ _ rp⟩⟩
theorem w6(h:PA X es (LA X.K g)):PE X (.List es pos) (LE X.K (jO g)) :=
 PE.imp (Jg h) fun s H Q ⟨Z,d,m,R,ok,rs,h,k⟩=>⟨Z,d,m,_,ok,rs,h,fun xs m1 vs H1 ⟨ps,e,hz,q⟩ e1 ok1 r1=>by
  have rp:=r1.pds e
  refine⟨by rw[rp.length];exact hz,fun p hp hk=>?_⟩
  refine k _ _ _ _ (q p (fH ok1 hp).1) (e1.trans (Ext.cell ok1 hp hk)) (ok1.cell hp hk rp) ⟨rfl,?_⟩;rw[cO]
  rfl⟩
end
end DL
namespace DL
open PySem PySem.Spec PyProof.Rows L2
theorem Vj:fillsNumberSlot (.type "tuple") "mul"=pure false:=PySem.fillsNumberSlot_seq (id:="tuple.__mul__") (r:=some (.builtin "tuple.__rmul__")) PySem.F.slot_tuple_mul.lookup (by decide +kernel) PySem.F.slot_tuple_rmul.lookup (by decide +kernel)
theorem Uk:seqRepeat? (.type "tuple")=pure (some (.builtin "tuple.__mul__")):=by
 unfold seqRepeat?;rw[PySem.seqSlot_of (T:="tuple") (name:="__mul__") (id:="tuple.__mul__") PySem.F.slot_tuple_mul.lookup (by decide +kernel),PySem.seqSlot_of (T:="tuple") (name:="__rmul__") (id:="tuple.__rmul__") PySem.F.slot_tuple_rmul.lookup (by decide +kernel)]
 rfl
theorem DB(a:Int)(t:Tok)(l:Addr)(its:Array Value)(n:Nat)(dd:Option Addr)(sl:Array (Option Value)):Meets (Builtin.«int.__rmul__» ⟨[.int a t,.ref l],[]⟩) (fun _ R s=>s.heap.get? l=some {cls:=.type "tuple",dict:=dd,data:=.seq its n,slots:=sl}/\R (.ok (.ret Value.notImplemented)) s) :=
 .of_wp fun prog w A R s hs=>by
  obtain⟨hp,g,d,tk,os⟩:=s;obtain⟨hl,h⟩:=hs
  wp_walk
  exact⟨_,rfl,h⟩
theorem uA(vs:List Value):∀ (n:Nat) (acc:List Value),(List.replicate n vs.toArray).foldl (·++·) acc.toArray=(acc++(List.replicate n vs).flatten).toArray
 | 0,acc=>by simp
 | n+1,acc=>by
  rw[List.replicate_succ,List.foldl_cons,List.replicate_succ,List.flatten_cons];have:=uA vs n (acc++vs)
  rw[<- List.append_assoc,<- this];simp
theorem sS{α:Type}(xs:List α):∀ n:Nat,(List.replicate n xs).flatten.length=xs.length*n
 | 0=>by simp
 | n+1=>by rw[List.replicate_succ,List.flatten_cons,List.length_append,sS xs n,Nat.mul_succ,Nat.add_comm]
theorem CD(t:Addr)(its:Array Value)(k:Int)(tok:Tok)(h1:its.size≠0)(h2:2<=k)(h3:k<=100)(h4:its.size*k.toNat<=sizeLine):Meets (Builtin.«tuple.__mul__» ⟨[.ref t,.int k tok],[]⟩)
  (fun _ R s=>IsTup s.heap t its/\R (.ok (.ret (.ref s.heap.objs.size))) {s with heap:=s.heap.push {cls:=.type "tuple",data:=.seq ((List.replicate k.toNat its).foldl (·++·) #[])}}) :=
 .of_wp fun prog w A R s hs=>by
  obtain⟨ht,h⟩:=hs;show wpAny _ _ (asIndex (.int k tok)>>=_) _ _ _
  refine ad (ae ?_);show wpAny _ _ (if (decide (k < -(2^63))||decide (k ≥ 2^63))=true then _ else _) _ _ _
  rw[if_neg (by simp;omega)]
  show wpAny _ _ (Builtin.Tuple.tupleItemsOf (.ref t)>>=_) _ _ _
  refine ad (tupleItemsOf_ ht ?_);have e1:its.isEmpty=false:=by
   rw[Array.isEmpty_eq_false_iff];rintro rfl;exact h1 rfl
  have e2:(k==1)=false:=by
   rw[beq_eq_false_iff_ne];omega
  show wpAny _ _ (if (its.isEmpty||k==1)=true then _ else _) _ _ _
  rw[e1,e2,if_neg (by simp)]
  show wpAny _ _ (if (decide (k<=0)||false)=true then _ else _) _ _ _
  rw[if_neg (by simp;omega)]
  have hk:((its.size:Nat):Int)*k=((its.size*k.toNat:Nat):Int):=by
   push_cast
   rw[Int.toNat_of_nonneg (by omega)]
  have hs:=jX
  show wpAny _ _ (if ((its.size:Nat):Int)*k > (2^63-1) / 8 then _ else _) _ _ _
  rw[if_neg ?c1]
  case c1 =>
   rw[hk];have:(sizeLine:Nat)<=(2^63-1) / 8:=by decide
   omega
  show wpAny _ _ (if (decide (((its.size:Nat):Int)*k > (sizeLine:Int)))=true then _ else _) _ _ _
  rw[if_neg ?c2]
  case c2 =>
   rw[hk];intro q;have q':=of_decide_eq_true q
   omega
  show wpAny _ _ (Builtin.Tuple.tupleExact ((List.replicate k.toNat its).foldl (·++·) #[])>>=_) _ _ _
  refine ad (m:=Builtin.Tuple.tupleExact _) (wpAny_newObj_type (ae ⟨_,rfl,h⟩) ?_);show((List.replicate k.toNat its).foldl (·++·) #[]).size<=sizeLine
  have e:=uA its.toList k.toNat []
  rw[List.nil_append]at e;have e':(List.replicate k.toNat its).foldl (·++·) #[]=(List.replicate k.toNat its.toList).flatten.toArray:=e
  rw[e',au,sS,Array.length_toList];exact h4
theorem Vals.rep{xs:List V}{us:List Value}(h:Vals xs us):∀ n:Nat,Vals (List.replicate n xs).flatten (List.replicate n us).flatten
 | 0=>.nil
 | n+1=>by
  rw[List.replicate_succ,List.replicate_succ,List.flatten_cons,List.flatten_cons];exact h.append (Vals.rep h n)
theorem RPs.rep{K:ac}{Z:Addr->Prop}{m:Mu}{H:Hp}{xs:List PyData}{vs:List V}(h:RPs K Z m H xs vs):∀ n:Nat,RPs K Z m H (List.replicate n xs).flatten (List.replicate n vs).flatten
 | 0=>by simp[RPs]
 | n+1=>by
  rw[List.replicate_succ,List.replicate_succ,List.flatten_cons,List.flatten_cons];exact h.append (RPs.rep h n)
section
variable {X:Cx}
theorem P8{pins:List (Addr×Obj)}{s:Shared}{σ:L2.St}{H:Hp}{Q:VK}{a:Addr}{xs:List V}{k:Int}{t:Tok}(I:Inv X pins σ H s)(ha:SqT X.K H a xs)(h1:xs≠[])(h2:2<=k)(h3:k<=100)(h4:xs.length*k.toNat<=sizeLine)
  (q:∀ p,H p=none->Q (.ref p) (upd H p (.tup (List.replicate k.toNat xs).flatten))):wpAny (model X.prog X.w) X.A (binaryOp .Mult (.ref a) (.int k t)) (EP X pins σ Q) X.xe s:=by
 obtain⟨its,r,p,hz⟩:=I.tuple ha;have hl:=r.length
 obtain⟨⟨cls,dd,data,sl⟩,ho,hc,n,hd⟩:=id p;simp only at hc hd;subst hc hd;refine wpAny_binaryOp_repeat_ref (T:="tuple") (U:="int") (by decide) ⟨_,ho,rfl⟩ (fun s'=>typeIs_int s' k t) Vj PySem.F.fills_int_mul PySem.F.slot_int_rmul Uk PySem.F.slot_int_index.lookup
  (call_meets PySem.F.slot_int_rmul (typeIs_int s k t) PySem.F.entry_int_rmul (PySem.F.args_int_rmul_2 _ _) (DB k t a its.toArray n dd sl) ⟨ho,rfl,⟨_,ho,rfl⟩,call_meets PySem.F.slot_tuple_mul ⟨_,ho,rfl⟩ PySem.F.entry_tuple_mul (PySem.F.args_tuple_mul_2 _ _) (CD a its.toArray k t ?_ h2 h3 ?_) ⟨p,?_⟩⟩)
 ·rw[au,<- hl];intro e;exact h1 (List.length_eq_zero_iff.mp e)
 ·rw[au,<- hl];exact h4
 ·have e:=uA its k.toNat []
  rw[List.nil_append]at e;rw[e];exact⟨.ref s.heap.objs.size,_,I.laid (t':=s.toks) (o:=.tup (List.replicate k.toNat xs).flatten) (fun b ob q=>ag _ q) (aj _) ⟨⟨by rw[sS];exact h4,NoD.new _ _ _⟩,_,Vals.rep r k.toNat,IsTup.new _ _⟩,rfl,q _ (I.hok.fresh (aj _))⟩
end
end DL
namespace DL
open PySem PySem.Spec PyProof.Rows L2
@[simp] def cF:D2
 | .dat (.int i),.dat (.int j),m,Q=>Q (.dat (.int (i+j))) m
 | .dat (.str a),.dat (.str b),m,Q=>a.length+b.length<=sizeLine/\Q (.dat (.str (a++b))) m
 | .dat (.tuple a),.dat (.tuple b),m,Q=>a.length+b.length<=sizeLine/\Q (.dat (.tuple (a++b))) m
 | .dat (.list a),.dat (.list b),m,Q=>a.length+b.length<=sizeLine/\Q (.dat (.list (a++b))) m
 | .cel c,.dat (.list b),m,Q=>∃ a,m c=some (.l a)/\a.length+b.length<=sizeLine/\Q (.dat (.list (a++b))) m
 | _,_,_,_=>False
@[simp] def fV:D2
 | .dat (.int i),.dat (.int j),m,Q=>Q (.dat (.int (i-j))) m
 | _,_,_,_=>False
@[simp] def fI:D2
 | .dat (.int i),.dat (.int j),m,Q=>IntMulOk i j/\Q (.dat (.int (i*j))) m
 | .dat (.tuple a),.dat (.int k),m,Q=>a≠[]/\2<=k/\k<=100/\a.length*k.toNat<=sizeLine/\Q (.dat (.tuple (List.replicate k.toNat a).flatten)) m
 | _,_,_,_=>False
@[simp] def mT:D2
 | .dat (.int i),.dat (.int j),m,Q=>j≠0/\j.natAbs.log2<9000/\Q (.dat (.int (i.fdiv j))) m
 | _,_,_,_=>False
@[simp] def fS:D2
 | .dat (.int i),.dat (.int j),m,Q=>j≠0/\Q (.dat (.int (i.fmod j))) m
 | _,_,_,_=>False
@[simp] def uF:D2
 | .dat (.int i),.dat (.int j),m,Q=>(0<=j/\j<=1000000/\i.natAbs<2^64)/\Q (.dat (.int (i^j.toNat))) m
 | _,_,_,_=>False
@[simp] def lO:D2
 | .dat (.int i),.dat (.int j),m,Q=>Q (.dat (.bool (decide (i<j)))) m
 | _,_,_,_=>False
@[simp] def kU:D2
 | .dat (.int i),.dat (.int j),m,Q=>Q (.dat (.bool (decide (i<=j)))) m
 | _,_,_,_=>False
@[simp] def fA:D2
 | .dat (.int i),.dat (.int j),m,Q=>Q (.dat (.bool (decide (j<i)))) m
 | _,_,_,_=>False
@[simp] def qH:D2
 | .dat (.int i),.dat (.int j),m,Q=>Q (.dat (.bool (decide (j<=i)))) m
 | _,_,_,_=>False
@[simp] def cJ:D2
 | .dat (.str a),.dat (.str b),m,Q=>Q (.dat (.bool (decide (a=b)))) m
 | .dat p,.dat q,m,Q=>p.canLay0=true/\q.canLay0=true/\p.depth<=100/\Q (.dat (.bool (PyData.eqv p q))) m
 | _,_,_,_=>False
@[simp] def fQ:D2
 | .dat (.str a),.dat (.str b),m,Q=>Q (.dat (.bool (!decide (a=b)))) m
 | .dat p,.dat q,m,Q=>p.canLay0=true/\q.canLay0=true/\p.depth<=100/\Q (.dat (.bool (!PyData.eqv p q))) m
 | _,_,_,_=>False
section
variable {X:Cx}
theorem RD.int{K:ac}{Z:Addr->Prop}{m:Mu}{H:Hp}{i:Int}{v:V}(h:RD K Z m H (.dat (.int i)) v):v=.int i:=by simpa only[RD,RP] using h
theorem RD.ofInt{K:ac}{Z:Addr->Prop}{m:Mu}{H:Hp}{i:Int}:RD K Z m H (.dat (.int i)) (.int i):=by simp only[RD,RP]
theorem RD.str{K:ac}{Z:Addr->Prop}{m:Mu}{H:Hp}{i:Str}{v:V}(h:RD K Z m H (.dat (.str i)) v):v=.str i:=by simpa only[RD,RP] using h
theorem RD.ofStr{K:ac}{Z:Addr->Prop}{m:Mu}{H:Hp}{i:Str}:RD K Z m H (.dat (.str i)) (.str i):=by simp only[RD,RP]
theorem hJ:cM X (binaryOp .Sub) fV:=by
 intro pins s σ H Z m x y dx dy v u R Q I ok rx ry r1 r2 h k;unfold fV at h
 split at h
 ·cases r1.int;cases r2.int
  exact F9 pins s σ H _ _ v u Q I rx ry ⟨_,_,rfl,rfl,k _ m _ H h Ext.refl ok .ofInt⟩
 ·exact h.elim
theorem gF:cM X (binaryOp .Mult) fI:=by
 intro pins s σ H Z m x y dx dy v u R Q I ok rx ry r1 r2 h k;unfold fI at h
 split at h
 ·cases r1.int;cases r2.int
  obtain⟨t,rfl⟩:=rx;obtain⟨t',rfl⟩:=ry;exact mul_int ⟨.int _,H,I.tok _,⟨_,rfl⟩,k _ m _ H h.2 Ext.refl ok .ofInt⟩ h.1
 ·rename_i a j;obtain⟨h1,h2,h3,h4,h5⟩:=h
  cases r2.int
  simp only[RD,RP]at r1;obtain⟨p,vs,rfl,g1,g2⟩:=r1
  cases rx
  obtain⟨t',rfl⟩:=ry;have hl:=g2.length
  refine P8 I g1 (fun e=>h1 ?_) h2 h3 (by rw[hl];exact h4) fun t ht=>?_
  ·subst e
   cases a with
   | nil=>rfl
   | cons _ _=>simp at hl
  ·have sm:Same H (upd H t (.tup (List.replicate j.toNat vs).flatten)):=dM ht
   refine k _ m _ _ h5 (ok.ext sm) (ok.grow sm) ?_;simp only[RD,RP];exact⟨t,_,rfl,.inl (.inl dS),RPs.ext (ok.ext sm) _ _ (g2.rep _)⟩
 ·exact h.elim
theorem sW:cM X (binaryOp .FloorDiv) mT:=by
 intro pins s σ H Z m x y dx dy v u R Q I ok rx ry r1 r2 h k;unfold mT at h
 split at h
 ·cases r1.int;cases r2.int
  obtain⟨t,rfl⟩:=rx;obtain⟨t',rfl⟩:=ry;exact floordiv_int h.1 ⟨.int _,H,I.tok _,⟨_,rfl⟩,k _ m _ H h.2.2 Ext.refl ok .ofInt⟩ (.inl (PyProof.noPylong_of_log2 h.2.1))
 ·exact h.elim
theorem gQ:cM X (binaryOp .Mod) fS:=by
 intro pins s σ H Z m x y dx dy v u R Q I ok rx ry r1 r2 h k;unfold fS at h
 split at h
 ·cases r1.int;cases r2.int
  exact Yl pins s σ H _ _ v u Q I rx ry ⟨_,_,rfl,rfl,h.1,k _ m _ H h.2 Ext.refl ok .ofInt⟩
 ·exact h.elim
theorem B6:cM X (binaryOp .Pow) uF:=by
 intro pins s σ H Z m x y dx dy v u R Q I ok rx ry r1 r2 h k;unfold uF at h
 split at h
 ·cases r1.int;cases r2.int
  exact r8 pins s σ H _ _ v u Q I rx ry ⟨_,_,rfl,rfl,h.1,k _ m _ H h.2 Ext.refl ok .ofInt⟩
 ·exact h.elim
theorem qQ:cM X (compareOp .Lt) lO:=by
 intro pins s σ H Z m x y dx dy v u R Q I ok rx ry r1 r2 h k;unfold lO at h
 split at h
 ·cases r1.int;cases r2.int
  exact T8 pins s σ H _ _ v u Q I rx ry ⟨_,_,rfl,rfl,k _ m _ H h Ext.refl ok .ofBl⟩
 ·exact h.elim
theorem rJ:cM X (compareOp .LtE) kU:=by
 intro pins s σ H Z m x y dx dy v u R Q I ok rx ry r1 r2 h k;unfold kU at h
 split at h
 ·cases r1.int;cases r2.int
  exact S4 pins s σ H _ _ v u Q I rx ry ⟨_,_,rfl,rfl,k _ m _ H h Ext.refl ok .ofBl⟩
 ·exact h.elim
theorem fP:cM X (compareOp .Gt) fA:=by
 intro pins s σ H Z m x y dx dy v u R Q I ok rx ry r1 r2 h k;unfold fA at h
 split at h
 ·cases r1.int;cases r2.int
  exact C5 pins s σ H _ _ v u Q I rx ry ⟨_,_,rfl,rfl,k _ m _ H h Ext.refl ok .ofBl⟩
 ·exact h.elim
theorem Pj:cM X (compareOp .GtE) qH:=by
 intro pins s σ H Z m x y dx dy v u R Q I ok rx ry r1 r2 h k;unfold qH at h
 split at h
 ·cases r1.int;cases r2.int
  exact Z8 pins s σ H _ _ v u Q I rx ry ⟨_,_,rfl,rfl,k _ m _ H h Ext.refl ok .ofBl⟩
 ·exact h.elim
theorem cQ(hu:X.A.units+100<cLine):cM X (compareOp .Eq) cJ:=by
 intro pins s σ H Z m x y dx dy v u R Q I ok rx ry r1 r2 h k;unfold cJ at h
 split at h
 ·cases r1.str;cases r2.str
  refine P3 pins s σ H _ _ v u Q I rx ry ⟨rfl,?_⟩;have e:∀ a b:Str,decide (V.str a=V.str b)=decide (a=b):=fun a b=>by
   rw[Bool.eq_iff_iff];simp
  rw[e];exact k _ m _ H h Ext.refl ok .ofBl
 ·rename_i p q hne;obtain⟨h1,h2,h3,h4⟩:=h;obtain⟨as,ra⟩:=RP.reads I p x v r1 rx;obtain⟨bs,rb⟩:=RP.reads I q y u r2 ry;exact SeqAt.compareEq_reads ra rb h1 h2 (by omega) ⟨.bl _,H,I,rfl,k _ m _ H h4 Ext.refl ok .ofBl⟩
 ·exact h.elim
theorem gK(hu:X.A.units+100<cLine):cM X (compareOp .NotEq) fQ:=by
 intro pins s σ H Z m x y dx dy v u R Q I ok rx ry r1 r2 h k;unfold fQ at h
 split at h
 ·cases r1.str;cases r2.str
  refine Wn pins s σ H _ _ v u Q I rx ry ⟨rfl,?_⟩;have e:∀ a b:Str,decide (V.str a=V.str b)=decide (a=b):=fun a b=>by
   rw[Bool.eq_iff_iff];simp
  rw[e];exact k _ m _ H h Ext.refl ok .ofBl
 ·rename_i p q hne;obtain⟨h1,h2,h3,h4⟩:=h;obtain⟨as,ra⟩:=RP.reads I p x v r1 rx;obtain⟨bs,rb⟩:=RP.reads I q y u r2 ry;exact SeqAt.compareNe_reads ra rb h1 h2 (by omega) ⟨.bl _,H,I,rfl,k _ m _ H h4 Ext.refl ok .ofBl⟩
 ·exact h.elim
theorem j1{pins:List (Addr×Obj)}{s:Shared}{σ:L2.St}{H:Hp}{Q:VK}{a b:Addr}{ys:List V}(I:Inv X pins σ H s)(ha:SqT X.K H a [])(hb:SqT X.K H b ys)(q:Q (.ref b) H) :
  wpAny (model X.prog X.w) X.A (binaryOp .Add (.ref a) (.ref b)) (EP X pins σ Q) X.xe s:=by
 obtain⟨its,r1,p1,_⟩:=I.tuple ha;obtain⟨its2,r2,p2,_⟩:=I.tuple hb
 cases r1
 obtain⟨⟨cls,dd,data,sl⟩,ho,hc,n,hd⟩:=id p1;obtain⟨⟨cls2,dd2,data2,sl2⟩,ho2,hc2,n2,hd2⟩:=id p2;simp only at hc hd hc2 hd2;subst hc hd hc2 hd2;exact concat_meets ⟨_,ho,rfl⟩ ⟨_,ho2,rfl⟩ noFill_tuple_add seq_tuple_add PySem.F.slot_tuple_add PySem.F.entry_tuple_add (PySem.F.args_tuple_add_2 _ _)
   (tuple_addW0 a b _ _ n n2 dd dd2 sl sl2 (by simp)) ⟨ho,ho2,⟨.ref b,H,I,rfl,q⟩⟩
theorem Cm:OpR X (binaryOp .Add) (fun x y H Q=>∃ a b xs ys,x=.ref a/\y=.ref b/\SqL X.K H a xs/\SqL X.K H b ys/\xs.length+ys.length<=sizeLine/\∀ p,H p=none->Q (.ref p) (upd H p (.lst (xs++ys)))):=by
 intro pins s σ H x y v u Q I rx ry h;obtain⟨a,b,xs,ys,rfl,rfl,ha,hb,hz,q⟩:=h
 cases rx
 cases ry
 obtain⟨its,r1,p1,_⟩:=I.list ha;obtain⟨its2,r2,p2,_⟩:=I.list hb;obtain⟨⟨cls,dd,data,sl⟩,ho,hc,n,hd⟩:=id p1.isList;obtain⟨⟨cls2,dd2,data2,sl2⟩,ho2,hc2,n2,hd2⟩:=id p2.isList;simp only at hc hd hc2 hd2;subst hc hd hc2 hd2;have l1:=r1.length
 have l2:=r2.length
 have e:its.toArray++its2.toArray=(its++its2).toArray:=by simp
 refine concat_meets ⟨_,ho,rfl⟩ ⟨_,ho2,rfl⟩ noFill_list_add seq_list_add PySem.F.slot_list_add PySem.F.entry_list_add (PySem.F.args_list_add_2 _ _)
   (list_addW a b its.toArray its2.toArray n n2 dd dd2 sl sl2 (by rw[au,au];omega)) ⟨ho,ho2,?_⟩
 rw[e];exact⟨.ref s.heap.objs.size,_,I.laid (t':=s.toks) (o:=.lst (xs++ys)) (fun b ob q=>ag _ q) (aj _) ⟨by rw[List.length_append];omega,_,0,r1.append r2,ah _ rfl⟩,rfl,q _ (I.hok.fresh (aj _))⟩
theorem cH:cM X (binaryOp .Add) cF:=by
 intro pins s σ H Z m x y dx dy v u R Q I ok rx ry r1 r2 h k;unfold cF at h
 split at h
 ·cases r1.int;cases r2.int
  exact AI pins s σ H _ _ v u Q I rx ry ⟨_,_,rfl,rfl,k _ m _ H h Ext.refl ok .ofInt⟩
 ·cases r1.str;cases r2.str
  exact l0 pins s σ H _ _ v u Q I rx ry ⟨_,_,rfl,rfl,h.1,k _ m _ H h.2 Ext.refl ok .ofStr⟩
 ·rename_i a b;simp only[RD,RP]at r1 r2;obtain⟨p,vs,rfl,h1,h2⟩:=r1;obtain⟨q,ws,rfl,g1,g2⟩:=r2;have l1:=h2.length
  have l2:=g2.length
  by_cases e1:a=[]
  ·subst e1;simp only[RPs]at h2;subst h2
   cases rx;cases ry
   refine j1 I h1 g1 (k _ m _ H h.2 Ext.refl ok ?_);simp only[RD,RP];exact⟨q,ws,rfl,g1,by simpa using g2⟩
  ·refine BR pins s σ H _ _ v u Q I rx ry ⟨p,q,vs,ws,rfl,rfl,h1,g1,?_,by omega,fun e2=>?_,fun e2 t ht=>?_⟩
   ·rintro rfl
    cases a with
    | nil=>exact e1 rfl
    | cons _ _=>simp at l1
   ·subst e2;have e3:b=[]:=by cases b with | nil=>rfl | cons _ _=>simp at l2
    subst e3;refine k _ m _ H h.2 Ext.refl ok ?_;simp only[RD,RP];exact⟨p,vs,rfl,h1,by simpa using h2⟩
   ·have sm:Same H (upd H t (.tup (vs++ws))):=dM ht
    refine k _ m _ _ h.2 (ok.ext sm) (ok.grow sm) ?_;simp only[RD,RP];exact⟨t,_,rfl,.inl (.inl dS),RPs.ext (ok.ext sm) _ _ (h2.append g2)⟩
 ·rename_i a b;simp only[RD,RP]at r1 r2;obtain⟨p,vs,rfl,h0,h1,h2⟩:=r1;obtain⟨q,ws,rfl,g0,g1,g2⟩:=r2;have l1:=h2.length
  have l2:=g2.length
  refine Cm pins s σ H _ _ v u Q I rx ry ⟨p,q,vs,ws,rfl,rfl,h1,g1,by omega,fun t ht=>?_⟩
  have sm:Same H (upd H t (.lst (vs++ws))):=dM ht
  refine k _ m _ _ h.2 (ok.ext sm) (ok.grow sm) ?_;simp only[RD,RP];exact⟨t,_,rfl,fH ok ht,.inl (.inl dS),RPs.ext (ok.ext sm) _ _ (h2.append g2)⟩
 ·rename_i c b;obtain⟨aa,hm,hz,hq⟩:=h;obtain⟨rfl,_⟩:=r1;obtain⟨vs,g0,g3⟩:=ok.l hm;simp only[RD,RP]at r2;obtain⟨q,ws,rfl,_,g1,g2⟩:=r2;have l1:=g3.length
  have l2:=g2.length
  refine Cm pins s σ H _ _ v u Q I rx ry ⟨c,q,vs,ws,rfl,rfl,.inl (.inl g0),g1,by omega,fun t ht=>?_⟩
  have sm:Same H (upd H t (.lst (vs++ws))):=dM ht
  refine k _ m _ _ hq (ok.ext sm) (ok.grow sm) ?_;simp only[RD,RP];exact⟨t,_,rfl,fH ok ht,.inl (.inl dS),RPs.ext (ok.ext sm) _ _ (g3.append g2)⟩
 ·exact h.elim
end
end DL
namespace DL
open PySem PySem.Spec PyProof.Rows L2
section
variable {X:Cx}{a b c e:Expr}{es:List Expr}{f g:DE}{ga:DA}{pos p2 p:Pos}
@[simp] def jG(f:DE):DE:=fun d m Q=>f d m fun x m1=>∃ i,x=.dat (.int i)/\Q (.dat (.int (-i))) m1
theorem AR(ha:PE X a (LE X.K f)):PE X (.UnaryOp .USub a pos) (LE X.K (jG f)) :=
 PE.imp (M4 t8 ha) fun s H Q h=>by
  obtain⟨Z,d,m,R,ok,rs,h,k⟩:=h;refine⟨Z,d,m,_,ok,rs,h,fun x m1 v H1 ⟨i,e,q⟩ e1 ok1 rd=>?_⟩;subst e;exact⟨i,rd.int,k _ m1 _ H1 q e1 ok1 .ofInt⟩
@[simp] def aN:D2
 | .dat (.tuple xs),.dat (.int i),m,Q=>∃ p,bR xs i=some p/\Q (.dat p) m
 | .dat (.list xs),.dat (.int i),m,Q=>∃ p,bR xs i=some p/\Q (.dat p) m
 | .cel a,.dat (.int i),m,Q=>∃ xs p,m a=some (.l xs)/\bR xs i=some p/\Q (.dat p) m
 | .dat (.str z),.dat (.int i),m,Q=>∃ c,z.length<=sizeLine/\bR z.cps.toList i=some c/\Q (.dat (.str ⟨#[c]⟩)) m
 | _,_,_,_=>False
theorem RPs.at{K:ac}{Z:Addr->Prop}{m:Mu}{H:Hp}{xs:List PyData}{vs:List V}{i:Int}{p:PyData}(h:RPs K Z m H xs vs)(e:bR xs i=some p):∃ v,bR vs i=some v/\RP K Z m H p v:=by
 unfold bR at e ⊢;rw[h.length]
 cases q:dQ xs.length i with
 | none=>rw[q]at e;cases e
 | some j =>
  rw[q]at e;exact h.get (i:=j) e
theorem GS(ha:PE X a (LE X.K f))(hb:PE X b (LE X.K g))(hs:uN b:=by exact fun _ _=>rfl):PE X (.Subscript a b pos) (LE X.K (aF aN f g)) :=
 PE.imp (Ys Y7 ha hb hs) fun s H Q h=>by
  obtain⟨Z,d,m,R,ok,rs,h,k⟩:=h;refine⟨Z,d,m,_,ok,rs,h,fun x m1 v H1 q e1 ok1 rx=>⟨Z,d,m1,_,ok1,rs.ext e1,q,fun y m2 w H2 q2 e2 ok2 ry=>?_⟩⟩;have rx2:=rx.ext e2
  have e12:=e1.trans e2
  unfold aN at q2
  split at q2
  ·obtain⟨p,ep,q⟩:=q2
   cases ry.int
   simp only[RD,RP]at rx2;obtain⟨a,vs,rfl,h1,h2⟩:=rx2;obtain⟨z,ez,rz⟩:=h2.at ep;exact .inr (.inl ⟨a,vs,_,z,rfl,rfl,h1,ez,k _ m2 z H2 q e12 ok2 rz⟩)
  ·obtain⟨p,ep,q⟩:=q2
   cases ry.int
   simp only[RD,RP]at rx2;obtain⟨a,vs,rfl,_,h1,h2⟩:=rx2;obtain⟨z,ez,rz⟩:=h2.at ep;exact .inl ⟨a,vs,_,z,rfl,rfl,h1,ez,k _ m2 z H2 q e12 ok2 rz⟩
  ·obtain⟨xs,p,hm,ep,q⟩:=q2
   cases ry.int
   obtain⟨rfl,_⟩:=rx2;obtain⟨vs,h1,h2⟩:=ok2.l hm;obtain⟨z,ez,rz⟩:=h2.at ep;exact .inl ⟨_,vs,_,z,rfl,rfl,.inl (.inl h1),ez,k _ m2 z H2 q e12 ok2 rz⟩
  ·obtain⟨c,hz,ec,q⟩:=q2
   cases ry.int
   cases rx2.str
   exact .inr (.inr ⟨_,_,c,rfl,rfl,hz,ec,k _ m2 _ H2 q e12 ok2 .ofStr⟩)
  ·exact q2.elim
abbrev DO:=bS->Mu->(Option Int->Mu->Prop)->Prop
def LO(K:ac)(f:DO):TO:=fun s H Q=>∃ (Z:Addr->Prop) (d:bS) (m:Mu) (R:Option Int->Mu->Prop),Ok K Z m H/\RS K Z m H d s/\f d m R /\
 ∀ x m' H',R x m'->Ext K Z m H m' H'->Ok K Z m' H'->Q x H'
@[simp] def jV:DO:=fun _ m Q=>Q none m
@[simp] def jS(f:DE):DO:=fun d m Q=>f d m fun x m1=>∃ i,x=.dat (.int i)/\Q (some i) m1
theorem PO.imp{e:Option Expr}{t t':TO}(h:PO X e t)(q:∀ s H Q,t' s H Q->t s H Q):PO X e t':=fun pins s d H Q I w=>h pins s d H Q I (q _ _ _ w)
theorem AQ:PO X none (LO X.K jV):=PO.imp HW fun s H Q h=>by
 obtain⟨Z,d,m,R,ok,rs,h,k⟩:=h;exact k none m H h Ext.refl ok
theorem Xu(ha:PE X a (LE X.K f)):PO X (some a) (LO X.K (jS f)):=PO.imp (AL ha) fun s H Q h=>by
 obtain⟨Z,d,m,R,ok,rs,h,k⟩:=h;refine⟨Z,d,m,_,ok,rs,h,fun x m1 v H1 ⟨i,e,q⟩ e1 ok1 rd=>?_⟩;subst e;exact⟨i,rd.int,k _ m1 H1 q e1 ok1⟩
def iA{α:Type}(xs:List α)(lo hi:Option Int):List α:=(xs.drop (HT.sIx xs.length 0 lo)).take (HT.sIx xs.length xs.length hi-HT.sIx xs.length 0 lo)
theorem RPs.cut{K:ac}{Z:Addr->Prop}{m:Mu}{H:Hp}{xs:List PyData}{vs:List V}{lo hi:Option Int}(h:RPs K Z m H xs vs):RPs K Z m H (iA xs lo hi) (iD vs lo hi):=by
 unfold iA iD;rw[h.length];exact(h.drop _).take _
theorem R4{α:Type}(xs:List α){lo hi:Option Int}(h:HT.sIx xs.length 0 lo=0/\HT.sIx xs.length xs.length hi=xs.length):iA xs lo hi=xs:=by
 unfold iA;rw[h.1,h.2];simp
def U9(K:ac):V->Option Int->Option Int->Hp->VK->Prop:=fun x lo hi H Q=>∃ a xs,x=.ref a/\SqT K H a xs /\
 (HT.sIx xs.length 0 lo=0/\HT.sIx xs.length xs.length hi=xs.length)/\Q (.ref a) H
theorem u6{prog:Program}{w:World}{A:Around}{E:Value->Shared->Prop}{s:Shared}{t sl:Addr}{items:Array Value}{vl vu:Value}{lo hi:Option Int}{Q:Value->Shared->Prop}(ht:IsTup s.heap t items)(hs:s.heap.IsSliceOf sl vl vu .none)(pl:IsPart vl lo)(pu:IsPart vu hi)
  (hw:HT.sIx items.size 0 lo=0/\HT.sIx items.size items.size hi=items.size)
  (h:Q (.ref t) s):wpAny (model prog w) A (getItem (.ref t) (.ref sl)) Q E s:=by
 obtain⟨os,hos,hcs,hds⟩:=id hs;have hTs:s.TypeIs (.ref sl) "slice":=⟨os,hos,hcs⟩
 unfold getItem
 try with_reducible refine wpAny_holding ?_
 first | refine ad (ae ?_) | skip
 refine ad (wpAny_sequenceKey ht.typeIs (by decide) ?_)
 refine ad (wpAny_callSpecial?_slot (name:=Str.ofString "__getitem__") ht.typeIs PyProof.Rows.slot_tuple_getitem
  (wpAny_call_entry PyProof.Rows.slot_tuple_getitem ht.typeIs entry_tuple_getitem ?_ (args_tuple_getitem _ _)))
 show wpAny _ _ (Builtin.Tuple.tupleItemsOf (.ref t)>>=_) _ _ s
 refine ad (tupleItemsOf_ ht ?_);refine ad (wpAny_typeOf hTs ?_);rw[if_pos (by decide)]
 refine ad (HT.sliceApplied_gen hs pl pu ?_);have hyes:(((HT.sIx items.size 0 lo:Nat):Int)==0&&(1:Int)==1&&(HT.sIx items.size items.size hi-HT.sIx items.size 0 lo)==items.size)=true:=by
  rw[hw.1,hw.2];simp
 show wpAny _ _ (if (((HT.sIx items.size 0 lo:Nat):Int)==0&&(1:Int)==1&&(HT.sIx items.size items.size hi-HT.sIx items.size 0 lo)==items.size)=true then _ else _) _ _ s
 rw[if_pos hyes];refine ad ?_;unfold Builtin.Tuple.tupleIsExact;refine ad (wpAny_typeOf ht.typeIs (ae ?_));rw[if_pos (by decide)]
 first
  | exact ad (wpAny_rule (ae ⟨_,rfl,ae h⟩))
  | exact ad (wpAny_rule (ad (ae (ae ⟨_,rfl,ae h⟩))))
theorem CG:SlR X (U9 X.K):=by
 intro pins s σ H x v vl vu lo hi sl Q I rx hs pl pu h;obtain⟨a,xs,rfl,hx,hw,q⟩:=h
 cases rx
 obtain⟨its,r,ht,hz⟩:=I.tuple hx;have hlen:its.toArray.size=xs.length:=by rw[au];exact r.length.symm
 refine⟨"tuple",_,PyProof.Rows.slot_tuple_getitem.lookup,ht.typeIs,?_⟩;exact u6 ht hs pl pu (by rw[hlen];exact hw) ⟨.ref a,H,I,rfl,q⟩
abbrev DC:=List D->Mu->DK->Prop
def CallD(X:Cx)(fn:Value)(r:DC):Prop :=
 ∀ (pins:List (Addr×Obj)) (s:Shared) (σ:L2.St) (H:Hp) (Z:Addr->Prop) (m:Mu) (xs:List V) (ds:List D) (us:List Value) (R:DK) (Q:VK),Inv X pins σ H s->Ok X.K Z m H->Vals xs us->RDs X.K Z m H ds xs->r ds m R ->
  (∀ d m' v' H',R d m'->Ext X.K Z m H m' H'->Ok X.K Z m' H'->RD X.K Z m' H' d v'->Q v' H')->wpAny (model X.prog X.w) X.A (call fn us) (EP X pins σ Q) X.xe s
theorem CallD.cr{fn:Value}{r:DC}(h:CallD X fn r):CallR X fn (fun vs H Q=>∃ Z m ds R,Ok X.K Z m H/\RDs X.K Z m H ds vs/\r ds m R/\∀ d m' v' H',R d m'->Ext X.K Z m H m' H'->Ok X.K Z m' H'->RD X.K Z m' H' d v'->Q v' H'):=by
 intro pins s σ H xs us Q I r1 ⟨Z,m,ds,R,ok,rd,q,k⟩;exact h pins s σ H Z m xs ds us R Q I ok r1 rd q k
@[simp] def bM(r:DC)(g:DA):DE:=fun d m Q=>g d m fun xs m1=>r xs m1 Q
theorem LE.call{r:DC}{H:Hp}{σ:L2.St}{Q:VK}(h:LE X.K (bM r ga) σ H Q) :
  LA X.K ga σ H fun vs H1=>∃ Z m ds R,Ok X.K Z m H1/\RDs X.K Z m H1 ds vs/\r ds m R/\∀ d m' v' H',R d m'->Ext X.K Z m H1 m' H'->Ok X.K Z m' H'->RD X.K Z m' H' d v'->Q v' H':=by
 obtain⟨Z,d,m,R,ok,rs,h,k⟩:=h;exact⟨Z,d,m,_,ok,rs,h,fun xs m1 vs H1 q e1 ok1 r1=>⟨Z,m1,xs,R,ok1,r1,q,fun d' m' v' H' h1 h2 h3 h4=>k d' m' v' H' h1 (e1.trans h2) h3 h4⟩⟩
theorem K0{x:Str}{id:String}{r:DC}(hc:CallD X (.builtin id) r)(hg:Gl X x)(hm:X.mg x=none)(hv:bootBuiltins x=some (.builtin id))(ha:PA X (e::es) (LA X.K ga))(hn:x≠"__name__":=by decide)(hdb:(x==("__debug__" : Str))=false:=by decide)
  (he:starEach (e::es) X.env=(false,eval e X.env)::starEach es X.env:=by rfl) (hpl:(backTo pos (starEach es X.env)).any (·.1)=false:=by rfl):PE X (.Call (.Name x p) (e::es) [] pos) (LE X.K (bM r ga)) :=
 PE.imp (Ks hc.cr hg hm hv ha hn hdb he hpl) fun s H Q h=>h.call
theorem Q9{x:Str}{T:String}{r:DC}(hc:CallD X (.type T) r)(hg:Gl X x)(hm:X.mg x=none)(hv:bootBuiltins x=some (.type T))(ha:PA X (e::es) (LA X.K ga))(hn:x≠"__name__":=by decide)(hdb:(x==("__debug__" : Str))=false:=by decide)
  (he:starEach (e::es) X.env=(false,eval e X.env)::starEach es X.env:=by rfl) (hpl:(backTo pos (starEach es X.env)).any (·.1)=false:=by rfl):PE X (.Call (.Name x p) (e::es) [] pos) (LE X.K (bM r ga)) :=
 PE.imp (Q3 hc.cr hg hm hv ha hn hdb he hpl) fun s H Q h=>h.call
theorem RDs.one{K:ac}{Z:Addr->Prop}{m:Mu}{H:Hp}{x:D}{vs:List V}(h:RDs K Z m H [x] vs):∃ v,vs=[v]/\RD K Z m H x v:=by
 obtain⟨v,r,h1,h2,h3⟩:=h
 cases (show r=[] from h3)
 exact⟨v,h1,h2⟩
theorem RDs.two{K:ac}{Z:Addr->Prop}{m:Mu}{H:Hp}{x y:D}{vs:List V}(h:RDs K Z m H [x,y] vs):∃ v w,vs=[v,w]/\RD K Z m H x v/\RD K Z m H y w:=by
 obtain⟨v,r,h1,h2,h3⟩:=h;obtain⟨w,rfl,h4⟩:=RDs.one h3;exact⟨v,w,h1,h2,h4⟩
@[simp] def dA:DC
 | [.dat (.tuple xs)],m,Q=>Q (.dat (.int xs.length)) m
 | [.dat (.list xs)],m,Q=>Q (.dat (.int xs.length)) m
 | [.dat (.str z)],m,Q=>z.length<=sizeLine/\Q (.dat (.int z.length)) m
 | [.cel a],m,Q=>∃ xs,m a=some (.l xs)/\Q (.dat (.int xs.length)) m
 | _,_,_=>False
theorem dG:CallD X (.builtin "len") dA:=by
 intro pins s σ H Z m xs ds us R Q I ok rv rd h k;unfold dA at h
 split at h
 ·obtain⟨v,rfl,r1⟩:=rd.one;simp only[RD,RP]at r1;obtain⟨a,vs,rfl,h1,h2⟩:=r1;refine vQ pins s σ H _ us Q I rv ⟨a,vs,rfl,.inr h1,?_⟩;rw[h2.length];exact k _ m _ H h Ext.refl ok .ofInt
 ·obtain⟨v,rfl,r1⟩:=rd.one;simp only[RD,RP]at r1;obtain⟨a,vs,rfl,_,h1,h2⟩:=r1;refine vQ pins s σ H _ us Q I rv ⟨a,vs,rfl,.inl h1,?_⟩;rw[h2.length];exact k _ m _ H h Ext.refl ok .ofInt
 ·obtain⟨v,rfl,r1⟩:=rd.one
  cases r1.str
  exact Uw pins s σ H _ us Q I rv ⟨_,rfl,h.1,k _ m _ H h.2 Ext.refl ok .ofInt⟩
 ·obtain⟨v,rfl,r1⟩:=rd.one;obtain⟨rfl,_⟩:=r1;obtain⟨ys,hm,q⟩:=h;obtain⟨vs,h1,h2⟩:=ok.l hm;refine vQ pins s σ H _ us Q I rv ⟨_,vs,rfl,.inl (.inl (.inl h1)),?_⟩;rw[h2.length];exact k _ m _ H q Ext.refl ok .ofInt
 ·exact h.elim
@[simp] def nD:DC
 | [.dat (.int i)],m,Q=>Q (.dat (.int (if i<0 then -i else i))) m
 | _,_,_=>False
theorem sQ:CallD X (.builtin "abs") nD:=by
 intro pins s σ H Z m xs ds us R Q I ok rv rd h k;unfold nD at h
 split at h
 ·obtain⟨v,rfl,r1⟩:=rd.one
  cases r1.int
  exact Zh pins s σ H _ us Q I rv ⟨_,rfl,k _ m _ H h Ext.refl ok .ofInt⟩
 ·exact h.elim
@[simp] def tO:DC
 | [.dat (.int i),.dat (.int j)],m,Q=>Q (.dat (.int (if j > i then j else i))) m
 | _,_,_=>False
theorem P0(hc:X.calm=true):CallD X (.builtin "max") tO:=by
 intro pins s σ H Z m xs ds us R Q I ok rv rd h k;unfold tO at h
 split at h
 ·obtain⟨v,w,rfl,r1,r2⟩:=rd.two
  cases r1.int
  cases r2.int
  exact AO hc pins s σ H _ us Q I rv ⟨_,_,rfl,k _ m _ H h Ext.refl ok .ofInt⟩
 ·exact h.elim
@[simp] def nL:DC
 | [.dat (.int i)],m,Q=>Q (.dat (.int i)) m
 | [.dat (.bool b)],m,Q=>Q (.dat (.int (if b then 1 else 0))) m
 | _,_,_=>False
theorem wM:CallD X (.type "int") nL:=by
 intro pins s σ H Z m xs ds us R Q I ok rv rd h k;unfold nL at h
 split at h
 ·obtain⟨v,rfl,r1⟩:=rd.one
  cases r1.int
  exact oH pins s σ H _ us Q I rv (.inl ⟨_,rfl,k _ m _ H h Ext.refl ok .ofInt⟩)
 ·obtain⟨v,rfl,r1⟩:=rd.one
  cases r1.bl
  exact oH pins s σ H _ us Q I rv (.inr ⟨_,rfl,k _ m _ H h Ext.refl ok .ofInt⟩)
 ·exact h.elim
@[simp] def qR:DC
 | [.dat (.int i)],m,Q=>i.natAbs.log2<1920/\Q (.dat (.str (toString i))) m
 | _,_,_=>False
theorem Sc:CallD X (.type "str") qR:=by
 intro pins s σ H Z m xs ds us R Q I ok rv rd h k;unfold qR at h
 split at h
 ·obtain⟨v,rfl,r1⟩:=rd.one
  cases r1.int
  exact n4 pins s σ H _ us Q I rv ⟨_,rfl,h.1,k _ m _ H h.2 Ext.refl ok .ofStr⟩
 ·exact h.elim
@[simp] def qP:DC
 | [.dat (.tuple xs)],m,Q=>Q (.dat (.list xs)) m
 | [.dat (.list xs)],m,Q=>Q (.dat (.list xs)) m
 | _,_,_=>False
theorem Ml:CallD X (.type "list") qP:=by
 intro pins s σ H Z m xs ds us R Q I ok rv rd h k;unfold qP at h
 split at h
 ·obtain⟨v,rfl,r1⟩:=rd.one;simp only[RD,RP]at r1;obtain⟨a,vs,rfl,h1,h2⟩:=r1;refine Tp pins s σ H _ us Q I rv ⟨a,vs,rfl,.inr h1,fun l hl=>?_⟩;have sm:Same H (upd H l (.lst vs)):=dM hl
  refine k _ m _ _ h (ok.ext sm) (ok.grow sm) ?_;simp only[RD,RP];exact⟨l,vs,rfl,fH ok hl,.inl (.inl dS),RPs.ext (ok.ext sm) _ _ h2⟩
 ·obtain⟨v,rfl,r1⟩:=rd.one;simp only[RD,RP]at r1;obtain⟨a,vs,rfl,_,h1,h2⟩:=r1;refine Tp pins s σ H _ us Q I rv ⟨a,vs,rfl,.inl h1,fun l hl=>?_⟩;have sm:Same H (upd H l (.lst vs)):=dM hl
  refine k _ m _ _ h (ok.ext sm) (ok.grow sm) ?_;simp only[RD,RP];exact⟨l,vs,rfl,fH ok hl,.inl (.inl dS),RPs.ext (ok.ext sm) _ _ h2⟩
 ·exact h.elim
@[simp] def fB:DC
 | [.dat p],m,Q=>p.showable=true/\p.shown.length<=sizeLine/\p.depth<=100/\Q (.dat (.str p.shown)) m
 | _,_,_=>False
theorem gA(hu:X.A.units+200<cLine)(hg:X.A.guards=some []):CallD X (.builtin "repr") fB:=by
 intro pins s σ H Z m xs ds us R Q I ok rv rd h k;unfold fB at h
 split at h
 ·rename_i p;obtain⟨v,rfl,r1⟩:=rd.one;obtain⟨u,rfl,ru⟩:=eD rv;obtain⟨h1,h2,h3,h4⟩:=h;have fin:∀ (tk tk':Nat),EP X pins σ Q (.str p.shown tk) {s with toks:=tk'}:=fun tk tk'=>⟨.str p.shown,H,I.tok _,⟨_,rfl⟩,k _ m _ H h4 Ext.refl ok .ofStr⟩
  have nd:=RP.noDict X.K p v r1 h1
  obtain⟨as,rd⟩:=RP.reads I p v u r1 ru
  cases rd with
  | none=>exact PySem.P.repr_of_none (fin _ _)
  | bool b=>exact PySem.P.repr_of_bool (by simpa only[PyData.shown] using fin _ _)
  | int i t=>exact PySem.P.repr_of_int (by simpa[PyData.showable] using h1) (by simpa only[PyData.shown] using fin _ _)
  | str x t=>exact PySem.P.repr_of_str (by simpa only[PyData.shown] using fin _ _) (by simpa only[PyData.shown] using h2)
  | list q1 q2 q3 q4 =>
   refine repr_of_reads' (.list q1 q2 q3 q4) h1 (PyData.noDict_hsm nd) hg (by omega) (fun _ _ e=>e) (fun h' u tk kp=>⟨.str _,H,I.kept kp,⟨_,rfl⟩,k _ m _ H h4 Ext.refl ok .ofStr⟩) h2
  | tuple q1 q2 q3 q4 =>
   refine repr_of_reads' (.tuple q1 q2 q3 q4) h1 (PyData.noDict_hsm nd) hg (by omega) (fun _ _ e=>e) (fun h' u tk kp=>⟨.str _,H,I.kept kp,⟨_,rfl⟩,k _ m _ H h4 Ext.refl ok .ofStr⟩) h2
  | dict q1 q2 q3 q4 q5=>simp only[PyData.hasDict]at nd;cases nd
 ·exact h.elim
end
end DL
namespace DL
open PySem PySem.Spec PyProof.Rows L2
section
variable {X:Cx}{st:Stmt}{rest body orelse:List Stmt}{t u b:DS}{e c tg iter:Expr}{f:DE}{tc:DT}{pos:Pos}
@[simp] def aL:DS:=fun E d m=>E.nx d m
@[simp] def aG(t u:DS):DS:=fun E d m=>t {E with nx:=u E} d m
theorem Vr:PSs X [] (LS X.K aL):=PSs.imp We fun E s H h=>by
 obtain⟨Z,d,m,R,ok,rs,h,k,_⟩:=h;exact k d m s H h Ext.refl ok rs
theorem v8(h1:PS X st (LS X.K t))(h2:PSs X rest (LS X.K u)):PSs X (st::rest) (LS X.K (aG t u)):=PSs.imp (Yh h1 h2) fun E s H h=>by
 obtain⟨Z,d,m,R,ok,rs,h,kn,kr,kb,kc⟩:=h;refine⟨Z,d,m,_,ok,rs,h,fun d' m' s' H' q e1 ok1 rs1=>⟨Z,d',m',R,ok1,rs1,q,?_,?_,?_,?_⟩,kr,kb,kc⟩
 ·exact fun d2 m2 s2 H2 q2 e2 ok2 rs2=>kn d2 m2 s2 H2 q2 (e1.trans e2) ok2 rs2
 ·exact fun x m2 v H2 q2 e2 ok2 r2=>kr x m2 v H2 q2 (e1.trans e2) ok2 r2
 ·exact fun d2 m2 s2 H2 q2 e2 ok2 rs2=>kb d2 m2 s2 H2 q2 (e1.trans e2) ok2 rs2
 ·exact fun d2 m2 s2 H2 q2 e2 ok2 rs2=>kc d2 m2 s2 H2 q2 (e1.trans e2) ok2 rs2
@[simp] def gX(f:DE):DS:=fun E d m=>f d m fun _ m1=>E.nx d m1
theorem CT(he:PE X e (LE X.K f))(hs:swapsWith e none pos.line X.env=pure false:=by rfl):PS X (.Expr e pos) (LS X.K (gX f)):=PS.imp (t6 he hs) fun E s H h=>by
 obtain⟨Z,d,m,R,ok,rs,h,k,_⟩:=h;exact⟨Z,d,m,_,ok,rs,h,fun x m1 v H1 q e1 ok1 r1=>k d m1 s H1 q e1 ok1 (rs.ext e1)⟩
@[simp] def bN(f:DE):DS:=fun E d m=>f d m E.rt
theorem Wr(he:PE X e (LE X.K f)):PS X (.Return (some e) pos) (LS X.K (bN f)):=PS.imp (Z5 he) fun E s H h=>by
 obtain⟨Z,d,m,R,ok,rs,h,_,kr,_⟩:=h;exact⟨Z,d,m,_,ok,rs,h,fun x m1 v H1 q e1 ok1 r1=>kr x m1 v H1 q e1 ok1 r1⟩
@[simp] def bU(c:DT)(t u:DS):DS:=fun E d m=>c d m fun k m1=>if k=true then t E d m1 else u E d m1
theorem j6(hc:PT X c (LT X.K tc))(h1:PSs X body (LS X.K t))(h2:PSs X orelse (LS X.K u)):PS X (.If c body orelse pos) (LS X.K (bU tc t u)):=PS.imp (Q8 hc h1 h2) fun E s H h=>by
 obtain⟨Z,d,m,R,ok,rs,h,kn,kr,kb,kc⟩:=h;refine⟨Z,d,m,_,ok,rs,h,fun k m1 H1 q e1 ok1=>?_⟩;have mk:∀ {z:DS},z R d m1->LS X.K z E s H1:=fun q=>⟨Z,d,m1,R,ok1,rs.ext e1,q,
  fun d2 m2 s2 H2 q2 e2 ok2 rs2=>kn d2 m2 s2 H2 q2 (e1.trans e2) ok2 rs2,fun x m2 v H2 q2 e2 ok2 r2=>kr x m2 v H2 q2 (e1.trans e2) ok2 r2,
  fun d2 m2 s2 H2 q2 e2 ok2 rs2=>kb d2 m2 s2 H2 q2 (e1.trans e2) ok2 rs2,fun d2 m2 s2 H2 q2 e2 ok2 rs2=>kc d2 m2 s2 H2 q2 (e1.trans e2) ok2 rs2⟩
 cases k with
 | true=>exact ID (mk (by simpa using q))
 | false=>exact Wx (mk (by simpa using q))
@[simp] def bI(i:Nat)(f:DE):DS:=fun E d m=>f d m fun x m1=>E.nx (d.set i (some x)) m1
theorem J9(i:Nat){x:Str}{pos':Pos}(hN:X.N.Nodup)(he:PE X e (LE X.K f))(hi:X.N[i]?=some x:=by rfl)(hx:hG X.env.scope x:=by first | exact Or.inl rfl | exact Or.inr rfl)
  (hs:swapsWith e (some (.Name x pos')) pos.line X.env=pure false:=by rfl) (hf:X.fn x=true\/X.env.scope.names.lookup x=some .local:=by first | exact .inl rfl | exact .inr rfl) :
  PS X (.Assign [.Name x pos'] e pos) (LS X.K (bI i f)):=PS.imp (B3 hN hi hx he hs hf) fun E s H h=>by
 obtain⟨Z,d,m,R,ok,rs,h,k,_⟩:=h;exact⟨Z,d,m,_,ok,rs,h,fun x m1 v H1 q e1 ok1 r1=>k _ m1 _ H1 q e1 ok1 ((rs.ext e1).set r1)⟩
abbrev DG:=D->bS->Mu->(bS->Mu->Prop)->Prop
abbrev iZ:=List PyData->bS->Mu->(bS->Mu->Prop)->Prop
def LG(K:ac)(g:DG):TG:=fun v s H Q=>∃ Z x d m R,Ok K Z m H/\RS K Z m H d s/\RD K Z m H x v/\g x d m R/\∀ d' m' s' H',R d' m'->Ext K Z m H m' H'->Ok K Z m' H'->RS K Z m' H' d' s'->Q s' H'
def jU(K:ac)(g:iZ):iF:=fun vs s H Q=>∃ Z ps d m R,Ok K Z m H/\RS K Z m H d s/\RPs K Z m H ps vs/\g ps d m R/\∀ d' m' s' H',R d' m'->Ext K Z m H m' H'->Ok K Z m' H'->RS K Z m' H' d' s'->Q s' H'
theorem PG.imp{t t':TG}(h:PG X e t)(q:∀ v s H Q,t' v s H Q->t v s H Q):PG X e t':=fun pins s d H v u Q I r w=>h pins s d H v u Q I r (q _ _ _ _ w)
theorem PGs.imp{es:List Expr}{t t':iF}(h:PGs X es t)(q:∀ v s H Q,t' v s H Q->t v s H Q):PGs X es t':=fun pins s d H v u Q I r w=>h pins s d H v u Q I r (q _ _ _ _ w)
@[simp] def gN(i:Nat):DG:=fun x d m Q=>Q (d.set i (some x)) m
theorem FW(i:Nat){x:Str}(hN:X.N.Nodup)(hi:X.N[i]?=some x:=by rfl)(hx:hG X.env.scope x:=by first | exact Or.inl rfl | exact Or.inr rfl)
  (hf:X.fn x=true\/X.env.scope.names.lookup x=some .local:=by first | exact .inl rfl | exact .inr rfl):PG X (.Name x pos) (LG X.K (gN i)):=PG.imp (CW hN hi hx hf) fun v s H Q h=>by
 obtain⟨Z,x,d,m,R,ok,rs,rd,h,k⟩:=h;exact k _ m _ H h Ext.refl ok (rs.set rd)
@[simp] def dF:iZ:=fun ps d m Q=>ps=[]/\Q d m
@[simp] def bV(g:DG)(r:iZ):iZ
 | p::qs,d,m,Q=>g (.dat p) d m fun d' m'=>r qs d' m' Q
 | [],_,_,_=>False
theorem Zj:PGs X [] (jU X.K dF):=PGs.imp HU fun vs s H Q h=>by
 obtain⟨Z,ps,d,m,R,ok,rs,rp,⟨rfl,h⟩,k⟩:=h;simp only[RPs]at rp;exact⟨rp,k d m s H h Ext.refl ok rs⟩
theorem CQ{es:List Expr}{g:DG}{r:iZ}(h1:PG X e (LG X.K g))(h2:PGs X es (jU X.K r))(hs:(assignEach (e::es) X.env).map (·.2)=assign e X.env::(assignEach es X.env).map (·.2):=by rfl) :
  PGs X (e::es) (jU X.K (bV g r)):=PGs.imp (FZ h1 h2 hs) fun vs s H Q h=>by
 obtain⟨Z,ps,d,m,R,ok,rs,rp,h,k⟩:=h
 match ps,rp,h with
 | [],_,h=>exact h.elim
 | p::qs,rp,h =>
 simp only[RPs]at rp;obtain⟨v,w,rfl,r1,r2⟩:=rp;exact⟨v,w,rfl,Z,.dat p,d,m,_,ok,rs,r1,h,fun d' m' s' H' q e1 ok1 rs1=>⟨Z,qs,d',m',R,ok1,rs1,RPs.ext e1 _ _ r2,q,fun d2 m2 s2 H2 q2 e2 ok2 rs2=>k d2 m2 s2 H2 q2 (e1.trans e2) ok2 rs2⟩⟩
@[simp] def gT(n:Nat)(g:iZ):DG:=fun x d m Q=>∃ ps,x=.dat (.tuple ps)/\ps.length=n/\g ps d m Q
theorem Uh{es:List Expr}{j n:Nat}{g:iZ}(hc:X.calm=true)(h:PGs X es (jU X.K g))(hn:(assignEach es X.env).length=n:=by rfl)(hst:(assignEach es X.env).findIdx? (·.1)=none:=by rfl) :
  PG X (.Tuple es j pos) (LG X.K (gT n g)):=PG.imp (C2 hc h hn hst) fun v s H Q h=>by
 obtain⟨Z,x,d,m,R,ok,rs,rd,⟨ps,rfl,hl,h⟩,k⟩:=h;simp only[RD,RP]at rd;obtain⟨a,vs,rfl,h1,h2⟩:=rd;exact⟨a,vs,rfl,h1,by rw[h2.length];exact hl,Z,ps,d,m,R,ok,rs,h2,h,k⟩
@[simp] def jT(f:DE)(g:DG):DS:=fun E d m=>f d m fun x m1=>g x d m1 E.nx
theorem Xd{g:DG}(he:PE X e (LE X.K f))(hg:PG X tg (LG X.K g))(hs:swapsWithSole [tg] e pos.line X.env=pure false:=by rfl)(hw:swappedStores [tg] e X.env=pure none:=by rfl)
  (h1:(assignEach [tg] X.env).map (·.2)=[assign tg X.env]:=by rfl):PS X (.Assign [tg] e pos) (LS X.K (jT f g)):=PS.imp (Ku he hg hs hw h1) fun E s H h=>by
 obtain⟨Z,d,m,R,ok,rs,h,k,_⟩:=h;exact⟨Z,d,m,_,ok,rs,h,fun x m1 v H1 q e1 ok1 r1=>⟨Z,x,d,m1,_,ok1,rs.ext e1,r1,q,fun d2 m2 s2 H2 q2 e2 ok2 rs2=>k d2 m2 s2 H2 q2 (e1.trans e2) ok2 rs2⟩⟩
@[simp] def yM(i j:Nat)(g:DA):DS:=fun E d m=>g d m fun xs m1=>∃ x y,xs=[x,y]/\E.nx ((d.set i (some x)).set j (some y)) m1
theorem K9(i j:Nat){x y:Str}{a b:Expr}{g:DA}{px py pt:Pos}{kt k2 pt2}(hc:X.calm=true)(hN:X.N.Nodup)(ha:PA X [a,b] (LA X.K g))(hi:X.N[i]?=some x:=by rfl)(hj:X.N[j]?=some y:=by rfl)(hij:i≠j:=by decide)
  (hx:X.env.scope.names.lookup x=some .local:=by rfl) (hy:X.env.scope.names.lookup y=some .local:=by rfl)
  (hw:swappedStores [.Tuple [.Name x px,.Name y py] kt pt] (.Tuple [a,b] k2 pt2) X.env=pure (some [x,y]):=by rfl)
  (hs:swapsWithSole [.Tuple [.Name x px,.Name y py] kt pt] (.Tuple [a,b] k2 pt2) pos.line X.env=pure false:=by rfl) :
  PS X (.Assign [.Tuple [.Name x px,.Name y py] kt pt] (.Tuple [a,b] k2 pt2) pos) (LS X.K (yM i j g)):=PS.imp (CM hc hN hi hj hij hx hy ha hw hs) fun E s H h=>by
 obtain⟨Z,d,m,R,ok,rs,h,k,_⟩:=h;refine⟨Z,d,m,_,ok,rs,h,fun xs m1 vs H1 ⟨x,y,e,q⟩ e1 ok1 r1=>?_⟩;subst e;obtain⟨v,w,rfl,r1,r2⟩:=r1.two;exact⟨v,w,rfl,k _ m1 _ H1 q e1 ok1 (((rs.ext e1).set r1).set r2)⟩
@[simp] def sB(fo fi f:DE):DS:=fun E d m=>f d m fun x m1=>fo d m1 fun o m2=>fi d m2 fun i m3 =>
 ∃ a k xs j p,o=.cel a/\i=.dat (.int k)/\x=.dat p/\m3 a=some (.l xs)/\dQ xs.length k=some j/\E.nx d (bW m3 a (.l (xs.set j p)))
theorem GN{o i:Expr}{fo fi:DE}{tpos:Pos}(he:PE X e (LE X.K f))(ho:PE X o (LE X.K fo))(hi:PE X i (LE X.K fi))
  (ha:∀ v,assign (.Subscript o i tpos) X.env v=(do
   let ov <- holding [v] (eval o X.env)
   let iv <- holding [v,ov] (eval i X.env)
   standAt tpos
   holding [v,ov,iv] (setItem ov iv v)
   release [v,ov,iv] []):=by intro _;rfl)
  (hs:swapsWithSole [.Subscript o i tpos] e pos.line X.env=pure false:=by rfl) (hw:swappedStores [.Subscript o i tpos] e X.env=pure none:=by rfl)
  (h1:(assignEach [.Subscript o i tpos] X.env).map (·.2)=[assign (.Subscript o i tpos) X.env]:=by rfl):PS X (.Assign [.Subscript o i tpos] e pos) (LS X.K (sB fo fi f)) :=
 PS.imp (Ku he (Z6 ho hi Yr ha) hs hw h1) fun E s H h=>by
 obtain⟨Z,d,m,R,ok,rs,h,k,_⟩:=h;refine⟨Z,d,m,_,ok,rs,h,fun x m1 v H1 q e1 ok1 r1=>⟨Z,d,m1,_,ok1,rs.ext e1,q,fun o m2 w H2 q2 e2 ok2 r2=>⟨Z,d,m2,_,ok2,(rs.ext e1).ext e2,q2,fun i m3 z H3 q3 e3 ok3 r3=>?_⟩⟩⟩;obtain⟨a,k',xs,j,p,rfl,rfl,rfl,hm,hj,q⟩:=q3
 cases r3.int
 obtain⟨rfl,_⟩:=r2.ext e3;obtain⟨vs,g1,g2⟩:=ok3.l hm;have r1':=r1.ext (e2.trans e3)
 refine⟨a,vs,k',j,rfl,rfl,g1,by rw[g2.length];exact hj,?_⟩
 have e4:Ext X.K Z m3 H3 (bW m3 a (.l (xs.set j p))) (upd H3 a (.lst (vs.set j v))):=Ext.put ok3 hm g1
 exact k d _ s _ q (e1.trans (e2.trans (e3.trans e4))) (ok3.put hm g1 (g2.set r1')) ((rs.ext e1).ext (e2.trans (e3.trans e4)))
def qA(c:DT)(b:DS):DS:=fun E d m=>∃ W:Nat->bS->Mu->Prop,(∃ n,W n d m)/\∀ n d m,W n d m ->
 c d m fun k m1=>if k=true then ∃ N:bS->Mu->Prop,(∀ d' m',N d' m'->∃ n',n'<n/\W n' d' m')/\b {E with nx:=N,ct:=N,bk:=E.nx} d m1 else E.nx d m1
theorem Y3(hp:PassesOwn (model X.prog X.w) X.A X.env X.xe)(hc:PT X c (LT X.K tc))(hb:PSs X body (LS X.K b)):PS X (.While c body [] pos) (LS X.K (qA tc b)):=PS.imp (Zk hp hc hb) fun E s H h=>by
 obtain⟨Z,d,m,R,ok,rs,⟨W,⟨n0,w0⟩,turn⟩,kn,kr,kb,kc⟩:=h;refine⟨fun n s' H'=>∃ d' m',Ext X.K Z m H m' H'/\Ok X.K Z m' H'/\RS X.K Z m' H' d' s'/\W n d' m',⟨n0,d,m,Ext.refl,ok,rs,w0⟩,?_⟩;rintro n s1 H1 ⟨d1,m1,e1,ok1,rs1,w1⟩;refine⟨Z,d1,m1,_,ok1,rs1,turn n d1 m1 w1,fun k m2 H2 q e2 ok2=>?_⟩
 cases k with
 | false =>
  rw[if_neg ak]at q ⊢;exact kn d1 m2 s1 H2 q (e1.trans e2) ok2 (rs1.ext e2)
 | true =>
  rw[if_pos rfl]at q ⊢;obtain⟨N,hN,q⟩:=q;refine⟨fun s' H'=>∃ d' m',Ext X.K Z m H m' H'/\Ok X.K Z m' H'/\RS X.K Z m' H' d' s'/\N d' m',fun s' H' ⟨d',m',g1,g2,g3,g4⟩=>?_,?_⟩
  ·obtain⟨n',hn,w⟩:=hN d' m' g4;exact⟨n',hn,d',m',g1,g2,g3,w⟩
  ·have e12:=e1.trans e2
   exact⟨Z,d1,m2,_,ok2,rs1.ext e2,q,fun d3 m3 s3 H3 q3 e3 ok3 rs3=>⟨d3,m3,e12.trans e3,ok3,rs3,q3⟩,fun x m3 v H3 q3 e3 ok3 r3=>kr x m3 v H3 q3 (e12.trans e3) ok3 r3,
    fun d3 m3 s3 H3 q3 e3 ok3 rs3=>kn d3 m3 s3 H3 q3 (e12.trans e3) ok3 rs3,fun d3 m3 s3 H3 q3 e3 ok3 rs3=>⟨d3,m3,e12.trans e3,ok3,rs3,q3⟩⟩
abbrev DI:=bS->Mu->(List D->Mu->Prop)->Prop
def Yld(K:ac)(Z:Addr->Prop)(m:Mu)(H:Hp)(x:D)(v:V)(H2 H3:Hp):Prop :=
 (H3=H2/\RD K Z m H x v)\/∃ p ps vs,x=.dat (.tuple ps)/\v=.ref p/\H2 p=none/\H3=upd H2 p (.tup vs)/\RPs K Z m H ps vs
theorem Yld.same{K:ac}{Z:Addr->Prop}{m:Mu}{H H2 H3:Hp}{x:D}{v:V}(h:Yld K Z m H x v H2 H3):Same H2 H3:=by
 rcases h with⟨rfl,_⟩ | ⟨p,ps,vs,_,_,hp,rfl,_⟩
 ·exact fun _ _ q=>q
 ·exact dM hp
theorem Yld.rd{K:ac}{Z Z':Addr->Prop}{m m':Mu}{H H2 H3:Hp}{x:D}{v:V}(tr:∀ d v,RD K Z m H d v->RD K Z' m' H2 d v)(ok:Ok K Z' m' H2)(h:Yld K Z m H x v H2 H3):RD K Z' m' H3 x v:=by
 rcases h with⟨rfl,h⟩ | ⟨p,ps,vs,rfl,rfl,hp,rfl,h⟩
 ·exact tr _ _ h
 ·have h2:=RPs.lift (fun p v q=>tr (.dat p) v q) h
  simp only[RD,RP];exact⟨p,vs,rfl,.inl (.inl dS),RPs.ext (ok.ext (dM hp)) _ _ h2⟩
structure ExtY (K:ac) (Z:Addr->Prop) (m:Mu) (H:Hp) (m':Mu) (H':Hp):Prop where
 t:∀ a vs,SqT K H a vs->SqT K H' a vs
 l:∀ a vs,(m a=none/\¬ Z a)->SqL K H a vs->m' a=none/\SqL K H' a vs
 fz:∀ a o u,H a=some (.frz o u)->H' a=some (.frz o u)
theorem Ext.y{K:ac}{Z:Addr->Prop}{m m':Mu}{H H':Hp}(e:Ext K Z m H m' H'):ExtY K Z m H m' H':=⟨e.t,e.l,e.fz⟩
def mE(K:ac)(Z:Addr->Prop)(m:Mu)(H:Hp)(xs:List D)(J:It):Prop:=∀ m2 H2,ExtY K Z m H m2 H2 ->
 (∀ (i:Nat) (x:D),xs[i]?=some x->J.go i H2/\∀ v H3,J.yld i H2 v H3->Yld K Z m H x v H2 H3)/\J.stop xs.length H2
def LI(K:ac)(fi:DI):TI:=fun s H R=>∃ (Z:Addr->Prop) (d:bS) (m:Mu) (ZZ:List D->Mu->Prop),Ok K Z m H/\RS K Z m H d s/\fi d m ZZ /\
 ∀ xs m' H' J,ZZ xs m'->Ext K Z m H m' H'->Ok K Z m' H'->mE K Z m' H' xs J->R J H'
@[simp] def eZ(f:DE):DI:=fun d m Q=>f d m fun x m1=>(∃ ps,x=.dat (.list ps)/\Q (ps.map .dat) m1)\/(∃ ps,x=.dat (.tuple ps)/\Q (ps.map .dat) m1)
theorem PI.imp{t t':TI}(h:PI X tg e t)(q:∀ s H R,t' s H R->t s H R):PI X tg e t':=fun pins s d H R I w=>h pins s d H R I (q _ _ _ w)
theorem vG{ps:List PyData}{i:Nat}{x:D}(h:(ps.map D.dat)[i]?=some x):∃ p,ps[i]?=some p/\x=.dat p:=by
 rw[List.getElem?_map]at h
 cases e:ps[i]? with
 | none=>rw[e]at h;cases h
 | some p=>rw[e]at h;cases h;exact⟨p,rfl,rfl⟩
theorem Zp{K:ac}{Z:Addr->Prop}{m:Mu}{H:Hp}{a:Addr}{vs:List V}{ps:List PyData}(h0:m a=none/\¬ Z a)(h1:SqL K H a vs)(h2:RPs K Z m H ps vs):mE K Z m H (ps.map .dat) (qG K a):=by
 intro m2 H2 e;obtain⟨q0,q1⟩:=e.l a vs h0 h1;have q2:=h2
 refine⟨fun i x hx=>?_,⟨vs,q1,by rw[q2.length,ar];exact aj _⟩⟩
 obtain⟨p,hp,rfl⟩:=vG hx;obtain⟨v,hv,rv⟩:=h2.get hp;refine⟨⟨vs,v,q1,hv⟩,fun v' H3 y=>.inl ⟨y.1,?_⟩⟩;have:=y.2 vs q1
 rw[hv]at this
 cases this
 exact rv
theorem E8{K:ac}{Z:Addr->Prop}{m:Mu}{H:Hp}{a:Addr}{vs:List V}{ps:List PyData}(h1:SqT K H a vs)(h2:RPs K Z m H ps vs):mE K Z m H (ps.map .dat) (wC K a):=by
 intro m2 H2 e;have q1:=e.t a vs h1
 have q2:=h2
 refine⟨fun i x hx=>?_,⟨vs,q1,by rw[q2.length,ar];exact aj _⟩⟩
 obtain⟨p,hp,rfl⟩:=vG hx;obtain⟨v,hv,rv⟩:=h2.get hp;refine⟨⟨vs,v,q1,hv⟩,fun v' H3 y=>.inl ⟨y.1,?_⟩⟩;have:=y.2 vs q1
 rw[hv]at this
 cases this
 exact rv
theorem U2{l:Expr}{tl:TE}(hl:PE X l tl):PI X tg l (fun s H R=>tl s H fun x H1=>(∃ a,x=.ref a/\(∃ xs,SqL X.K H1 a xs)/\R (qG X.K a) H1)\/(∃ a,x=.ref a/\(∃ xs,SqT X.K H1 a xs)/\R (wC X.K a) H1)):=by
 intro pins s σ H R I h;refine aP (hl pins s σ H _ I h) fun v s1 ⟨x,H1,I1,r1,q1⟩=>?_;rcases q1 with⟨a,e,⟨xs,hq⟩,q⟩ | ⟨a,e,⟨xs,hq⟩,q⟩
 ·subst e
  cases r1
  obtain⟨its,rv,p,hz⟩:=I1.list hq;refine wpAny_pyIter_list p.isList ?_;refine⟨s1.heap.objs.size,[s1.heap.objs.size],_,_,H1,rfl,I1.kept (t':=s1.toks) fun b o e=>ag _ e,S8 a _,⟨_,ah _ rfl,rfl,rfl⟩,fun b hb=>?_,q⟩;have e:b=s1.heap.objs.size:=by simpa using hb
  subst e;exact I1.fpOk (aj _) (I1.hok.fresh (aj _))
 ·subst e
  cases r1
  obtain⟨its,rv,p,hz⟩:=I1.tuple hq;refine wpAny_pyIter_tuple (show s1.heap.IsTuple a its.toArray from p) ?_
  refine⟨s1.heap.objs.size,[s1.heap.objs.size],_,_,H1,rfl,I1.kept (t':=s1.toks) fun b o e=>ag _ e,Yi a _,⟨_,ah _ rfl,rfl,rfl⟩,fun b hb=>?_,q⟩;have e:b=s1.heap.objs.size:=by simpa using hb
  subst e;exact I1.fpOk (aj _) (I1.hok.fresh (aj _))
theorem Yd(ha:PE X e (LE X.K f)):PI X tg e (LI X.K (eZ f)):=PI.imp (U2 ha) fun s H R h=>by
 obtain⟨Z,d,m,ZZ,ok,rs,h,k⟩:=h;refine⟨Z,d,m,_,ok,rs,h,fun x m1 v H1 q e1 ok1 rd=>?_⟩;rcases q with⟨ps,rfl,q⟩ | ⟨ps,rfl,q⟩
 ·simp only[RD,RP]at rd;obtain⟨a,vs,rfl,h0,h1,h2⟩:=rd;exact .inl ⟨a,rfl,⟨vs,h1⟩,k _ m1 H1 _ q e1 ok1 (Zp h0 h1 h2)⟩
 ·simp only[RD,RP]at rd;obtain⟨a,vs,rfl,h1,h2⟩:=rd;exact .inr ⟨a,rfl,⟨vs,h1⟩,k _ m1 H1 _ q e1 ok1 (E8 h1 h2)⟩
def dJ(lo:Int)(n:Nat):List D:=(List.range n).map fun i=>.dat (.int (lo+(i:Nat)))
@[simp] def fD(f:DE):DI:=fun d m Q=>f d m fun x m1=>∃ j:Int,x=.dat (.int j)/\-(2^62)<=j/\j<2^62/\Q (dJ 0 j.toNat) m1
theorem EU{p:Pos}(hg:Gl X "range")(hm:X.mg "range"=none)(ha:PE X e (LE X.K f))(hs:starEach [e] X.env=[(false,eval e X.env)]:=by rfl):PI X tg (.Call (.Name "range" p) [e] [] pos) (LI X.K (fD f)) :=
 PI.imp (W2 hg hm (gU ha iV (by rw[hs];rfl)) hs) fun s H R h=>by
  obtain⟨Z,d,m,ZZ,ok,rs,h,k⟩:=h;refine⟨Z,d,m,_,ok,rs,h,fun x m1 v H1 ⟨j,e,h1,h2,q⟩ e1 ok1 rd=>?_⟩;subst e
  cases rd.int
  show ∃ j':Int,[V.int j]=[V.int j']/\_
  refine⟨j,rfl,h1,h2,k _ m1 H1 _ q e1 ok1 fun m2 H2 e2=>⟨fun i x hx=>?_,?_⟩⟩
  ·unfold dJ at hx;rw[List.getElem?_map]at hx
   cases ei:(List.range j.toNat)[i]? with
   | none=>rw[ei]at hx;cases hx
   | some i' =>
    rw[ei]at hx
    cases hx
    have hl:=(List.getElem?_eq_some_iff.mp ei).1
    have hi:i'=i:=by
     obtain⟨_,z⟩:=List.getElem?_eq_some_iff.mp ei;rw[List.getElem_range]at z;exact z.symm
    subst hi;rw[List.length_range]at hl;refine⟨hl,fun v' H3 y=>.inl ⟨y.1,?_⟩⟩;rw[y.2];exact .ofInt
  ·show j.toNat<=(dJ 0 j.toNat).length
   unfold dJ;rw[ar,List.length_range];exact aj _
def dW(g:DG)(b:DS)(E:Ends2):List D->bS->Mu->Prop
 | [],d,m=>E.nx d m
 | x::xs,d,m=>g x d m fun d' m'=>b {E with nx:=dW g b E xs,ct:=dW g b E xs,bk:=E.nx} d' m'
@[simp] def iG(fi:DI)(g:DG)(b:DS):DS:=fun E d m=>fi d m fun xs m1=>dW g b E xs d m1
theorem EF{fi:DI}{g:DG}(hp:PassesOwn (model X.prog X.w) X.A X.env X.xe)(hc:X.calm=true)(hi:PI X tg iter (LI X.K fi))(hg:PG X tg (LG X.K g))(hb:PSs X body (LS X.K b))
  (hs:∀ x,foldedSetIterable iter X.env x=pure x:=by intro _;rfl):PS X (.For tg iter body [] pos) (LS X.K (iG fi g b)):=PS.imp (Y0 hp hc hi hg hb hs) fun E s H h=>by
 obtain⟨Z,d,m,R,ok,rs,h,kn,kr,kb,kc⟩:=h;refine⟨Z,d,m,_,ok,rs,h,fun xs m1 H1 J q e1 ok1 yl=>?_⟩;refine⟨fun i n s' H'=>∃ d' m',n=xs.length-i/\i<=xs.length/\Ext X.K Z m1 H1 m' H'/\Ok X.K Z m' H'/\RS X.K Z m' H' d' s'/\dW g b R (xs.drop i) d' m',⟨xs.length,d,m1,by simp,Nat.zero_le _,Ext.refl,ok1,rs.ext e1,by simpa using q⟩,?_⟩
 rintro i n s2 H2 ⟨d2,m2,rfl,hi,e2,ok2,rs2,w⟩;obtain⟨y1,y2⟩:=yl m2 H2 e2.y
 by_cases hl:i<xs.length
 ·rw[List.drop_eq_getElem_cons hl]at w;obtain⟨go,yd⟩:=y1 i xs[i] (List.getElem?_eq_getElem hl);refine .inr ⟨go,fun s' H'=>∃ d' m',Ext X.K Z m1 H1 m' H'/\Ok X.K Z m' H'/\RS X.K Z m' H' d' s'/\dW g b R (xs.drop (i+1)) d' m',fun s' H' ⟨d',m',g1,g2,g3,g4⟩=>⟨xs.length-(i+1),by omega,d',m',rfl,hl,g1,g2,g3,g4⟩,fun v H3 y=>?_⟩
  have yy:=yd v H3 y
  have e2':=e2.trans (ok2.ext yy.same)
  refine⟨Z,xs[i],d2,m2,_,ok2.grow yy.same,rs2.ext (ok2.ext yy.same),yy.rd (fun d v h=>h.ext e2) ok2,w,fun d3 m3 s3 H3 q3 e3 ok3 rs3=>?_⟩;have e23:=e2'.trans e3
  have e13:=e1.trans e23
  exact⟨Z,d3,m3,_,ok3,rs3,q3,fun d4 m4 s4 H4 q4 e4 ok4 rs4=>⟨d4,m4,e23.trans e4,ok4,rs4,q4⟩,fun x m4 v H4 q4 e4 ok4 r4=>kr x m4 v H4 q4 (e13.trans e4) ok4 r4,
   fun d4 m4 s4 H4 q4 e4 ok4 rs4=>kn d4 m4 s4 H4 q4 (e13.trans e4) ok4 rs4,fun d4 m4 s4 H4 q4 e4 ok4 rs4=>⟨d4,m4,e23.trans e4,ok4,rs4,q4⟩⟩
 ·have e:i=xs.length:=by omega
  subst e;rw[List.drop_length]at w;exact .inl ⟨y2,kn d2 m2 s2 H2 w (e1.trans e2) ok2 rs2⟩
end
end DL
namespace DL
open PySem PySem.Spec PyProof.Rows L2
section
variable {X:Cx}{a e:Expr}{es:List Expr}{f:DE}{ga:DA}{pos p p1 p2 p3 p4:Pos}
@[simp] def pM:PyData->String
 | .none=>"NoneType"
 | .bool _=>"bool"
 | .int _=>"int"
 | .str _=>"str"
 | .list _=>"list"
 | .tuple _=>"tuple"
 | .dict _=>"dict"
@[simp] def isK(q:PyData)(c:String):Bool:=pM q==c||(pM q == "bool" && c == "int")
theorem HC(K:ac)(q:PyData)(c:String)(hc:c="int"\/c="bool"\/c="str"\/c="tuple"\/c="list"):PySem.W.kitOne K (.type (pM q)) (.type c)=some (isK q c):=by
 rcases hc with rfl | rfl | rfl | rfl | rfl<;>cases q<;>rfl
theorem CZ{pins:List (Addr×Obj)}{σ:L2.St}{H:Hp}{s:Shared}{a:Addr}{o:Obj}{u:HO}{vs:List (PyData×V)}(I:Inv X pins σ H s)(h:H a=some (.frz o u))(e:Mo X.K u vs):s.heap.get? a=some o/\o.cls=.type "dict":=by
 obtain⟨g1,g2⟩:=(show ObjOk X.prog X.w H s.heap a (.frz o u) from I.hok a _ h)
 refine⟨g1,?_⟩
 cases u with
 | dK ws =>
  obtain⟨_,_,xs,_,o',es,ep,q1,q2,_⟩:=g2;rw[g1]at q1;cases q1;exact q2.1
 | dT ws =>
  obtain⟨_,_,xs,_,o',es,ep,q1,q2,_⟩:=g2;rw[g1]at q1;cases q1;exact q2.1
 | dN K' ws =>
  obtain⟨_,_,xs,_,o',es,ep,q1,q2,_⟩:=g2;rw[g1]at q1;cases q1;exact q2.1
 | _=>exact e.elim
theorem F1{pins:List (Addr×Obj)}{σ:L2.St}{H:Hp}{s:Shared}{Z:Addr->Prop}{m:Mu}{A:Around}{E:Value->Shared->Prop}{Q:Value->Shared->Prop}{q:PyData}{v:V}{u c:Value}{b:Bool}(I:Inv X pins σ H s)(rp:RP X.K Z m H q v)(rv:RelV v u)
  (e:PySem.W.kitOne X.K (.type (pM q)) c=some b) (h:∀ tk,Q (.bool b) {s with toks:=tk}):wpAny (model X.prog X.w) A (call (.builtin "isinstance") [u,c]) Q E s:=by
 cases q with
 | none=>simp only[RP]at rp;subst rp;cases rv;exact PySem.W.kia_one PySem.W.kitx_none I.kIn True.intro e (fun z=>nomatch z) h
 | bool y=>simp only[RP]at rp;subst rp;cases rv;exact PySem.W.kia_one PySem.W.kitx_bool I.kIn True.intro e (fun z=>nomatch z) h
 | int i=>simp only[RP]at rp;subst rp;obtain⟨t,rfl⟩:=rv;exact PySem.W.kia_one PySem.W.kitx_int I.kIn True.intro e (fun z=>nomatch z) h
 | str y=>simp only[RP]at rp;subst rp;obtain⟨t,rfl⟩:=rv;exact PySem.W.kia_one PySem.W.kitx_str I.kIn True.intro e (fun z=>nomatch z) h
 | tuple xs =>
  simp only[RP]at rp;obtain⟨a',vs,rfl,h1,_⟩:=rp
  cases rv
  obtain⟨its,_,⟨o,g1,g2,_⟩,_⟩:=I.tuple h1;exact PySem.W.kia_one PySem.W.kitx_tuple I.kIn ⟨o,g1,g2⟩ e (fun z=>nomatch z) h
 | list xs =>
  simp only[RP]at rp;obtain⟨a',vs,rfl,_,h1,_⟩:=rp
  cases rv
  obtain⟨its,_,⟨o,n,g1,g2,_⟩,_⟩:=I.list h1;exact PySem.W.kia_one PySem.W.kitx_list I.kIn ⟨o,g1,g2⟩ e (fun z=>nomatch z) h
 | dict kv =>
  simp only[RP]at rp;obtain⟨a',ob,u',vs,rfl,h1,h2,_⟩:=rp
  cases rv
  obtain⟨g1,g2⟩:=CZ I h1 h2;exact PySem.W.kia_one PySem.W.kitx_dict I.kIn ⟨ob,g1,g2⟩ e (fun z=>nomatch z) h
theorem F6:bootBuiltins "isinstance"=some (.builtin "isinstance"):=by decide +kernel
@[simp] def iH(f:DE)(c:String):DE:=fun d m Q=>f d m fun x m1=>∃ q,x=.dat q/\Q (.dat (.bool (isK q c))) m1
theorem Q2{T:Str}{c:String}(hg:Gl X "isinstance")(hm:X.mg "isinstance"=none)(hgT:Gl X T)(hmT:X.mg T=none)(hv:bootBuiltins T=some (.type c))(hc:c="int"\/c="bool"\/c="str"\/c="tuple"\/c="list")
  (ha:PE X a (LE X.K f)) (hn:T≠"__name__":=by decide) (hd:(T==("__debug__" : Str))=false:=by decide)
  (he:starEach [a,.Name T p2] X.env=(false,eval a X.env)::starEach [.Name T p2] X.env:=by rfl) :
  PE X (.Call (.Name "isinstance" p1) [a,.Name T p2] [] pos) (LE X.K (iH f c)):=by
 have cr:CallR X (.builtin "isinstance") (fun vs H Q=>∃ Z m q v,RP X.K Z m H q v/\vs=[v,.ty c]/\Q (.bl (isK q c)) H):=by
  intro pins s σ H xs us Q I rv ⟨Z,m,q,v,rp,e,h⟩;subst e;obtain⟨u,w,rfl,r1,r2⟩:=Md rv
  cases r2
  exact F1 I rp r1 (HC X.K q c hc) fun tk=>⟨.bl _,H,I.tok _,rfl,h⟩
 refine PE.imp (Ks cr hg hm F6 (gU ha (gU (AC (v:=.ty c) hgT hmT hv rfl hn hd) iV) he) (he:=he) (hpl:=rfl)) fun s H Q h=>?_;obtain⟨Z,d,m,R,ok,rs,h,k⟩:=h;refine⟨Z,d,m,_,ok,rs,h,fun x m1 v H1 ⟨q,e,h1⟩ e1 ok1 rd=>?_⟩;subst e;exact⟨Z,m1,q,v,rd,rfl,k _ m1 _ H1 h1 e1 ok1 .ofBl⟩
def LSp(K:ac)(n:Nat)(sp:DC):Sp:=fun vs H Q _=>∃ Z ds m R,Ok K Z m H/\RDs K Z m H ds vs/\ds.length=n/\sp ds m R/\∀ d m' v' H',R d m'->Ext K Z m H m' H'->Ok K Z m' H'->RD K Z m' H' d v'->Q v' H'
theorem LSp.len{K:ac}{n:Nat}{sp:DC}{vs:List V}{H:Hp}{Q:VK}{E:XK}(h:LSp K n sp vs H Q E):vs.length=n:=by
 obtain⟨Z,ds,m,R,_,rd,hl,_⟩:=h;rw[rd.length];exact hl
@[simp] def aQ(n:Nat)(sp:DC)(g:DA):DE:=fun d m Q=>g d m fun xs m1=>xs.length=n/\sp xs m1 Q
theorem C8{k n:Nat}{fa:Addr}{fd:FuncData}{ps:List Str}{sp:DC}{x:Str}(F:FnOk X.prog X.w X.K X.mg X.base eV k fa fd ps (LSp X.K n sp))(hr:Room k X.A)(hm:X.mg x=some (.ref fa))(hk:PySem.W.keepIn X.K (.ref fa)=true)
  (hb:Binds X.K fd ps []) (hx:X.xe=fun _ _=>False) (ha:PA X (e::es) (LA X.K ga)) (hg:Gl X x:=by rfl) (hdb:(x==("__debug__" : Str))=false:=by decide)
  (he:starEach (e::es) X.env=(false,eval e X.env)::starEach es X.env:=by rfl) (hpl:(backTo pos (starEach es X.env)).any (·.1)=false:=by rfl):PE X (.Call (.Name x p) (e::es) [] pos) (LE X.K (aQ n sp ga)) :=
 PE.imp (Y2 F hr hg hm hk hb .nil (HK (X:=X)) ha hdb he hpl) fun s H Q h=>by
  obtain⟨Z,d,m,R,ok,rs,h,k⟩:=h;refine⟨Z,d,m,_,ok,rs,h,fun xs m1 vs H1 ⟨hl,q⟩ e1 ok1 rd=>⟨Z,xs,m1,R,ok1,by simpa using rd,hl,q,fun d' m' v' H' h1 h2 h3 h4=>k d' m' v' H' h1 (e1.trans h2) h3 h4⟩⟩
@[simp] def bY(N:List Str)(ds:List D):bS:=ds.map some++List.replicate (N.length-ds.length) none
theorem RDs.get{K:ac}{Z:Addr->Prop}{m:Mu}{H:Hp}:∀ {xs:List D} {vs:List V} {i:Nat} {x:D},RDs K Z m H xs vs->xs[i]?=some x->∃ v,vs[i]?=some v/\RD K Z m H x v
 | [],_,_,_,_,e=>by simp at e
 | _::_,_,0,x,⟨v,r,h1,h2,_⟩,e=>by
  simp at e;subst h1 e;exact⟨v,rfl,h2⟩
 | _::xs,_,i+1,x,⟨v,r,h1,_,h3⟩,e=>by
  obtain⟨u,q1,q2⟩:=RDs.get (i:=i) (x:=x) h3 (by simpa using e)
  subst h1;exact⟨u,by simpa using q1,q2⟩
theorem Xy{K:ac}{Z:Addr->Prop}{m:Mu}{H:Hp}{N:List Str}{ds:List D}{vs:List V}(h:RDs K Z m H ds vs):RS K Z m H (bY N ds) (start N vs):=by
 have hl:=h.length
 refine⟨?_,fun i x hx=>?_⟩
 ·unfold bY L2.start;rw[List.length_append,List.length_append,ar,ar,List.length_replicate,List.length_replicate,hl]
 ·unfold bY at hx
  by_cases hi:i<ds.length
  ·rw[List.getElem?_append_left (by simpa using hi),List.getElem?_map]at hx
   cases e:ds[i]? with
   | none=>rw[e]at hx;cases hx
   | some y =>
    rw[e]at hx
    cases hx
    obtain⟨v,q1,q2⟩:=h.get e;refine⟨v,?_,q2⟩;unfold L2.start;rw[List.getElem?_append_left (by rw[ar,hl];exact hi),List.getElem?_map,q1]
    rfl
  ·rw[List.getElem?_append_right (by simpa using hi),List.getElem?_replicate]at hx
   split at hx<;>cases hx
end
section
variable {P:Program}{w:World}{K:ac}{mg:Str->Option Value}{base:Heap}
theorem N9{x qual:Str}{st:Stmt}{fa:Addr}{fd:FuncData}{N ps:List Str}{k:Nat}{sp:DC}{body:DS}(F:Fun K x qual st fa fd)(S:FnScope N ps (eF st))
  (hb:∀ (cdv:Value) (A:Around) (outer:List Env) (s:Shared) (H:Hp) (E:XK),Room k (A.deeper (envOfC qual (eF st) s.heap.objs.size fa cdv)) ->
   PSs (iI eV P w K mg base N qual (eF st) fa cdv A outer s H E).nox (hU st) (LS K body))
  (hv:∀ ds m R,ds.length=ps.length->sp ds m R->body {nx:=fun _ m=>R (.dat .none) m,rt:=R} (bY N ds) m):FnOk P w K mg base eV (k+1) fa fd ps (LSp K ps.length sp):=by
 refine F.ok S (fun vs H Q E h=>h.len) (fun cdv A outer s H vs Q E hr h=>?_);obtain⟨Z,ds,m,R,ok,rd,hl,h,kk⟩:=h;refine⟨_,hb cdv A outer s H E hr,Z,bY N ds,m,_,ok,Xy rd,hv ds m R hl h,?_,?_,?_,?_⟩
 ·intro d' m' s' H' q e1 ok1 _;exact kk _ m' _ H' q e1 ok1 (by simp only[RD,RP])
 ·exact fun x m' v H' q e1 ok1 r1=>kk x m' v H' q e1 ok1 r1
 ·exact fun _ _ _ _ q _ _ _=>q.elim
 ·exact fun _ _ _ _ q _ _ _=>q.elim
end
end DL
namespace L2
open PySem
theorem Room.u100{k:Nat}{A:Around}(r:Room k A):A.units+100<cLine:=by have:=r.un;omega
theorem Room.u200{k:Nat}{A:Around}(r:Room k A):A.units+200<cLine:=by have:=r.un;omega
end L2
namespace DL
open PySem PySem.Spec PyProof.Rows L2
theorem dC:bootBuiltins "len"=some (.builtin "len"):=by decide +kernel
theorem uE:bootBuiltins "abs"=some (.builtin "abs"):=by decide +kernel
theorem Xg:bootBuiltins "max"=some (.builtin "max"):=by decide +kernel
theorem fL:bootBuiltins "repr"=some (.builtin "repr"):=by decide +kernel
theorem kZ:bootBuiltins "int"=some (.type "int"):=by decide +kernel
theorem E4:bootBuiltins "bool"=some (.type "bool"):=by decide +kernel
theorem tY:bootBuiltins "str"=some (.type "str"):=by decide +kernel
theorem Ba:bootBuiltins "list"=some (.type "list"):=by decide +kernel
theorem fT:bootBuiltins "tuple"=some (.type "tuple"):=by decide +kernel
end DL
namespace DL
open PySem PySem.Spec PyProof.Rows L2
theorem Qi{K:ac}{Z:Addr->Prop}{m:Mu}{H:Hp}:∀ ns:List Int,RPs K Z m H (ns.map PyData.int) (ns.map V.int)
 | []=>by simp[RPs]
 | n::ns=>by
  simp only[aq,RPs];exact⟨_,_,rfl,by simp only[RP],Qi ns⟩
theorem T4{K:ac}{sp:DC}{H:Hp}{a:Addr}{ns:List Int}{E:XK}(hS:SqL K H a (ns.map V.int))(h:sp [.dat (.list (ns.map .int))] (fun _=>none) (fun d _=>d=.dat (.bool true))):LSp K 1 sp [.ref a] H (fun v _=>v=.bl true) E:=by
 have ok:Ok K (fun _=>False) (fun _=>none) H:=⟨fun b ds e=>(by cases e),fun _ z=>False.elim z⟩
 refine⟨fun _=>False,[.dat (.list (ns.map .int))],fun _=>none,fun d _=>d=.dat (.bool true),ok,⟨.ref a,[],rfl,?_,rfl⟩,rfl,h,?_⟩
 ·simp only[RD,RP];exact⟨a,_,rfl,by first | exact⟨rfl,fun z=>z⟩ | simp,hS,Qi ns⟩
 ·rintro d m' v' H' rfl _ _ r;simpa only[RD,RP] using r
end DL
namespace DL
open PySem PySem.Spec PyProof.Rows L2
theorem uH(env:Env):∀ (names:List (Str×NameKind)) (cs:List (Str×Addr)),(∀ x,(x,NameKind.free)∈names->∃ c,env.cells.lookup x=some c)->(∀ p∈cs,env.cells.lookup p.1=some p.2) ->
  ∃ cl:List (Str×Addr),(forIn names cs (fun(x:Str×NameKind) (r:List (Str×Addr))=>(if (x.2==.free)=true then (do let c <- cellOf env x.1;pure (ForInStep.yield ((x.1,c)::r))) else pure (ForInStep.yield r):Sem (ForInStep (List (Str×Addr))))))=pure cl /\
   (∀ p∈cl,env.cells.lookup p.1=some p.2)/\(∀ p∈cs,p∈cl)/\∀ x,(x,NameKind.free)∈names->∃ c,(x,c)∈cl
 | [],cs,_,h=>⟨cs,rfl,h,fun _ z=>z,fun x z=>nomatch z⟩
 | (n,k)::r,cs,hf,h=>by
  by_cases hk:k=.free
  ·subst hk;obtain⟨c,hc⟩:=hf n List.mem_cons_self;obtain⟨cl,e,h1,h2,h3⟩:=uH env r ((n,c)::cs) (fun x hx=>hf x (ap _ hx)) (fun p hp=>by
    rcases List.mem_cons.mp hp with rfl | hp
    ·exact hc
    ·exact h p hp)
   refine⟨cl,?_,h1,fun p hp=>h2 p (ap _ hp),fun x hx=>?_⟩
   ·rw[List.forIn_cons];have e2:cellOf env n=pure c:=by unfold cellOf;rw[hc]
    simp only[beq_self_eq_true,if_true,e2,pure_bind];exact e
   ·rcases List.mem_cons.mp hx with z | hx
    ·cases z
     exact⟨c,h2 _ List.mem_cons_self⟩
    ·exact h3 x hx
  ·obtain⟨cl,e,h1,h2,h3⟩:=uH env r cs (fun x hx=>hf x (ap _ hx)) h;refine⟨cl,?_,h1,h2,fun x hx=>?_⟩
   ·rw[List.forIn_cons];have e2:(k==NameKind.free)=false:=by simpa using hk
    simp only[e2,Bool.false_eq_true,if_false,pure_bind];exact e
   ·rcases List.mem_cons.mp hx with z | hx
    ·cases z
     exact absurd rfl hk
    ·exact h3 x hx
theorem Dj{scope:Scope}{env:Env}(hf:∀ x,(x,NameKind.free)∈scope.names->∃ c,env.cells.lookup x=some c) :
  ∃ cl:List (Str×Addr),closureFor scope env=pure cl/\(∀ p∈cl,env.cells.lookup p.1=some p.2)/\∀ x,(x,NameKind.free)∈scope.names->∃ c,(x,c)∈cl:=by
 obtain⟨cl,e,h1,_,h3⟩:=uH env scope.names [] hf (fun _ z=>nomatch z);refine⟨cl,?_,h1,h3⟩;unfold closureFor
 first
  | exact e
  | (show(do let cs <- forIn scope.names ([]:List (Str×Addr)) _;pure cs:Sem _)=_;rw[e];rfl)
  | (simp only[];rw[e];rfl)
section
variable {prog:Program}{w:World}{A:Around}{R:Result->Shared->Prop}{s:Shared}
theorem Vm{elt target iter:Expr}{ifs:List Expr}{scope:Scope}{pos:Pos}{it acc:Value}{env:Env}(I:Nat->Shared->Prop)
  (turn:∀ n s,I n s->wpAny (model prog w) A (pyNext it) (fun r s₁=>match r with
   | none=>R (.ok .next) s₁
   | some v=>wpAny (model prog w) A (letOwnedTupleGo target it v) (fun _ s₀=>wpAny (model prog w) A (assign target env v) (fun _ s₂ =>
     wpAny (model prog w) A (forIn ifs true fun c r=>if r=true then do let ok <- isTrue c env (eval c env);pure (ForInStep.yield ok) else pure (ForInStep.yield r)) (fun ok s₃ =>
      if ok=true then wpAny (model prog w) A (eval elt env) (fun x s₄ =>
       wpAny (model prog w) A (call (.builtin "list.append") [acc,x]) (fun _ s₅=>∃ m,m<n/\I m s₅) (fun _ _=>False) s₄) (fun _ _=>False) s₃
      else ∃ m,m<n/\I m s₃) (fun _ _=>False) s₂) (fun _ _=>False) s₀) (fun _ _=>False) s₁) (fun _ _=>False) s)
  (n:Nat) (h:I n s) :
  codeAny (model prog w) A (.compLoop (.ListComp elt [⟨target,iter,ifs,0⟩] scope pos) 0 it acc env) R s:=by
 have ff:∀ {E:Value->Shared->Prop} (x:Value) (s:Shared),False->E x s:=fun _ _ z=>z.elim
 refine codeAny_loop rfl I (fun n s hI=>?_) n h;show wpAny _ A ((compTurn (.ListComp elt [⟨target,iter,ifs,0⟩] scope pos) 0 it acc env).onRaise (fun x=>do noteFrame x env;theTreesLotGoes x)) _ _ s
 refine wpAny_noted ?_;rw[compTurn_list];refine ad (wpAny_standAt (ad (wpAny_mono (turn n s hI) (fun r s₁ h₁=>?_) ff)))
 cases r with
 | none=>exact ae h₁
 | some v =>
  refine ad (wpAny_mono h₁ (fun _ s₀ h₀=>?_) ff);refine ad (wpAny_mono h₀ (fun _ s₂ h₂=>ad (wpAny_mono h₂ (fun ok s₃ h₃=>?_) ff)) ff)
  cases ok with
  | true =>
   simp only[if_true]at h₃ ⊢;refine ad (ad (wpAny_mono h₃ (fun x s₄ h₄=>ad (wpAny_mono h₄ (fun _ s₅ h₅=>ae (ae ⟨rfl,h₅⟩)) ff)) ff))
  | false =>
   simp only[Bool.false_eq_true,if_false]at h₃ ⊢;exact ae ⟨rfl,h₃⟩
end
end DL
namespace DL
open PySem PySem.Spec PyProof.Rows L2
def bQ(X:Cx)(scope:Scope)(cl:List (Str×Addr))(C:Addr)(NC:List Str)(s2:Shared)(H2:Hp)(pins:List (Addr×Obj))(fp:List Addr):Cx where
 prog:=X.prog
 w:=X.w
 K:=X.K
 mg:=X.mg
 base:=X.base
 A:=X.A
 N:=NC
 s₀:=s2
 H₀:=H2
 env:=compEnvC scope cl C X.env
 outer:=X.stack
 stack:=X.stack
 ex:=fp
 fn:=fun _=>false
 calm:=X.calm
 pn:=X.pn++pins
 xe:=fun _ _=>False
theorem oN{cl:List (Str×Addr)}{x:Str}{c:Addr}(h:cl.lookup x=some c):(x,c)∈cl:=PySem.mem_of_lookup h
theorem Hr{cl:List (Str×Addr)}{x:Str}:∀ {c:Addr},(x,c)∈cl->∃ c',cl.lookup x=some c':=by
 induction cl with
 | nil=>intro c h;cases h
 | cons p r ih =>
  intro c h;rw[List.lookup_cons]
  cases hx:x==p.1 with
  | true=>exact⟨_,rfl⟩
  | false =>
   rcases List.mem_cons.mp h with e | h
   ·subst e;simp at hx
   ·exact ih h
theorem yB{env:Env}:∀ {names:List (Str×NameKind)} {x:Str},(∀ y∈names,y.2≠.cell) ->
  ((names.map fun(n,k)=>if (k==NameKind.free&&env.scope.kind==.function&&env.kindOf n==some .cell) then (n,NameKind.cell) else (n,k)).lookup x=some .cell \/
    (names.map fun(n,k)=>if (k==NameKind.free&&env.scope.kind==.function&&env.kindOf n==some .cell) then (n,NameKind.cell) else (n,k)).lookup x=some .free)->(x,NameKind.free)∈names
 | [],x,_,h=>by simp at h
 | (n,k)::r,x,hc,h=>by
  have ih:=@yB env r x (fun y hy=>hc y (ap _ hy))
  by_cases hk:(k==NameKind.free&&env.scope.kind==.function&&env.kindOf n==some .cell)=true
  ·have kf:k=.free:=by
    rw[Bool.and_eq_true,Bool.and_eq_true]at hk;exact eq_of_beq hk.1.1
   subst kf;simp only[aq,hk,if_true,List.lookup_cons]at h
   cases hx:x==n with
   | true =>
    have:x=n:=eq_of_beq hx
    subst this;exact List.mem_cons_self
   | false =>
    simp only[hx]at h;exact ap _ (ih h)
  ·have hk':(k==NameKind.free&&env.scope.kind==.function&&env.kindOf n==some .cell)=false:=by simpa using hk
   simp only[aq,hk',Bool.false_eq_true,if_false,List.lookup_cons]at h
   cases hx:x==n with
   | true =>
    have:x=n:=eq_of_beq hx
    subst this;simp only[hx]at h;have hne:=hc (x,k) List.mem_cons_self
    rcases h with h | h
    ·exact absurd (Option.some.inj h) hne
    ·have:k=.free:=Option.some.inj h
     subst this;exact List.mem_cons_self
   | false =>
    simp only[hx]at h;exact ap _ (ih h)
section
variable {X:Cx}{pins:List (Addr×Obj)}{σ:L2.St}{H2:Hp}{s2:Shared}{scope:Scope}{cl:List (Str×Addr)}{NC:List Str}{fp:List Addr}{C:Addr}
theorem Yb(I2:Inv X pins σ H2 s2)(hf:∀ b∈fp,eQ X pins H2 b)(hob:∀ b∈fp,∃ o,s2.heap.get? b=some o/\∀ v,o.data≠.cell v)(hkind:scope.kind=.function)(hcell:∀ y∈scope.names,y.2≠.cell)
  (hcl1:∀ p∈cl,X.env.cells.lookup p.1=some p.2) (hcl2:∀ x,(x,NameKind.free)∈scope.names->∃ c,(x,c)∈cl) (hC:s2.heap.objs.size<=C):(bQ X scope cl C NC s2 H2 pins fp).Ok:=by
 have lk:∀ x c,cl.lookup x=some c->X.env.cells.lookup x=some c:=fun x c h=>hcl1 (x,c) (oN h)
 refine⟨I2.ok.mod,hkind,I2.ok.glob,I2.ok.blt,hC,fun x y c h1 h2=>I2.ok.inj x y c (lk x c h1) (lk y c h2),fun x hx=>?_,fun x c h=>absurd (show false=true from h) ak,I2.ok.hd,I2.ok.frames,.inl rfl,fun b hb=>⟨?_,fun x c h=>?_⟩,fun b o e=>I2.bs b o e,
  Nat.le_trans I2.ok.bsz I2.sz,fun b o e hb=>?_,fun b hb hs=>?_,I2.stack,I2.stkFree⟩
 ·obtain⟨c,hc⟩:=hcl2 x (yB (env:=X.env) hcell hx);exact Hr hc
 ·obtain⟨o,ho,_⟩:=hob b hb;exact am (ai (af ho) hC)
 ·exact(hf b hb).2.2.2.2.1 x c (lk x c h)
 ·rcases (hf b hb).2.2.2.1 with z | z
  ·exact I2.ok.noex b o e z
  ·exact absurd (ai (af e) (Nat.le_trans I2.ok.bsz z)) (Nat.lt_irrefl _)
 ·rcases List.mem_cons.mp (I2.stkSub b hs) with z | z
  ·exact(hf b hb).2.1 z
  ·exact(hf b hb).2.2.1 z
theorem K1{o0:HO}{σ':L2.St}{h₁:Heap}{tk:Nat}{mm:Str->Option Value}(I2:Inv X pins σ H2 s2)(hf:∀ b∈fp,eQ X pins H2 b)(hob:∀ b∈fp,∃ o,s2.heap.get? b=some o/\∀ v,o.data≠.cell v)(hkind:scope.kind=.function)(hcell:∀ y∈scope.names,y.2≠.cell)
  (hcl1:∀ p∈cl,X.env.cells.lookup p.1=some p.2) (hcl2:∀ x,(x,NameKind.free)∈scope.names->∃ c,(x,c)∈cl)
  (hlen:σ'.length=NC.length) (hσ:∀ (i:Nat) (x:Str) (v:V),NC[i]?=some x->σ'[i]?=some (some v)->iQ (relabel scope X.env) x->((relabel scope X.env).names.lookup x=some .cell\/(relabel scope X.env).names.lookup x=some .free)/\(X.env.kindOf x=some .cell\/X.env.kindOf x=some .free)/\∃ j:Nat,X.N[j]?=some x/\σ[j]?=some (some v))
  (hC:C=s2.heap.objs.size+1) (hns:h₁.Ns C mm) (hk:∀ b u,s2.heap.get? b=some u->h₁.get? b=some u)
  (hO:ObjOk X.prog X.w (upd H2 s2.heap.objs.size o0) h₁ s2.heap.objs.size o0) :
  Inv (bQ X scope cl C NC s2 H2 pins fp) [] σ' (upd H2 s2.heap.objs.size o0) {s2 with heap:=h₁,toks:=tk}:=by
 have lk:∀ x c,cl.lookup x=some c->X.env.cells.lookup x=some c:=fun x c h=>hcl1 (x,c) (oN h)
 have hn:H2 s2.heap.objs.size=none:=I2.hok.fresh (aj _)
 have le1:s2.heap.objs.size<=C:=by rw[hC];exact Nat.le_succ _
 have ne1:C≠s2.heap.objs.size:=by rw[hC];exact Nat.succ_ne_self _
 have hCn:H2 C=none:=I2.hok.fresh le1
 have neD:∀ b o,s2.heap.get? b=some o->b≠s2.heap.objs.size:=fun b o e=>am (af e)
 refine⟨Yb I2 hf hob hkind hcell hcl1 hcl2 le1,rfl,I2.bare,Un.laid hk (aj _) hn,⟨mm,hns,fun i x v h1 h2 h3=>?_⟩,fun x c h=>?_,?_,fun x c h=>?_,fun p hp=>?_,?_,hlen⟩
 ·obtain⟨hy,hx,j,hj,hv⟩:=hσ i x v h1 h2 h3;obtain⟨m,hnX,hl⟩:=I2.loc;have vis:iQ X.env.scope x:=by rcases hx with z | z;exact .inr (.inl z);exact .inr (.inr z)
  obtain⟨u,r,l⟩:=hl j x v hj hv vis;refine⟨u,r,.inr ⟨hy,?_⟩⟩;obtain⟨c',hc'⟩:=hcl2 x (yB (env:=X.env) hcell hy);obtain⟨c,hc⟩:=Hr hc';refine⟨c,hc,?_⟩;rcases l with⟨z,_⟩ | ⟨_,c2,e2,o,ho,hd⟩
  ·rcases hx with q | q
   ·rw[z]at q;cases q
   ·rw[z]at q;cases q
  ·have:=lk x c hc
   rw[e2]at this
   cases this
   exact⟨o,hk _ o ho,hd⟩
 ·obtain⟨v,o,ho,hd⟩:=I2.cell x c (lk x c h);exact⟨v,o,hk _ o ho,hd⟩
 ·show upd H2 s2.heap.objs.size o0 C=none
  rw[cC ne1];exact hCn
 ·obtain⟨v,o,ho,hd⟩:=I2.cell x c (lk x c h);rw[cC (neD c o ho)];exact I2.freeC x c (lk x c h)
 ·have hp':p∈X.pn++pins:=by
   rcases List.mem_append.mp hp with z | z
   ·exact z
   ·cases z
  obtain⟨e,n,ne,nf,d⟩:=I2.pin p hp';refine⟨hk _ _ e,by rw[cC (neD _ _ e)];exact n,?_,fun z=>?_,d⟩
  ·show p.1≠C
   exact am (ai (af e) le1)
  ·rcases List.mem_cons.mp (I2.stkSub p.1 z) with q | q
   ·exact ne q
   ·exact nf q
 ·exact I2.hok.laid hk (aj _) hO
theorem Oc{σ':L2.St}{h₁:Heap}{tk:Nat}{mm:Str->Option Value}(I2:Inv X pins σ H2 s2)(hf:∀ b∈fp,eQ X pins H2 b)(hob:∀ b∈fp,∃ o,s2.heap.get? b=some o/\∀ v,o.data≠.cell v)(hkind:scope.kind=.function)(hcell:∀ y∈scope.names,y.2≠.cell)
  (hcl1:∀ p∈cl,X.env.cells.lookup p.1=some p.2) (hcl2:∀ x,(x,NameKind.free)∈scope.names->∃ c,(x,c)∈cl)
  (hlen:σ'.length=NC.length) (hσ:∀ (i:Nat) (x:Str) (v:V),NC[i]?=some x->σ'[i]?=some (some v)->iQ (relabel scope X.env) x->((relabel scope X.env).names.lookup x=some .cell\/(relabel scope X.env).names.lookup x=some .free)/\(X.env.kindOf x=some .cell\/X.env.kindOf x=some .free)/\∃ j:Nat,X.N[j]?=some x/\σ[j]?=some (some v))
  (hC:C=s2.heap.objs.size+1) (hns:h₁.Ns C mm) (hk:∀ b u,s2.heap.get? b=some u->h₁.get? b=some u)
  (hD:h₁.get? s2.heap.objs.size=some {cls:=.type "list",data:=.seq ([]:List Value).toArray}) :
  Inv (bQ X scope cl C NC s2 H2 pins fp) [] σ' (upd H2 s2.heap.objs.size (.lst [])) {s2 with heap:=h₁,toks:=tk} :=
 K1 I2 hf hob hkind hcell hcl1 hcl2 hlen hσ hC hns hk ⟨Nat.zero_le _,[],0,.nil,hD⟩
theorem Oi{py:List (Addr×Obj)}{σ'':L2.St}{H':Hp}{s':Shared}{h':Heap}(I2:Inv X pins σ H2 s2)(hf:∀ b∈fp,eQ X pins H2 b)(Iy:Inv (bQ X scope cl C NC s2 H2 pins fp) py σ'' H' s')(hC:s2.heap.objs.size<=C)(hs:Heap.SameBut C s'.heap h') :
  Inv X pins σ H' {s' with heap:=h'}:=by
 have u:Un (gR X.stack) fp H2 H' s2.heap s'.heap:=Iy.base
 have neC:∀ b o,s2.heap.get? b=some o->b≠C:=fun b o e=>am (ai (af e) hC)
 have fC:H' C=none:=Iy.free
 refine I2.call' (s':={s' with heap:=h'}) (ch:=fp) Iy.os ⟨fun b o e n hb hx=>(hs.2 b (neC b o e)).trans (u.keep b o e n hb hx),fun b o e n hb hx=>?_,u.free,fun b o e hx=>?_,u.tups,u.frzs,u.tbls⟩ (fun b o e=>?_) Iy.bare fun b hb=>?_
 ·obtain⟨sl,q⟩:=u.slot b o e n hb hx;exact⟨sl,(hs.2 b (neC b o e)).trans q⟩
 ·obtain⟨o',q⟩:=u.there b o e hx;exact⟨o',(hs.2 b (neC b o e)).trans q⟩
 ·refine(Iy.hok b o e).stay (fun c v hc q=>(hs.2 c ?_).trans q) (fun _ q=>q) (fun _ _ q=>q) fun _ _ _ q=>q;rintro rfl;rcases hc with rfl | hc
  ·rw[fC]at e;cases e
  ·rw[fC]at hc;cases hc
 ·obtain⟨_,f1,_,f3,f4,f5⟩:=hf b hb;exact⟨f3,f1,f4,f5⟩
end
end DL
namespace DL
open PySem PySem.Spec PyProof.Rows L2
section
variable {K:ac}{Z Y:Addr->Prop}{m m':Mu}{H H':Hp}
mutual
theorem RP.tr0(ht:∀ a vs,SqT K H a vs->SqT K H' a vs)(hl:∀ a vs,(m a=none/\¬ Z a)->SqL K H a vs->(m' a=none/\¬ Y a)/\SqL K H' a vs)(hf:∀ a o u,H a=some (.frz o u)->H' a=some (.frz o u)):∀ (p:PyData) (v:V),RP K Z m H p v->RP K Y m' H' p v
 | .none,v,h=>by simpa only[RP] using h
 | .bool _,v,h=>by simpa only[RP] using h
 | .int _,v,h=>by simpa only[RP] using h
 | .str _,v,h=>by simpa only[RP] using h
 | .tuple xs,v,h=>by
  simp only[RP]at h ⊢;obtain⟨a,vs,h1,h2,h3⟩:=h;exact⟨a,vs,h1,ht a vs h2,RPs.tr0 ht hl hf xs vs h3⟩
 | .list xs,v,h=>by
  simp only[RP]at h ⊢;obtain⟨a,vs,h1,h2,h3,h4⟩:=h;obtain⟨q1,q2⟩:=hl a vs h2 h3;exact⟨a,vs,h1,q1,q2,RPs.tr0 ht hl hf xs vs h4⟩
 | .dict kvs,v,h=>by
  simp only[RP]at h ⊢;obtain⟨a,o,u,vs,h1,h2,h3,h4⟩:=h;exact⟨a,o,u,vs,h1,hf a o u h2,h3,RPd.tr0 ht hl hf kvs _ h4⟩
theorem RPd.tr0(ht:∀ a vs,SqT K H a vs->SqT K H' a vs)(hl:∀ a vs,(m a=none/\¬ Z a)->SqL K H a vs->(m' a=none/\¬ Y a)/\SqL K H' a vs)(hf:∀ a o u,H a=some (.frz o u)->H' a=some (.frz o u)):∀ (xs:List (PyData×PyData)) (vs:List (PyData×V)),RPd K Z m H xs vs->RPd K Y m' H' xs vs
 | [],vs,h=>by simpa only[RPd] using h
 | (k,p)::xs,vs,h=>by
  simp only[RPd]at h ⊢;obtain⟨v,r,h1,h2,h3⟩:=h;exact⟨v,r,h1,RP.tr0 ht hl hf p v h2,RPd.tr0 ht hl hf xs r h3⟩
theorem RPs.tr0(ht:∀ a vs,SqT K H a vs->SqT K H' a vs)(hl:∀ a vs,(m a=none/\¬ Z a)->SqL K H a vs->(m' a=none/\¬ Y a)/\SqL K H' a vs)(hf:∀ a o u,H a=some (.frz o u)->H' a=some (.frz o u)):∀ (xs:List PyData) (vs:List V),RPs K Z m H xs vs->RPs K Y m' H' xs vs
 | [],vs,h=>by simpa only[RPs] using h
 | x::xs,vs,h=>by
  simp only[RPs]at h ⊢;obtain⟨v,r,h1,h2,h3⟩:=h;exact⟨v,r,h1,RP.tr0 ht hl hf x v h2,RPs.tr0 ht hl hf xs r h3⟩
end
theorem RP.tr(ht:∀ a vs,SqT K H a vs->SqT K H' a vs)(hl:∀ a vs,(m a=none/\¬ Z a)->SqL K H a vs->(m' a=none/\¬ Y a)/\SqL K H' a vs)(p:PyData)(v:V)(h:RP K Z m H p v)(hf:∀ a o u,H a=some (.frz o u)->H' a=some (.frz o u):=by first | exact fun _ _ _ q=>q | exact Ext.fz ‹_› | (intro a o u q;first | (rw[cC (by rintro rfl;simp_all)];exact q) | (unfold upd;split<;>simp_all))):RP K Y m' H' p v:=RP.tr0 ht hl hf p v h
theorem RPs.tr(ht:∀ a vs,SqT K H a vs->SqT K H' a vs)(hl:∀ a vs,(m a=none/\¬ Z a)->SqL K H a vs->(m' a=none/\¬ Y a)/\SqL K H' a vs)(p:List PyData)(v:List V)(h:RPs K Z m H p v)(hf:∀ a o u,H a=some (.frz o u)->H' a=some (.frz o u):=by first | exact fun _ _ _ q=>q | exact Ext.fz ‹_› | (intro a o u q;first | (rw[cC (by rintro rfl;simp_all)];exact q) | (unfold upd;split<;>simp_all))):RPs K Y m' H' p v:=RPs.tr0 ht hl hf p v h
def bL(Z:Addr->Prop)(D:Addr):Addr->Prop:=fun a=>Z a\/a=D
variable {D:Addr}{ys zs:List V}
theorem Rv(hD:H D=none)(hk:K.lookup D=none):∀ a vs,(m a=none/\¬ Z a)->SqL K H a vs->(m a=none/\¬ bL Z D a)/\SqL K (upd H D (.lst ys)) a vs:=fun a vs h1 h2 =>
 ⟨⟨h1.1,fun z=>z.elim h1.2 (SqL.ne hD hk h2)⟩,(dM hD).seq h2⟩
theorem mK(hD:H D=some (.lst ys)):∀ a vs,SqT K H a vs->SqT K (upd H D (.lst zs)) a vs:=fun b xs h=>by
 rcases h with (h | ⟨o,h⟩) | h
 ·have ne:b≠D:=by rintro rfl;rw[hD]at h;cases h
  exact .inl (.inl (by rw[cC ne];exact h))
 ·have ne:b≠D:=by rintro rfl;rw[hD]at h;cases h
  exact .inl (.inr ⟨o,by rw[cC ne];exact h⟩)
 ·exact .inr h
theorem vM{a:Addr}{vs:List V}(ne:a≠D)(h:SqL K H a vs):SqL K (upd H D (.lst zs)) a vs:=by
 rcases h with (h | ⟨o,h⟩) | h
 ·exact .inl (.inl (by rw[cC ne];exact h))
 ·exact .inl (.inr ⟨o,by rw[cC ne];exact h⟩)
 ·exact .inr h
theorem oI:∀ a vs,(m a=none/\¬ bL Z D a)->SqL K H a vs->(m a=none/\¬ bL Z D a)/\SqL K (upd H D (.lst zs)) a vs:=fun a vs h1 h2 =>
 ⟨h1,vM (fun e=>h1.2 (.inr e)) h2⟩
end
section
variable {K:ac}{Z:Addr->Prop}{m m1 m':Mu}{H H1 H':Hp}{D:Addr}{ys zs:List V}
theorem Nv{x:DL.D}{v:V}(hD:H D=none)(hk:K.lookup D=none)(h:RD K Z m H x v):RD K (bL Z D) m (upd H D (.lst ys)) x v:=by
 cases x with
 | dat p=>exact RP.tr (fun a vs q=>SqT.same (dM hD) q) (Rv hD hk) p v h
 | cel a=>exact h
theorem Pp{x:DL.D}{v:V}(hD:H D=some (.lst ys))(h:RD K (bL Z D) m H x v):RD K (bL Z D) m (upd H D (.lst zs)) x v:=by
 cases x with
 | dat p=>exact RP.tr (mK hD) oI p v h
 | cel a=>exact h
theorem Ib(ok:Ok K Z m H)(hD:H D=none)(hk:K.lookup D=none):Ok K (bL Z D) m (upd H D (.lst ys)):=by
 refine⟨fun a c h=>?_,fun a h=>?_⟩
 ·obtain⟨o,h1,h2⟩:=ok.g a c h;have ne:a≠D:=by rintro rfl;rw[hD]at h1;cases h1
  exact⟨o,by rw[cC ne];exact h1,h2.lift fun p v q=>RP.tr (fun a vs q=>SqT.same (dM hD) q) (Rv hD hk) p v q⟩
 ·rcases h with h | h
  ·have ne:a≠D:=by rintro rfl;exact(ok.z a h).2 hD
   exact⟨(ok.z a h).1,by rw[cC ne];exact(ok.z a h).2⟩
  ·subst h;exact⟨(fH ok hD).1,by rw[dS];intro z;cases z⟩
theorem Ev(ok:Ok K (bL Z D) m H)(hD:H D=some (.lst ys)):Ok K (bL Z D) m (upd H D (.lst zs)):=by
 refine⟨fun a c h=>?_,fun a h=>?_⟩
 ·obtain⟨o,h1,h2⟩:=ok.g a c h;have ne:a≠D:=by
   rintro rfl;have:=(ok.z a (.inr rfl)).1
   rw[h]at this
   cases this
  exact⟨o,by rw[cC ne];exact h1,h2.lift fun p v q=>RP.tr (mK hD) oI p v q⟩
 ·by_cases e:a=D
  ·subst e;exact⟨(ok.z a h).1,by rw[dS];intro z;cases z⟩
  ·exact⟨(ok.z a h).1,by rw[cC e];exact(ok.z a h).2⟩
theorem Jm(ok:Ok K (bL Z D) m H):Ok K Z m H:=by
 refine⟨fun a c h=>?_,fun a h=>ok.z a (.inl h)⟩;obtain⟨o,h1,h2⟩:=ok.g a c h;exact⟨o,h1,h2.lift fun p v q=>RP.tr (fun _ _ q=>q) (fun a vs q1 q2=>⟨⟨q1.1,fun z=>q1.2 (.inl z)⟩,q2⟩) p v q⟩
theorem mD(e:Ext K Z m1 H1 m H)(hD:H1 D=none)(hk:K.lookup D=none)(e2:Ext K (bL Z D) m H m' H'):Ext K Z m1 H1 m' H' :=
 ⟨fun a vs h=>e2.t a vs (e.t a vs h),fun a vs h1 h2=>let ⟨q1,q2⟩:=e.l a vs h1 h2;e2.l a vs ⟨q1,fun z=>z.elim h1.2 (SqL.ne hD hk h2)⟩ q2,fun a h=>(e2.z a (.inl h)).trans (e.z a h),fun a h=>e2.c a (e.c a h),fun a o u h=>e2.fz a o u (e.fz a o u h),fun a h=>by
  have q:=e.fm a h
  rw[e2.fm a (by rw[q];exact h),q],fun a vs h1 h2=>e2.ll a vs ⟨(e.l a vs h1 (.inl (.inl h2))).1,fun z=>z.elim h1.2 fun q=>by rw[q,hD]at h2;cases h2⟩ (e.ll a vs h1 h2)⟩
theorem GY(e:Ext K Z m1 H1 m H)(ok1:Ok K Z m1 H1)(hD:H1 D=none)(hk:K.lookup D=none)(hH:H D=some (.lst ys)):Ext K Z m1 H1 m (upd H D (.lst zs)) :=
 ⟨fun a vs h=>mK hH a vs (e.t a vs h),fun a vs h1 h2=>let ⟨q1,q2⟩:=e.l a vs h1 h2;⟨q1,vM (SqL.ne hD hk h2) q2⟩,fun a h=>by
  have ne:a≠D:=by rintro rfl;exact(ok1.z a h).2 hD
  rw[cC ne];exact e.z a h,e.c,fun a o u h=>by
  have q:=e.fz a o u h
  rw[cC (by rintro rfl;rw[hH]at q;cases q)]
  exact q,e.fm,fun a vs h1 h2=>by rw[cC (by rintro rfl;rw[hD]at h2;cases h2)];exact e.ll a vs h1 h2⟩
end
def cN(g:DG)(t:DT)(f:DE):List D->List PyData->bS->Mu->(List PyData->Mu->Prop)->Prop
 | [],acc,_,m,Q=>Q acc m
 | x::xs,acc,d,m,Q=>g x d m fun d1 m1=>t d1 m1 fun b m2=>if b=true then f d1 m2 fun y m3=>∃ p,y=.dat p/\acc.length<sizeLine/\cN g t f xs (acc++[p]) d1 m3 Q else cN g t f xs acc d1 m2 Q
def cI{α:Type}(src:List (Option Nat))(d:List (Option α)):List (Option α):=src.map fun o=>o.bind fun j=>(d[j]?).join
@[simp] def dR(src:List (Option Nat))(fi:DI)(g:DG)(t:DT)(f:DE):DE:=fun d m Q=>fi d m fun xs m1=>cN g t f xs [] (cI src d) m1 fun ps m2=>Q (.dat (.list ps)) m2
def PF(Y:Cx)(ifs:List Expr)(t:TT):Prop:=∀ (pins:List (Addr×Obj)) (s:Shared) (σ:L2.St) (H:Hp) (Q:Bool->Hp->Prop),Inv Y pins σ H s->t σ H Q ->
 wpAny (model Y.prog Y.w) Y.A (forIn ifs true fun c r=>if r=true then do let ok <- isTrue c Y.env (eval c Y.env);pure (ForInStep.yield ok) else pure (ForInStep.yield r)) (TP Y pins σ Q) Y.xe s
@[simp] def cV:DT:=fun _ m Q=>Q true m
theorem W8{Y:Cx}:PF Y [] (LT Y.K cV):=fun pins s σ H Q I h=>by
 obtain⟨Z,d,m,R,ok,rs,h,k⟩:=h;exact wpAny_tests_nil ⟨H,I,k true m H h Ext.refl ok⟩
theorem HM{Y:Cx}{c:Expr}{t:TT}(h:PT Y c t):PF Y [c] t:=fun pins s σ H Q I q=>wpAny_tests_one (h pins s σ H Q I q)
theorem Hd{K:ac}{Z:Addr->Prop}{m:Mu}{H:Hp}{d:bS}{σ:L2.St}(src:List (Option Nat))(rs:RS K Z m H d σ):RS K Z m H (cI src d) (cI src σ):=by
 refine⟨by unfold cI;rw[ar,ar],fun i x h=>?_⟩
 unfold cI at h ⊢;rw[List.getElem?_map]at h ⊢
 cases e:src[i]? with
 | none=>rw[e]at h;cases h
 | some o =>
  rw[e]at h
  cases o with
  | none=>cases h
  | some j =>
   have h':(d[j]?).join=some x:=Option.some.inj h
   cases ej:d[j]? with
   | none=>rw[ej]at h';cases h'
   | some w =>
    rw[ej]at h';have h2:w=some x:=h'
    subst h2;obtain⟨v,q1,q2⟩:=rs.2 j x ej;exact⟨v,by rw[Option.map_some,Option.bind_some,q1];rfl,q2⟩
theorem Ju{α:Type}{src:List (Option Nat)}{d:List (Option α)}{i:Nat}{v:α}(h:(cI src d)[i]?=some (some v)):∃ j:Nat,src[i]?=some (some j)/\d[j]?=some (some v):=by
 unfold cI at h;rw[List.getElem?_map]at h
 cases e:src[i]? with
 | none=>rw[e]at h;cases h
 | some o =>
  rw[e]at h
  cases o with
  | none=>cases h
  | some j =>
   have h':(d[j]?).join=some v:=Option.some.inj h
   cases ej:d[j]? with
   | none=>rw[ej]at h';cases h'
   | some w =>
    rw[ej]at h';have h2:w=some v:=h'
    subst h2;exact⟨j,rfl,ej⟩
end DL
namespace DL
open PySem PySem.Spec PyProof.Rows L2
theorem Jd{K:ac}{Z:Addr->Prop}{m1 m':Mu}{H1 H':Hp}{D:Addr}{x:DL.D}{v:V}(hD:H1 D=none)(hk:K.lookup D=none)(e:Ext K Z m1 H1 m' H')(h:RD K Z m1 H1 x v):RD K (bL Z D) m' H' x v:=by
 cases x with
 | dat p=>exact RP.tr e.t (fun a vs h1 h2=>let ⟨q1,q2⟩:=e.l a vs h1 h2;⟨⟨q1,fun z=>z.elim h1.2 (SqL.ne hD hk h2)⟩,q2⟩) p v h
 | cel a=>exact⟨h.1,e.c a h.2⟩
section
variable {X:Cx}{tg iter elt:Expr}{ifs:List Expr}{scope:Scope}{NC:List Str}{fi:DI}{g:DG}{t:DT}{f:DE}{pos:Pos}
def kF(X:Cx)(scope:Scope)(NC:List Str)(src:List (Option Nat)):Prop:=NC.length=src.length/\∀ (i:Nat) (x:Str) (j:Nat),NC[i]?=some x->src[i]?=some (some j)->X.N[j]?=some x/\(x,NameKind.free)∈scope.names /\
 ((relabel scope X.env).names.lookup x=some .cell\/(relabel scope X.env).names.lookup x=some .free)
structure Off (X:Cx) (pins:List (Addr×Obj)) (H:Hp) (C:Addr):Prop where
 h:H C=none
 l:C≠X.env.locals
 s:X.s₀.heap.objs.size<=C
 c:∀ x c,X.env.cells.lookup x=some c->c≠C
 p:∀ p∈X.pn++pins,p.1≠C
theorem Off.inv{pins:List (Addr×Obj)}{σ:L2.St}{H:Hp}{s:Shared}{C:Addr}{h':Heap}(o:Off X pins H C)(I:Inv X pins σ H s)(hs:Heap.SameBut C s.heap h'):Inv X pins σ H {s with heap:=h'} :=
 I.turned (t':=s.toks) (it:=C) (fun b ob hb e=>(hs.2 b hb).trans e) o.h o.l (.inr o.s) o.c o.p
def N5(K:ac)(Z:Addr->Prop)(m:Mu)(H:Hp)(xs:List D)(J:It):Prop:=∀ m2 H2,Ext K Z m H m2 H2 ->
 (∀ (i:Nat) (x:D),xs[i]?=some x->J.go i H2/\∀ v H3,J.yld i H2 v H3->Yld K Z m H x v H2 H3)/\J.stop xs.length H2
theorem HJ{wi:TI}(src:List (Option Nat))(hc:X.calm=true)(hi:PI X tg iter wi)
  (hg:∀ cl C s2 H2 pins fp,PG (bQ X scope cl C NC s2 H2 pins fp) tg (LG X.K g)) (ht:∀ cl C s2 H2 pins fp,PF (bQ X scope cl C NC s2 H2 pins fp) ifs (LT X.K t)) (he:∀ cl C s2 H2 pins fp,PE (bQ X scope cl C NC s2 H2 pins fp) elt (LE X.K f))
  (hkind:scope.kind=.function) (hcell:∀ y∈scope.names,y.2≠.cell) (hnames:∀ y∈scope.names,y.2=.local->scope.names.lookup y.1=some .local)
  (hfree:∀ x,(x,NameKind.free)∈scope.names->X.env.kindOf x=some .cell\/X.env.kindOf x=some .free) (hsrc:kF X scope NC src)
  (hs:∀ x,foldedSetIterable iter X.env x=pure x) {use:Option (Value->Sem Unit)} {QQ:Value->Shared->Prop} {pos':Pos} {pins:List (Addr×Obj)} {s:Shared} {σ:L2.St} {H:Hp} {Z:Addr->Prop} {d:bS} {m:Mu} {RL:List PyData->Mu->Prop}
  (I:Inv X pins σ H s) (ok:Ok X.K Z m H) (rs:RS X.K Z m H d σ) (h:wi σ H fun J H1=>∃ xs m1,Ext X.K Z m H m1 H1/\Ok X.K Z m1 H1/\N5 X.K Z m1 H1 xs J/\cN g t f xs [] (cI src d) m1 RL)
  (fin:∀ (s5:Shared) (C D:Addr) (H':Hp) (m':Mu) (ps:List PyData),RL ps m'->Ext X.K Z m H m' H'->Ok X.K Z m' H'->RD X.K Z m' H' (.dat (.list ps)) (.ref D)->(∃ mm,s5.heap.Ns C mm)->Inv X pins σ H' s5->Off X pins H' C->(m' D=none/\Ext X.K Z m H (bW m' D (.l ps)) H'/\Ok X.K Z (bW m' D (.l ps)) H') ->
   compPost (model X.prog X.w) X.A X.xe use QQ (.ref D) C (.ok .next) s5) :
  wpAny (model X.prog X.w) X.A (comprehension (.ListComp elt [⟨tg,iter,ifs,0⟩] scope pos) scope X.env pos' (newList []) false (eval iter X.env) use) QQ X.xe s:=by
 obtain⟨cl,hclos,hcl1,hcl2⟩:=Dj (scope:=scope) (env:=X.env) fun x hx=>I.ok.has x (hfree x hx);refine wpAny_comprehension_free (use:=use) rfl hs hclos hkind hnames ?_;refine aP (hi pins s σ H _ I h) fun xv s₁ h₁=>aP h₁ fun itv s₂ h₂=>?_;obtain⟨it,fp,tn,J,H2,eit,I2,T,st2,f2,xs,m1,e1,ok1,yl,lp⟩:=h₂;subst eit;refine wpAny_newObj_type (wpAny_newFunctionEnv hcell (by intro y hy;simp at hy) (fun h₁ hns₁ hsb₁=>?_) hkind)
 dsimp only at hns₁ hsb₁ ⊢
 generalize hH2:s₂.heap.push {cls:=.type "list",dict:=none,data:=.seq ([]:List Value).toArray}=HP at hns₁ hsb₁ ⊢
 have hC:HP.objs.size=s₂.heap.objs.size+1:=by rw[<- hH2,Heap.size_push]
 have leC:s₂.heap.objs.size<=HP.objs.size:=by rw[hC];exact Nat.le_succ _
 have old:∀ b o,s₂.heap.get? b=some o->h₁.get? b=some o:=fun b o e=>hsb₁.extBut b o (am (ai (af e) leC)) (ag _ (hH2▸ag _ e))
 have hacc:h₁.get? s₂.heap.objs.size=some {cls:=.type "list",data:=.seq ([]:List Value).toArray}:=hsb₁.extBut _ _ (by rw[hC];exact am (Nat.lt_succ_self _)) (ag _ (hH2▸ah _ rfl))
 have hD:H2 s₂.heap.objs.size=none:=I2.hok.fresh (aj _)
 have hkD:X.K.lookup s₂.heap.objs.size=none:=by
  cases e:X.K.lookup s₂.heap.objs.size with
  | none=>rfl
  | some o=>exact absurd (af (I2.kIn _ o e)) (Nat.lt_irrefl _)
 have obf:∀ b∈fp,∃ o,s₂.heap.get? b=some o/\∀ v,o.data≠.cell v:=T.obj 0 _ st2
 have hσ:∀ (i:Nat) (x:Str) (v:V),NC[i]?=some x->(cI src σ)[i]?=some (some v)->iQ (relabel scope X.env) x->((relabel scope X.env).names.lookup x=some .cell\/(relabel scope X.env).names.lookup x=some .free)/\(X.env.kindOf x=some .cell\/X.env.kindOf x=some .free)/\∃ j:Nat,X.N[j]?=some x/\σ[j]?=some (some v):=fun i x v h1 h2 _=>by
  obtain⟨j,q1,q2⟩:=Ju h2;obtain⟨a1,a2,a3⟩:=hsrc.2 i x j h1 q1;exact⟨a3,hfree x a2,j,a1,q2⟩
 have I4:=fun tk=>Oc (cl:=cl) (NC:=NC) (σ':=cI src σ) (tk:=tk) I2 f2 obf hkind hcell hcl1 hcl2 (by unfold cI;rw[ar];exact hsrc.1.symm) hσ hC hns₁ old hacc
 have st4:tn 0 h₁:=T.keep 0 _ _ st2 fun b _ o e=>old b o e
 -- the loop
 have loop:∀ s₃:Shared,s₃={s₂ with heap:=h₁,toks:=s₂.toks+([]:List (Str×Value)).length} ->
   codeAny (model X.prog X.w) X.A (.compLoop (.ListComp elt [⟨tg,iter,ifs,0⟩] scope pos) 0 (.ref it) (.ref s₂.heap.objs.size) (compEnvC scope cl HP.objs.size X.env))
    (compPost (model X.prog X.w) X.A X.xe use QQ (.ref s₂.heap.objs.size) HP.objs.size) s₃:=by
  rintro s₃ rfl;refine Vm (fun n s'=>∃ (i:Nat) (ys:List V) (acc:List PyData) (d':bS) (m':Mu) (σ':L2.St) (H':Hp),n=xs.length-i/\i<=xs.length/\Inv (bQ X scope cl HP.objs.size NC s₂ H2 pins fp) [] σ' H' s'/\tn i s'.heap/\(∀ b∈fp,H' b=none) /\
   H' s₂.heap.objs.size=some (.lst ys)/\RPs X.K (bL Z s₂.heap.objs.size) m' H' acc ys/\Ext X.K Z m1 H2 m' H'/\Ok X.K (bL Z s₂.heap.objs.size) m' H'/\RS X.K (bL Z s₂.heap.objs.size) m' H' d' σ' /\
   cN g t f (xs.drop i) acc d' m' RL) ?_ xs.length ?_
  rotate_left
  ·have rs1:RS X.K Z m1 H2 (cI src d) (cI src σ):=Hd src (rs.ext e1)
   refine⟨0,[],[],cI src d,m1,cI src σ,_,by simp,Nat.zero_le _,I4 _,st4,fun b hb=>?_,dS,by simp[RPs],ok1.ext (dM hD),Ib ok1 hD hkD,⟨rs1.1,fun i x hx=>?_⟩,by simpa using lp⟩
   ·obtain⟨o,ho,_⟩:=obf b hb;rw[cC (am (af ho))];exact(f2 b hb).1
   ·obtain⟨v,q1,q2⟩:=rs1.2 i x hx;exact⟨v,q1,Nv hD hkD q2⟩
  rintro n s4 ⟨i,ys,acc,d',m',σ',H',rfl,hi',I5,st5,fr5,hDy,racc,eX,ok5,rs5,lp5⟩;have stat:∀ b∈fp,eQ (bQ X scope cl HP.objs.size NC s₂ H2 pins fp) [] H' b:=fun b hb=>by
   obtain⟨g0,g1,g2,g3,g4,g5⟩:=f2 b hb;obtain⟨o,ho,_⟩:=obf b hb;refine⟨fr5 b hb,am (ai (af ho) leC),fun z=>?_,.inl hb,fun x c e=>g4 x c (hcl1 (x,c) (oN e)),fun p hp=>?_⟩
   ·rcases List.mem_cons.mp (I2.stkSub b z) with q | q
    ·exact g1 q
    ·exact g2 q
   ·rcases List.mem_append.mp hp with q | q
    ·exact g5 p q
    ·cases q
  obtain⟨y1,y2⟩:=yl m' H' eX
  by_cases hlt:i<xs.length
  ·rw[List.drop_eq_getElem_cons hlt]at lp5;obtain⟨go,yd⟩:=y1 i xs[i] (List.getElem?_eq_getElem hlt);refine aP (T.item (bQ X scope cl HP.objs.size NC s₂ H2 pins fp) rfl rfl rfl hc i [] s4 σ' H' (fun _ _=>False) I5 stat st5 go) fun r s5 hq0=>?_;obtain⟨u,hr,h5⟩:=hq0;subst hr;refine aP h5 fun _ s6 hq0=>?_;obtain⟨x,H6,I6,r6,yy,st6,fr6⟩:=hq0;have yy':=yd x H6 yy
   have e56:Ext X.K (bL Z s₂.heap.objs.size) m' H' m' H6:=ok5.ext yy'.same
   have rv:=yy'.rd (fun d v h=>Jd hD hkD eX h) ok5
   have hDy:=yy'.same _ _ hDy
   have racc:=RPs.ext e56 _ _ racc
   have eX:=mD eX hD hkD e56
   have rs5:=rs5.ext e56
   have ok5:=ok5.grow yy'.same
   have stat:∀ b∈fp,eQ (bQ X scope cl HP.objs.size NC s₂ H2 pins fp) [] H6 b:=fun b hb=>⟨fr6 b hb,(stat b hb).2⟩
   have I6':=I6.pinned stat (T.obj _ _ st6)
   -- what stands when a turn is over
   have over:∀ {s7:Shared} {σ7:L2.St} {H7:Hp} {ys7:List V} {acc7:List PyData} {d7:bS} {m7:Mu},Inv (bQ X scope cl HP.objs.size NC s₂ H2 pins fp) ([]++kB fp s6.heap) σ7 H7 s7->H7 s₂.heap.objs.size=some (.lst ys7)->RPs X.K (bL Z s₂.heap.objs.size) m7 H7 acc7 ys7 ->
     Ext X.K Z m1 H2 m7 H7->Ok X.K (bL Z s₂.heap.objs.size) m7 H7->RS X.K (bL Z s₂.heap.objs.size) m7 H7 d7 σ7->(cN g t f (xs.drop (i+1)) acc7 d7 m7 RL) ->
     ∃ n,n<xs.length-i/\∃ (i:Nat) (ys:List V) (acc:List PyData) (d':bS) (m':Mu) (σ':L2.St) (H':Hp),n=xs.length-i/\i<=xs.length/\Inv (bQ X scope cl HP.objs.size NC s₂ H2 pins fp) [] σ' H' s7/\tn i s7.heap/\(∀ b∈fp,H' b=none) /\
      H' s₂.heap.objs.size=some (.lst ys)/\RPs X.K (bL Z s₂.heap.objs.size) m' H' acc ys/\Ext X.K Z m1 H2 m' H'/\Ok X.K (bL Z s₂.heap.objs.size) m' H'/\RS X.K (bL Z s₂.heap.objs.size) m' H' d' σ' /\
      cN g t f (xs.drop i) acc d' m' RL:=by
    intro s7 σ7 H7 ys7 acc7 d7 m7 I7 a1 a2 a3 a4 a5 a6;refine⟨xs.length-(i+1),by omega,i+1,ys7,acc7,d7,m7,σ7,H7,rfl,hlt,I7.unpinned,T.keep _ _ _ st6 fun b hb o e=>(I7.pin (b,o) (List.mem_append_right _ (List.mem_append_right _ (jZ hb e)))).1,fun b hb=>?_,a1,a2,a3,a4,a5,a6⟩
    obtain⟨o,e,dd⟩:=T.obj _ _ st6 b hb;exact(I7.pin (b,o) (List.mem_append_right _ (List.mem_append_right _ (jZ hb e)))).2.1
   refine aP (hg cl _ s₂ H2 pins fp _ s6 σ' _ x u (fun σ7 H7=>∃ d7 m7,Ext X.K (bL Z s₂.heap.objs.size) m' H6 m7 H7/\Ok X.K (bL Z s₂.heap.objs.size) m7 H7/\RS X.K (bL Z s₂.heap.objs.size) m7 H7 d7 σ7 /\
    t d7 m7 fun b m2=>if b=true then f d7 m2 fun y m3=>∃ p,y=.dat p/\acc.length<sizeLine/\cN g t f (xs.drop (i+1)) (acc++[p]) d7 m3 RL else cN g t f (xs.drop (i+1)) acc d7 m2 RL) I6' r6
    ⟨_,xs[i],d',m',_,ok5,rs5,rv,lp5,fun d7 m7 σ7 H7 q7 e7 ok7 rs7=>⟨d7,m7,e7,ok7,rs7,q7⟩⟩) fun _ s7 hq0=>?_
   obtain⟨σ7,H7,I7,d7,m7,e7,ok7,rs7,q7⟩:=hq0;refine aP (ht cl _ s₂ H2 pins fp _ s7 σ7 H7 (fun b H8=>∃ m8,Ext X.K (bL Z s₂.heap.objs.size) m7 H7 m8 H8/\Ok X.K (bL Z s₂.heap.objs.size) m8 H8 /\
    if b=true then f d7 m8 fun y m3=>∃ p,y=.dat p/\acc.length<sizeLine/\cN g t f (xs.drop (i+1)) (acc++[p]) d7 m3 RL else cN g t f (xs.drop (i+1)) acc d7 m8 RL) I7
    ⟨_,d7,m7,_,ok7,rs7,q7,fun b m8 H8 q8 e8 ok8=>⟨m8,e8,ok8,q8⟩⟩) fun b s8 hq0=>?_
   obtain⟨H8,I8,m8,e8,ok8,q8⟩:=hq0;have e68:=e7.trans e8
   have hD8:H8 s₂.heap.objs.size=some (.lst ys):=(e68.z _ (.inr rfl)).trans hDy
   cases b with
   | false =>
    rw[if_neg ak]at q8;exact over I8 hD8 (RPs.ext e68 _ _ racc) (mD eX hD hkD e68) ok8 (rs7.ext e8) q8
   | true =>
    rw[if_pos rfl]at q8;refine aP (he cl _ s₂ H2 pins fp _ s8 σ7 H8 (fun v H9=>∃ p m9,RP X.K (bL Z s₂.heap.objs.size) m9 H9 p v/\Ext X.K (bL Z s₂.heap.objs.size) m8 H8 m9 H9/\Ok X.K (bL Z s₂.heap.objs.size) m9 H9/\acc.length<sizeLine/\cN g t f (xs.drop (i+1)) (acc++[p]) d7 m9 RL) I8
     ⟨_,d7,m8,_,ok8,rs7.ext e8,q8,fun y m9 v H9 hq1 e9 ok9 r9=>by
      obtain⟨p,ey,hz,q9⟩:=hq1;subst ey;exact⟨p,m9,r9,e9,ok9,hz,q9⟩⟩) fun yv s9 hq0=>?_
    obtain⟨y,H9,I9,ry,p,m9,rp9,e9,ok9,hz,q9⟩:=hq0;have e69:=e68.trans e9
    have hD9:H9 s₂.heap.objs.size=some (.lst ys):=(e69.z _ (.inr rfl)).trans hDy
    have racc9:=RPs.ext e69 _ _ racc
    have rs9:=(rs7.ext e8).ext e9
    refine aP (vE _ s9 σ7 H9 (.ref s₂.heap.objs.size) [y] (.ref s₂.heap.objs.size) [yv] (fun v H10=>H10=upd H9 s₂.heap.objs.size (.lst (ys++[y]))) I9 rfl (.cons ry .nil) ⟨_,ys,y,rfl,rfl,hD9,by rw[racc9.length];exact hz,rfl⟩) fun rv s10 hq0=>?_
    obtain⟨v10,H10,I10,_,e10⟩:=hq0;subst e10;refine over I10 dS ?_ (GY (mD eX hD hkD e69) ok1 hD hkD hD9) (Ev ok9 hD9) ⟨rs9.1,fun j z hj=>?_⟩ q9
    ·exact RPs.tr (mK hD9) oI _ _ (racc9.append (by simp only[RPs];exact⟨y,[],rfl,rp9,rfl⟩))
    ·obtain⟨v,a1,a2⟩:=rs9.2 j z hj;exact⟨v,a1,Pp hD9 a2⟩
  ·have e:i=xs.length:=by omega
   subst e;rw[List.drop_length]at lp5;refine aP (T.done (bQ X scope cl HP.objs.size NC s₂ H2 pins fp) rfl rfl rfl hc _ [] s4 σ' H' (fun _ _=>False) I5 stat st5 y2) fun r s5 hq0=>?_;obtain⟨hr,I6⟩:=hq0;subst hr;have IX:=Oi I2 f2 I6 leC (Heap.SameBut.refl _ _)
   have nz:¬ Z s₂.heap.objs.size:=fun z=>(ok1.z _ z).2 hD
   refine fin s5 HP.objs.size s₂.heap.objs.size H' m' acc lp5 (e1.trans eX) (Jm ok5) ?_ ⟨_,I6.loc.choose_spec.1⟩ IX ⟨I6.free,Nat.ne_of_gt (ai I2.lt leC),Nat.le_trans I2.sz leC,fun x c e=>?_,fun p hp=>?_⟩ ⟨(ok5.z _ (.inr rfl)).1,?_,?_⟩
   ·simp only[RD,RP];exact⟨_,ys,rfl,⟨(ok5.z _ (.inr rfl)).1,nz⟩,.inl (.inl hDy),RPs.tr (fun _ _ q=>q) (fun a vs q1 q2=>⟨⟨q1.1,fun z=>q1.2 (.inl z)⟩,q2⟩) _ _ racc⟩
   ·obtain⟨v,q⟩:=I2.cell x c e;exact am (ai q.lt leC)
   ·exact am (ai (af (I2.pin p hp).1) leC)
   ·refine⟨fun a vs q=>(e1.trans eX).t a vs q,fun a vs q1 q2=>?_,fun a q=>(e1.trans eX).z a q,fun a q=>?_,(e1.trans eX).fz,fun a q=>?_,(e1.trans eX).ll⟩
    ·obtain⟨_,q3⟩:=e1.l a vs q1 q2;have ne:=SqL.ne hD hkD q3
     obtain⟨q4,q5⟩:=(e1.trans eX).l a vs q1 q2;exact⟨by rw[cZ ne];exact q4,q5⟩
    ·by_cases ea:a=s₂.heap.objs.size
     ·subst ea;rw[cO];rfl
     ·rw[cZ ea];exact(e1.trans eX).c a q
    ·have fq:=(e1.trans eX).fm a q
     have ne:a≠s₂.heap.objs.size:=by
      rintro rfl;rw[(ok5.z _ (.inr rfl)).1]at fq;rw[<- fq]at q
      cases q
     rw[cZ ne];exact fq
   ·have tr:∀ (a:Addr) (vs:List V),(m' a=none/\¬ bL Z s₂.heap.objs.size a)->SqL X.K H' a vs->(bW m' s₂.heap.objs.size (.l acc) a=none/\¬ Z a)/\SqL X.K H' a vs:=fun a vs q1 q2=>⟨⟨by rw[cZ fun z=>q1.2 (.inr z)];exact q1.1,fun z=>q1.2 (.inl z)⟩,q2⟩
    refine⟨fun a c q=>?_,fun a q=>?_⟩
    ·by_cases ea:a=s₂.heap.objs.size
     ·subst ea;rw[cO]at q
      cases q
      exact⟨_,hDy,RPs.tr (fun _ _ q=>q) tr _ _ racc⟩
     ·rw[cZ ea]at q;obtain⟨o,q1,q2⟩:=ok5.g a c q;exact⟨o,q1,q2.lift fun p v q3=>RP.tr (fun _ _ q=>q) tr p v q3⟩
    ·have ne:a≠s₂.heap.objs.size:=fun z=>nz (z▸q)
     obtain⟨q1,q2⟩:=ok5.z a (.inl q);exact⟨by rw[cZ ne];exact q1,q2⟩
 exact codeAny_compStart_list (loop _ rfl) (T.self _ 0 _ _ _ st4 (loop _ rfl))
theorem Nd(src:List (Option Nat))(hc:X.calm=true)(hi:PI X tg iter (LI X.K fi))
  (hg:∀ cl C s2 H2 pins fp,PG (bQ X scope cl C NC s2 H2 pins fp) tg (LG X.K g)) (ht:∀ cl C s2 H2 pins fp,PF (bQ X scope cl C NC s2 H2 pins fp) ifs (LT X.K t)) (he:∀ cl C s2 H2 pins fp,PE (bQ X scope cl C NC s2 H2 pins fp) elt (LE X.K f))
  (hkind:scope.kind=.function) (hcell:∀ y∈scope.names,y.2≠.cell) (hnames:∀ y∈scope.names,y.2=.local->scope.names.lookup y.1=some .local)
  (hfree:∀ x,(x,NameKind.free)∈scope.names->X.env.kindOf x=some .cell\/X.env.kindOf x=some .free) (hsrc:kF X scope NC src)
  (hs:∀ x,foldedSetIterable iter X.env x=pure x) {use:Option (Value->Sem Unit)} {QQ:Value->Shared->Prop} {pos':Pos} {pins:List (Addr×Obj)} {s:Shared} {σ:L2.St} {H:Hp} {Z:Addr->Prop} {d:bS} {m:Mu} {RL:List PyData->Mu->Prop}
  (I:Inv X pins σ H s) (ok:Ok X.K Z m H) (rs:RS X.K Z m H d σ) (h:fi d m fun xs m1=>cN g t f xs [] (cI src d) m1 RL)
  (fin:∀ (s5:Shared) (C D:Addr) (H':Hp) (m':Mu) (ps:List PyData),RL ps m'->Ext X.K Z m H m' H'->Ok X.K Z m' H'->RD X.K Z m' H' (.dat (.list ps)) (.ref D)->(∃ mm,s5.heap.Ns C mm)->Inv X pins σ H' s5->Off X pins H' C->(m' D=none/\Ext X.K Z m H (bW m' D (.l ps)) H'/\Ok X.K Z (bW m' D (.l ps)) H') ->
   compPost (model X.prog X.w) X.A X.xe use QQ (.ref D) C (.ok .next) s5) :
  wpAny (model X.prog X.w) X.A (comprehension (.ListComp elt [⟨tg,iter,ifs,0⟩] scope pos) scope X.env pos' (newList []) false (eval iter X.env) use) QQ X.xe s :=
 HJ src hc hi hg ht he hkind hcell hnames hfree hsrc hs I ok rs ⟨Z,d,m,_,ok,rs,h,fun xs m1 H1 J q e1 ok1 y1=>⟨xs,m1,e1,ok1,fun m2 H2 e=>y1 m2 H2 e.y,q⟩⟩ fin
theorem P4(src:List (Option Nat))(hc:X.calm=true)(hi:PI X tg iter (LI X.K fi))
  (hg:∀ cl C s2 H2 pins fp,PG (bQ X scope cl C NC s2 H2 pins fp) tg (LG X.K g)) (ht:∀ cl C s2 H2 pins fp,PF (bQ X scope cl C NC s2 H2 pins fp) ifs (LT X.K t)) (he:∀ cl C s2 H2 pins fp,PE (bQ X scope cl C NC s2 H2 pins fp) elt (LE X.K f))
  (hkind:scope.kind=.function) (hcell:∀ y∈scope.names,y.2≠.cell) (hnames:∀ y∈scope.names,y.2=.local->scope.names.lookup y.1=some .local)
  (hfree:∀ x,(x,NameKind.free)∈scope.names->X.env.kindOf x=some .cell\/X.env.kindOf x=some .free) (hsrc:kF X scope NC src)
  (hs:∀ x,foldedSetIterable iter X.env x=pure x:=by intro _;rfl) :
  PE X (.ListComp elt [⟨tg,iter,ifs,0⟩] scope pos) (LE X.K (dR src fi g t f)):=by
 intro pins s σ H Q I h;obtain⟨Z,d,m,R,ok,rs,h,k⟩:=h;rw[eval_ListComp];refine Nd src hc hi hg ht he hkind hcell hnames hfree hsrc hs (use:=none) (QQ:=EP X pins σ Q) (RL:=fun ps m2=>R (.dat (.list ps)) m2) I ok rs h ?_;intro s5 C D H' m' ps q e ok' rd ⟨mm,hns⟩ I5 off hcl;exact⟨mm,hns,fun h' hs'=>⟨.ref D,H',off.inv I5 hs',rfl,k _ m' _ H' q e ok' rd⟩⟩
theorem EZ(i:Nat){y:Str}{py spos:Pos}(src:List (Option Nat))(hc:X.calm=true)(hi:PI X tg iter (LI X.K fi))
  (hg:∀ cl C s2 H2 pins fp,PG (bQ X scope cl C NC s2 H2 pins fp) tg (LG X.K g)) (ht:∀ cl C s2 H2 pins fp,PF (bQ X scope cl C NC s2 H2 pins fp) ifs (LT X.K t)) (he:∀ cl C s2 H2 pins fp,PE (bQ X scope cl C NC s2 H2 pins fp) elt (LE X.K f))
  (hkind:scope.kind=.function) (hcell:∀ y∈scope.names,y.2≠.cell) (hnames:∀ y∈scope.names,y.2=.local->scope.names.lookup y.1=some .local)
  (hfree:∀ x,(x,NameKind.free)∈scope.names->X.env.kindOf x=some .cell\/X.env.kindOf x=some .free) (hsrc:kF X scope NC src)
  (hN:X.N.Nodup) (hi2:X.N[i]?=some y:=by rfl) (hx:hG X.env.scope y:=by first | exact Or.inl rfl | exact Or.inr rfl) (hf:X.fn y=true\/X.env.scope.names.lookup y=some .local:=by first | exact .inl rfl | exact .inr rfl)
  (hsw:swapsWith (.ListComp elt [⟨tg,iter,ifs,0⟩] scope pos) (some (.Name y py)) spos.line X.env=pure true:=by rfl)
  (hs:∀ x,foldedSetIterable iter X.env x=pure x:=by intro _;rfl) :
  PS X (.Assign [.Name y py] (.ListComp elt [⟨tg,iter,ifs,0⟩] scope pos) spos) (LS X.K (bI i (dR src fi g t f))):=by
 intro pins s σ H E I h;obtain⟨Z,d,m,R,ok,rs,h,k,_⟩:=h;rw[exec_Assign_Name_used _ _ _ _ hsw];refine ad (wpAny_standAt (ad ?_));rw[arm_evalThenUse_ListComp];refine ad ?_;refine aP (Nd src hc hi hg ht he hkind hcell hnames hfree hsrc hs (use:=some (assign (.Name y py) X.env)) (QQ:=fun _ s'=>SP X pins E .next s') (RL:=fun ps m2=>R.nx (d.set i (some (.dat (.list ps)))) m2) I ok rs h ?_) (fun _ s' q=>ae (ae q));intro s5 C D H' m' ps q e ok' rd ⟨mm,hns⟩ I5 off hcl;show wpAny _ X.A (assign (.Name y py) X.env (.ref D)) _ _ s5
 refine wpAny_assign_Name (Hw I5 hN hi2 hx (v:=.ref D) rfl (fun s6 I6 ⟨a,hs6,ha⟩=>?_) hf);have ne:C≠a:=by
  rcases ha with rfl | ha
  ·exact off.l
  ·exact Ne.symm (off.c _ _ ha)
 refine⟨mm,hns.sameBut hs6 ne,fun h' hs'=>?_⟩;exact⟨_,H',off.inv I6 hs',k _ m' _ H' q e ok' ((rs.ext e).set rd)⟩
end
end DL
namespace DL
open PySem PySem.Spec PyProof.Rows L2
section
variable {prog:Program}{w:World}{A:Around}{E:Value->Shared->Prop}{s:Shared}
def IsRv(h:Heap)(a t:Addr)(i:Int):Prop:=∃ o,h.get? a=some o/\o.cls=.type "reversed"/\o.data=.fields #[.ref t,rawInt i]
theorem IsRv.typeIs{a t:Addr}{i:Int}(x:IsRv s.heap a t i):s.TypeIs (.ref a) "reversed":=let ⟨o,ho,hc,_⟩:=x;⟨o,ho,hc⟩
end
end DL
namespace DL
open PySem PySem.Spec PyProof.Rows L2
theorem J7(l:Addr)(items:Array Value)(x:Value)(e:Value->Bool)(j:Nat)(hj:j<items.size)(hit:e items[j]=true)(hno:∀ m (hm:m<items.size),m<j->e items[m]=false) :
  Meets (Builtin.«tuple.index» ⟨[.ref l,x],[]⟩) (fun A R s=>IsTup s.heap l items/\(∀ y,y∈items->SeqAt.EqAt A.in1 s y x (e y))/\R (.ok (.ret (.int j s.toks))) {s with toks:=s.toks+1}) :=
 .of_wp fun prog w A R s h=>by
  obtain⟨ht,he,h⟩:=h;unfold Builtin.«tuple.index»;refine ad (wpAny_of_eq (a:=(Value.ref l,[x])) rfl ?_)
  try dsimp only
  refine ad (tupleItemsOf_ ht ?_)
  try dsimp only
  refine ad (ae (ad (ae ?_)));rw[Nat.min_self,Std.Legacy.Range.forIn_eq_forIn_range'];refine ad (wpAny_forIn_list _ (fun rest b s'=>s'=s/\∃ k,k<=j/\rest=List.range' k (items.size-k)) _ ?_ ?_ _ _ ?_)
  ·rintro i rest b s' ⟨rfl,k,hk,hr⟩;have hlt:k<items.size:=by omega
   obtain⟨n,hn⟩:∃ n,items.size-k=n+1:=⟨items.size-k-1,by omega⟩
   rw[hn,List.range'_succ]at hr;obtain⟨rfl,rfl⟩:=List.cons.inj hr;have hx:items[i]?=some items[i]:=Array.getElem?_eq_getElem hlt
   simp only[hx];refine ad (he _ (Array.getElem_mem hlt) prog w _ _ ?_)
   by_cases hij:i=j
   ·subst hij;rw[hit];exact ad (ad (wpAny_mkInt (ae (ae (ae ⟨_,rfl,h⟩)))))
   ·rw[hno i hlt (by omega)]
    exact ae ⟨rfl,i+1,by omega,by congr 1;omega⟩
  ·rintro b s' ⟨rfl,k,hk,hr⟩;have:=congrArg List.length hr
   rw[List.length_range']at this;simp at this;omega
  ·exact⟨rfl,0,Nat.zero_le _,by simp[Std.Legacy.Range.size]⟩
theorem tM:∀ {zs:List Str} {us:List Value},Vals (zs.map V.str) us->∀ i (h:i<us.length) (h2:i<zs.length),∃ t,us[i]=.str zs[i] t
 | [],_,.nil,i,h,_=>absurd h (Nat.not_lt_zero _)
 | z::zs,_,.cons r t,0,_,_=>let ⟨k,e⟩:=r;⟨k,e⟩
 | z::zs,_,.cons r t,i+1,h,h2=>tM t i (Nat.lt_of_succ_lt_succ h) (Nat.lt_of_succ_lt_succ h2)
theorem uB{y:Str}:∀ (zs:List Str) (m:Nat) (h:m<zs.length),m<zs.idxOf y->zs[m]≠y
 | [],_,h,_=>absurd h (Nat.not_lt_zero _)
 | z::zs,0,_,h=>by
  intro e;rw[List.getElem_cons_zero]at e;rw[e,List.idxOf_cons_self]at h;exact absurd h (Nat.lt_irrefl _)
 | z::zs,m+1,hl,h=>by
  rw[List.getElem_cons_succ];refine uB zs m (Nat.lt_of_succ_lt_succ hl) ?_;rw[List.idxOf_cons]at h
  cases e:z==y with
  | true=>simp[e]at h
  | false=>simp[e]at h;omega
section
variable {X:Cx}{a e o:Expr}{es:List Expr}{f g:DE}{ga:DA}{pos p p1 p2:Pos}
def GP(K:ac):V->List V->Hp->VK->Prop:=fun x xs H Q=>∃ (a:Addr) (y:Str) (zs:List Str),x=.ref a/\xs=[.str y]/\SqT K H a (zs.map V.str)/\y∈zs/\Q (.int (zs.idxOf y:Nat)) H
theorem G1:MtR X "tuple.index" (GP X.K):=by
 intro pins s σ H x xs v us Q I rx rs ⟨a,y,zs,e1,e2,hq,hk,q⟩;subst e1 e2
 cases rx
 obtain⟨u,rfl,ru⟩:=eD rs;obtain⟨tk,rfl⟩:=id ru;obtain⟨its,rv,p,hz⟩:=I.tuple hq;have hl:=rv.length
 rw[ar]at hl;have hj:zs.idxOf y<zs.length:=List.idxOf_lt_length_iff.mpr hk
 have hit:∀ m (hm:m<its.toArray.size) (hm2:m<zs.length),eL (.str y) its.toArray[m]=(zs[m]==y):=fun m hm hm2=>by
  obtain⟨t,e⟩:=tM rv m (by simpa using hm) hm2
  have e':its.toArray[m]=.str zs[m] t:=by simpa using e
  rw[e'];rfl
 have hfl:(zs.map V.str).all fW=true:=by
  rw[List.all_eq_true];intro v hv;obtain⟨z,_,rfl⟩:=List.mem_map.mp hv;rfl
 refine call_meets PySem.F.slot_tuple_index p.typeIs PySem.F.entry_tuple_index (PySem.F.args_tuple_index_2 _ _) (J7 a its.toArray (.str y tk) (eL (.str y)) (zs.idxOf y) (by rw[au];omega) ?_ ?_) ⟨p,?_,?_⟩
 ·rw[hit _ _ hj,List.getElem_idxOf hj];simp
 ·intro m hm hlt;have hm2:m<zs.length:=by omega
  rw[hit m hm hm2];simp only[beq_eq_false_iff_ne];exact uB _ _ hm2 hlt
 ·exact fun w hw=>kE (x:=.str y) ⟨tk,rfl⟩ rfl rv hfl w (by simpa using hw)
 ·exact⟨.int _,H,I.tok _,⟨_,rfl⟩,q⟩
theorem fX{K:ac}{Z:Addr->Prop}{m:Mu}{H:Hp}:∀ {zs:List Str} {vs:List V},RPs K Z m H (zs.map PyData.str) vs->vs=zs.map V.str
 | [],vs,h=>by simpa[RPs] using h
 | z::zs,vs,h=>by
  simp only[aq,RPs]at h;obtain⟨v,r,rfl,h1,h2⟩:=h;simp only[RP]at h1;subst h1;rw[fX h2];rfl
theorem oF{K:ac}{Z:Addr->Prop}{m:Mu}{H:Hp}:∀ (zs:List Str),RPs K Z m H (zs.map PyData.str) (zs.map V.str)
 | []=>by simp[RPs]
 | z::zs=>by
  simp only[aq,RPs];exact⟨_,_,rfl,by simp only[RP],oF zs⟩
def KT(K:ac)(a:Addr)(zs:List Str):Prop:=∃ (o:Obj) (its:Array Value) (n:Nat),K.lookup a=some o/\o.cls=.type "tuple"/\o.dict=none/\o.data=.seq its n/\its.size<=sizeLine/\Vals (zs.map V.str) its.toList
theorem KT.sq{K:ac}{a:Addr}{zs:List Str}{H:Hp}(h:KT K a zs):SqT K H a (zs.map V.str):=by
 obtain⟨o,its,n,h1,h2,h3,h4,h5,h6⟩:=h;exact .inr ⟨o,its,n,h1,⟨h2,h3⟩,h4,h5,h6⟩
theorem G0{x:Str}{c:Addr}{zs:List Str}(hg:Gl X x)(hm:X.mg x=some (.ref c))(hk:KT X.K c zs)(hd:(x==("__debug__" : Str))=false:=by decide):PE X (.Name x pos) (LE X.K (aE (.tuple (zs.map .str)))) :=
 PE.imp (nJ (v:=.ref c) hg hm rfl hd) fun s H Q h=>by
  obtain⟨Z,d,m,R,ok,rs,h,k⟩:=h;refine k _ m _ H h Ext.refl ok ?_;simp only[RD,RP];exact⟨c,_,rfl,hk.sq,oF zs⟩
@[simp] def kO:D2
 | .dat (.str x),.dat (.list ys),m,Q=>∃ zs:List Str,ys=zs.map .str/\Q (.dat (.bool (decide (x∈zs)))) m
 | .dat (.str x),.dat (.tuple ys),m,Q=>∃ zs:List Str,ys=zs.map .str/\Q (.dat (.bool (decide (x∈zs)))) m
 | .dat (.bool x),.dat (.list ys),m,Q=>∃ zs:List Bool,ys=zs.map .bool/\Q (.dat (.bool (decide (x∈zs)))) m
 | .dat (.bool x),.dat (.tuple ys),m,Q=>∃ zs:List Bool,ys=zs.map .bool/\Q (.dat (.bool (decide (x∈zs)))) m
 | .dat (.int x),.dat (.list ys),m,Q=>∃ zs:List Int,ys=zs.map .int/\Q (.dat (.bool (decide (x∈zs)))) m
 | .dat (.int x),.dat (.tuple ys),m,Q=>∃ zs:List Int,ys=zs.map .int/\Q (.dat (.bool (decide (x∈zs)))) m
 | _,_,_,_=>False
@[simp] def qM:D2
 | .dat (.str x),.dat (.list ys),m,Q=>∃ zs:List Str,ys=zs.map .str/\Q (.dat (.bool (!decide (x∈zs)))) m
 | .dat (.str x),.dat (.tuple ys),m,Q=>∃ zs:List Str,ys=zs.map .str/\Q (.dat (.bool (!decide (x∈zs)))) m
 | .dat (.bool x),.dat (.list ys),m,Q=>∃ zs:List Bool,ys=zs.map .bool/\Q (.dat (.bool (!decide (x∈zs)))) m
 | .dat (.bool x),.dat (.tuple ys),m,Q=>∃ zs:List Bool,ys=zs.map .bool/\Q (.dat (.bool (!decide (x∈zs)))) m
 | .dat (.int x),.dat (.list ys),m,Q=>∃ zs:List Int,ys=zs.map .int/\Q (.dat (.bool (!decide (x∈zs)))) m
 | .dat (.int x),.dat (.tuple ys),m,Q=>∃ zs:List Int,ys=zs.map .int/\Q (.dat (.bool (!decide (x∈zs)))) m
 | _,_,_,_=>False
theorem mU(x:Str):∀ zs:List Str,jA (.str x) (zs.map V.str)=decide (x∈zs)
 | []=>rfl
 | z::zs=>by
  have ih:=mU x zs
  unfold jA at ih ⊢;rw[aq,List.any_cons,ih];show(z==x||decide (x∈zs))=decide (x∈z::zs)
  rw[Bool.eq_iff_iff];simp only[Bool.or_eq_true,beq_iff_eq,decide_eq_true_eq,List.mem_cons];exact⟨fun h=>h.imp Eq.symm id,fun h=>h.imp Eq.symm id⟩
theorem oU(zs:List Str):(zs.map V.str).all fW=true:=by
 rw[List.all_eq_true];intro v hv;obtain⟨z,_,rfl⟩:=List.mem_map.mp hv;rfl
theorem nG(x:Bool):∀ zs:List Bool,jA (.bl x) (zs.map V.bl)=decide (x∈zs)
 | []=>rfl
 | z::zs=>by
  have ih:=nG x zs
  unfold jA at ih ⊢;rw[aq,List.any_cons,ih];show(z==x||decide (x∈zs))=decide (x∈z::zs)
  rw[Bool.eq_iff_iff];simp only[Bool.or_eq_true,beq_iff_eq,decide_eq_true_eq,List.mem_cons];exact⟨fun h=>h.imp Eq.symm id,fun h=>h.imp Eq.symm id⟩
theorem oR(zs:List Bool):(zs.map V.bl).all fW=true:=by
 rw[List.all_eq_true];intro v hv;obtain⟨z,_,rfl⟩:=List.mem_map.mp hv;rfl
theorem mY{K:ac}{Z:Addr->Prop}{m:Mu}{H:Hp}:∀ {zs:List Bool} {vs:List V},RPs K Z m H (zs.map PyData.bool) vs->vs=zs.map V.bl
 | [],vs,h=>by simpa[RPs] using h
 | z::zs,vs,h=>by
  simp only[aq,RPs]at h;obtain⟨v,r,rfl,h1,h2⟩:=h;simp only[RP]at h1;subst h1;rw[mY h2];rfl
theorem nI(x:Int):∀ zs:List Int,jA (.int x) (zs.map V.int)=decide (x∈zs)
 | []=>rfl
 | z::zs=>by
  have ih:=nI x zs
  unfold jA at ih ⊢;rw[aq,List.any_cons,ih];show(z==x||decide (x∈zs))=decide (x∈z::zs)
  rw[Bool.eq_iff_iff];simp only[Bool.or_eq_true,beq_iff_eq,decide_eq_true_eq,List.mem_cons];exact⟨fun h=>h.imp Eq.symm id,fun h=>h.imp Eq.symm id⟩
theorem sC(zs:List Int):(zs.map V.int).all fW=true:=by
 rw[List.all_eq_true];intro v hv;obtain⟨z,_,rfl⟩:=List.mem_map.mp hv;rfl
theorem nP{K:ac}{Z:Addr->Prop}{m:Mu}{H:Hp}:∀ {zs:List Int} {vs:List V},RPs K Z m H (zs.map PyData.int) vs->vs=zs.map V.int
 | [],vs,h=>by simpa[RPs] using h
 | z::zs,vs,h=>by
  simp only[aq,RPs]at h;obtain⟨v,r,rfl,h1,h2⟩:=h;simp only[RP]at h1;subst h1;rw[nP h2];rfl
theorem Dc:cM X (compareOp .In) kO:=by
 intro pins s σ H Z m x y dx dy v u R Q I ok rx ry r1 r2 h k;unfold kO at h
 split at h
 ·obtain⟨zs,rfl,q⟩:=h
  cases r1.str
  simp only[RD,RP]at r2;obtain⟨a,vs,rfl,_,h1,h2⟩:=r2
  cases fX h2
  refine kW pins s σ H _ _ v u Q I rx ry ⟨a,_,rfl,.inl h1,rfl,oU zs,?_⟩;rw[if_neg ak,mU];exact k _ m _ H q Ext.refl ok .ofBl
 ·obtain⟨zs,rfl,q⟩:=h
  cases r1.str
  simp only[RD,RP]at r2;obtain⟨a,vs,rfl,h1,h2⟩:=r2
  cases fX h2
  refine kW pins s σ H _ _ v u Q I rx ry ⟨a,_,rfl,.inr h1,rfl,oU zs,?_⟩;rw[if_neg ak,mU];exact k _ m _ H q Ext.refl ok .ofBl
 ·obtain⟨zs,rfl,q⟩:=h
  cases r1.bl
  simp only[RD,RP]at r2;obtain⟨a,vs,rfl,_,h1,h2⟩:=r2
  cases mY h2
  refine kW pins s σ H _ _ v u Q I rx ry ⟨a,_,rfl,.inl h1,rfl,oR zs,?_⟩;rw[if_neg ak,nG];exact k _ m _ H q Ext.refl ok .ofBl
 ·obtain⟨zs,rfl,q⟩:=h
  cases r1.bl
  simp only[RD,RP]at r2;obtain⟨a,vs,rfl,h1,h2⟩:=r2
  cases mY h2
  refine kW pins s σ H _ _ v u Q I rx ry ⟨a,_,rfl,.inr h1,rfl,oR zs,?_⟩;rw[if_neg ak,nG];exact k _ m _ H q Ext.refl ok .ofBl
 ·obtain⟨zs,rfl,q⟩:=h
  cases r1.int
  simp only[RD,RP]at r2;obtain⟨a,vs,rfl,_,h1,h2⟩:=r2
  cases nP h2
  refine kW pins s σ H _ _ v u Q I rx ry ⟨a,_,rfl,.inl h1,rfl,sC zs,?_⟩;rw[if_neg ak,nI];exact k _ m _ H q Ext.refl ok .ofBl
 ·obtain⟨zs,rfl,q⟩:=h
  cases r1.int
  simp only[RD,RP]at r2;obtain⟨a,vs,rfl,h1,h2⟩:=r2
  cases nP h2
  refine kW pins s σ H _ _ v u Q I rx ry ⟨a,_,rfl,.inr h1,rfl,sC zs,?_⟩;rw[if_neg ak,nI];exact k _ m _ H q Ext.refl ok .ofBl
 ·exact h.elim
theorem Td:cM X (compareOp .NotIn) qM:=by
 intro pins s σ H Z m x y dx dy v u R Q I ok rx ry r1 r2 h k;unfold qM at h
 split at h
 ·obtain⟨zs,rfl,q⟩:=h
  cases r1.str
  simp only[RD,RP]at r2;obtain⟨a,vs,rfl,_,h1,h2⟩:=r2
  cases fX h2
  refine lA pins s σ H _ _ v u Q I rx ry ⟨a,_,rfl,.inl h1,rfl,oU zs,?_⟩;rw[if_pos rfl,mU];exact k _ m _ H q Ext.refl ok .ofBl
 ·obtain⟨zs,rfl,q⟩:=h
  cases r1.str
  simp only[RD,RP]at r2;obtain⟨a,vs,rfl,h1,h2⟩:=r2
  cases fX h2
  refine lA pins s σ H _ _ v u Q I rx ry ⟨a,_,rfl,.inr h1,rfl,oU zs,?_⟩;rw[if_pos rfl,mU];exact k _ m _ H q Ext.refl ok .ofBl
 ·obtain⟨zs,rfl,q⟩:=h
  cases r1.bl
  simp only[RD,RP]at r2;obtain⟨a,vs,rfl,_,h1,h2⟩:=r2
  cases mY h2
  refine lA pins s σ H _ _ v u Q I rx ry ⟨a,_,rfl,.inl h1,rfl,oR zs,?_⟩;rw[if_pos rfl,nG];exact k _ m _ H q Ext.refl ok .ofBl
 ·obtain⟨zs,rfl,q⟩:=h
  cases r1.bl
  simp only[RD,RP]at r2;obtain⟨a,vs,rfl,h1,h2⟩:=r2
  cases mY h2
  refine lA pins s σ H _ _ v u Q I rx ry ⟨a,_,rfl,.inr h1,rfl,oR zs,?_⟩;rw[if_pos rfl,nG];exact k _ m _ H q Ext.refl ok .ofBl
 ·obtain⟨zs,rfl,q⟩:=h
  cases r1.int
  simp only[RD,RP]at r2;obtain⟨a,vs,rfl,_,h1,h2⟩:=r2
  cases nP h2
  refine lA pins s σ H _ _ v u Q I rx ry ⟨a,_,rfl,.inl h1,rfl,sC zs,?_⟩;rw[if_pos rfl,nI];exact k _ m _ H q Ext.refl ok .ofBl
 ·obtain⟨zs,rfl,q⟩:=h
  cases r1.int
  simp only[RD,RP]at r2;obtain⟨a,vs,rfl,h1,h2⟩:=r2
  cases nP h2
  refine lA pins s σ H _ _ v u Q I rx ry ⟨a,_,rfl,.inr h1,rfl,sC zs,?_⟩;rw[if_pos rfl,nI];exact k _ m _ H q Ext.refl ok .ofBl
 ·exact h.elim
@[simp] def gB:DC
 | [.dat (.tuple xs)],m,Q=>Q (.dat (.tuple xs)) m
 | [.dat (.list xs)],m,Q=>Q (.dat (.tuple xs)) m
 | [.cel c],m,Q=>∃ xs,m c=some (.l xs)/\Q (.dat (.tuple xs)) m
 | _,_,_=>False
theorem iJ:CallD X (.type "tuple") gB:=by
 intro pins s σ H Z m xs ds us R Q I ok rv rd h k;unfold gB at h
 split at h
 ·obtain⟨v,rfl,r1⟩:=rd.one;have r0:=r1
  simp only[RD,RP]at r1;obtain⟨a,vs,rfl,h1,h2⟩:=r1;exact tZ pins s σ H _ us Q I rv ⟨a,vs,rfl,.inr ⟨h1,k _ m _ H h Ext.refl ok r0⟩⟩
 ·obtain⟨v,rfl,r1⟩:=rd.one;simp only[RD,RP]at r1;obtain⟨a,vs,rfl,_,h1,h2⟩:=r1;refine tZ pins s σ H _ us Q I rv ⟨a,vs,rfl,.inl ⟨h1,fun l hl=>?_⟩⟩;have sm:Same H (upd H l (.tup vs)):=dM hl
  refine k _ m _ _ h (ok.ext sm) (ok.grow sm) ?_;simp only[RD,RP];exact⟨l,vs,rfl,.inl (.inl dS),RPs.ext (ok.ext sm) _ _ h2⟩
 ·obtain⟨v,rfl,r1⟩:=rd.one;obtain⟨rfl,_⟩:=r1;obtain⟨ys,hm,q⟩:=h;obtain⟨vs,h1,h2⟩:=ok.l hm;refine tZ pins s σ H _ us Q I rv ⟨_,vs,rfl,.inl ⟨.inl (.inl h1),fun l hl=>?_⟩⟩;have sm:Same H (upd H l (.tup vs)):=dM hl
  refine k _ m _ _ q (ok.ext sm) (ok.grow sm) ?_;simp only[RD,RP];exact⟨l,vs,rfl,.inl (.inl dS),RPs.ext (ok.ext sm) _ _ h2⟩
 ·exact h.elim
end
end DL
namespace DL
open PySem PySem.Spec PyProof.Rows L2
def chkB(scope:Scope)(env:Env):Bool:=scope.names.all fun y=>(decide (y.2≠.cell))&&(!decide (y.2=.local)||decide (scope.names.lookup y.1=some .local))&&(!decide (y.2=.free)||decide (env.kindOf y.1=some .cell)||decide (env.kindOf y.1=some .free))
def chkS(N:List Str)(scope:Scope)(env:Env):List Str->List (Option Nat)->Bool
 | [],[]=>true
 | x::xs,o::os=>(match o with | none=>true | some j=>decide (N[j]?=some x)&&decide ((x,NameKind.free)∈scope.names)&&(decide ((relabel scope env).names.lookup x=some .cell)||decide ((relabel scope env).names.lookup x=some .free)))&&chkS N scope env xs os
 | _,_=>false
theorem chkB.ok{scope:Scope}{env:Env}(h:chkB scope env=true):(∀ y∈scope.names,y.2≠.cell)/\(∀ y∈scope.names,y.2=.local->scope.names.lookup y.1=some .local)/\∀ x,(x,NameKind.free)∈scope.names->env.kindOf x=some .cell\/env.kindOf x=some .free:=by
 unfold chkB at h;rw[List.all_eq_true]at h;have q:∀ y∈scope.names,y.2≠.cell/\(y.2=.local->scope.names.lookup y.1=some .local)/\(y.2=.free->env.kindOf y.1=some .cell\/env.kindOf y.1=some .free):=fun y hy=>by
  have:=h y hy
  simp only[Bool.and_eq_true,Bool.or_eq_true,Bool.not_eq_true',decide_eq_true_eq,decide_eq_false_iff_not]at this;obtain⟨⟨a,b⟩,c⟩:=this;refine⟨a,fun e=>b.resolve_left (fun n=>n e),fun e=>?_⟩;rcases c with (c | c) | c
  ·exact absurd e c
  ·exact .inl c
  ·exact .inr c
 exact⟨fun y hy=>(q y hy).1,fun y hy=>(q y hy).2.1,fun x hx=>(q _ hx).2.2 rfl⟩
theorem chkS.ok{X:Cx}{scope:Scope}:∀ {NC:List Str} {src:List (Option Nat)},chkS X.N scope X.env NC src=true->kF X scope NC src
 | [],[],_=>⟨rfl,fun i x j h=>by simp at h⟩
 | [],_::_,h=>by simp[chkS]at h
 | _::_,[],h=>by simp[chkS]at h
 | y::ys,o::os,h=>by
  simp only[chkS,Bool.and_eq_true]at h;obtain⟨h1,h2⟩:=h;obtain⟨q1,q2⟩:=chkS.ok h2;refine⟨by rw[List.length_cons,List.length_cons,q1],fun i x j e1 e2=>?_⟩
  cases i with
  | zero =>
   simp at e1 e2;subst e1 e2;simp only[Bool.and_eq_true,Bool.or_eq_true,decide_eq_true_eq]at h1;exact⟨h1.1.1,h1.1.2,h1.2⟩
  | succ i=>exact q2 i x j (by simpa using e1) (by simpa using e2)
section
variable {X:Cx}{tg iter elt:Expr}{ifs:List Expr}{scope:Scope}{fi:DI}{g:DG}{t:DT}{f:DE}{pos:Pos}
theorem Xq(NC:List Str)(src:List (Option Nat))(hc:X.calm=true)(hi:PI X tg iter (LI X.K fi))
  (hg:∀ cl C s2 H2 pins fp,PG (bQ X scope cl C NC s2 H2 pins fp) tg (LG X.K g)) (ht:∀ cl C s2 H2 pins fp,PF (bQ X scope cl C NC s2 H2 pins fp) ifs (LT X.K t)) (he:∀ cl C s2 H2 pins fp,PE (bQ X scope cl C NC s2 H2 pins fp) elt (LE X.K f))
  (hkind:scope.kind=.function:=by rfl) (hB:chkB scope X.env=true:=by rfl) (hS:chkS X.N scope X.env NC src=true:=by rfl)
  (hs:∀ x,foldedSetIterable iter X.env x=pure x:=by intro _;rfl):PE X (.ListComp elt [⟨tg,iter,ifs,0⟩] scope pos) (LE X.K (dR src fi g t f)) :=
 P4 (NC:=NC) src hc hi hg ht he hkind (chkB.ok hB).1 (chkB.ok hB).2.1 (chkB.ok hB).2.2 (chkS.ok hS) hs
theorem IE(i:Nat){y:Str}{py spos:Pos}(NC:List Str)(src:List (Option Nat))(hc:X.calm=true)(hN:X.N.Nodup)(hi:PI X tg iter (LI X.K fi))
  (hg:∀ cl C s2 H2 pins fp,PG (bQ X scope cl C NC s2 H2 pins fp) tg (LG X.K g)) (ht:∀ cl C s2 H2 pins fp,PF (bQ X scope cl C NC s2 H2 pins fp) ifs (LT X.K t)) (he:∀ cl C s2 H2 pins fp,PE (bQ X scope cl C NC s2 H2 pins fp) elt (LE X.K f))
  (hkind:scope.kind=.function:=by rfl) (hB:chkB scope X.env=true:=by rfl) (hS:chkS X.N scope X.env NC src=true:=by rfl)
  (hi2:X.N[i]?=some y:=by rfl) (hx:hG X.env.scope y:=by first | exact Or.inl rfl | exact Or.inr rfl) (hf:X.fn y=true\/X.env.scope.names.lookup y=some .local:=by first | exact .inl rfl | exact .inr rfl)
  (hsw:swapsWith (.ListComp elt [⟨tg,iter,ifs,0⟩] scope pos) (some (.Name y py)) spos.line X.env=pure true:=by rfl)
  (hs:∀ x,foldedSetIterable iter X.env x=pure x:=by intro _;rfl):PS X (.Assign [.Name y py] (.ListComp elt [⟨tg,iter,ifs,0⟩] scope pos) spos) (LS X.K (bI i (dR src fi g t f))) :=
 EZ (NC:=NC) i src hc hi hg ht he hkind (chkB.ok hB).1 (chkB.ok hB).2.1 (chkB.ok hB).2.2 (chkS.ok hS) hN hi2 hx hf hsw hs
end
end DL
namespace DL
open PySem PySem.Spec PyProof.Rows L2
section
variable {prog:Program}{w:World}{A:Around}{R:Result->Shared->Prop}{s:Shared}
theorem Yn(elt tg iter tg2 iter2:Expr)(ifs ifs2:List Expr)(scope:Scope)(pos:Pos)(it acc:Value)(env:Env) :
  compTurn (.ListComp elt [⟨tg,iter,ifs,0⟩,⟨tg2,iter2,ifs2,0⟩] scope pos) 0 it acc env=(do
   standAt iter.pos
   match <- pyNext it with
   | none=>pure (.done .next)
   | some v =>
    letOwnedTupleGo tg it v
    assign tg env v
    let mut ok:=true
    for c in ifs do
     if ok then ok <- isTrue c env (eval c env)
    if ok then
     let x <- eval iter2 env
     standAt iter2.pos
     let x <- foldedSetIterable iter2 env x
     let _ <- runOwn (.compStart (.ListComp elt [⟨tg,iter,ifs,0⟩,⟨tg2,iter2,ifs2,0⟩] scope pos) 1 (<- holding [x] (pyIter x)) acc env) env
    again (.compLoop (.ListComp elt [⟨tg,iter,ifs,0⟩,⟨tg2,iter2,ifs2,0⟩] scope pos) 0 it acc env)):=by rfl
theorem Z2(elt tg iter tg2 iter2:Expr)(ifs ifs2:List Expr)(scope:Scope)(pos:Pos)(it acc:Value)(env:Env) :
  compTurn (.ListComp elt [⟨tg,iter,ifs,0⟩,⟨tg2,iter2,ifs2,0⟩] scope pos) 1 it acc env=(do
   standAt iter2.pos
   match <- pyNext it with
   | none=>pure (.done .next)
   | some v =>
    letOwnedTupleGo tg2 it v
    assign tg2 env v
    let mut ok:=true
    for c in ifs2 do
     if ok then ok <- isTrue c env (eval c env)
    if ok then
     (do let _ <- call (.builtin "list.append") [acc,<- eval elt env])
    again (.compLoop (.ListComp elt [⟨tg,iter,ifs,0⟩,⟨tg2,iter2,ifs2,0⟩] scope pos) 1 it acc env)):=by rfl
theorem V8{elt tg iter tg2 iter2:Expr}{ifs ifs2:List Expr}{scope:Scope}{pos:Pos}{it acc:Value}{env:Env}
  (h0:codeAny (model prog w) A (.compLoop (.ListComp elt [⟨tg,iter,ifs,0⟩,⟨tg2,iter2,ifs2,0⟩] scope pos) 1 it acc env) R s)
  (h:wpAny (model prog w) A (pyIter it) (fun it' s'=>codeAny (model prog w) A (.compLoop (.ListComp elt [⟨tg,iter,ifs,0⟩,⟨tg2,iter2,ifs2,0⟩] scope pos) 1 it' acc env) R s')
   (notedBy (model prog w) A env fun x s'=>R (.error x) s') s) :
  codeAny (model prog w) A (.compStart (.ListComp elt [⟨tg,iter,ifs,0⟩,⟨tg2,iter2,ifs2,0⟩] scope pos) 1 it acc env) R s:=by
 refine codeAny_of_tree ?_;show wpAny _ _ ((compStart (.ListComp elt [⟨tg,iter,ifs,0⟩,⟨tg2,iter2,ifs2,0⟩] scope pos) 1 it acc env).onRaise (fun x=>do noteFrame x env;standAt theWindowsPlace)) _ _ s
 refine wpAny_notedAt ?_;unfold compStart;show wpAny _ _ (ask>>=_) _ _ s
 refine ad (wpAny_askSetting (wpAny_ite ?_))
 split
 ·first
   | exact ad (ae (ae (And.intro rfl h0)))
   | exact ae (And.intro rfl h0)
 ·first
   | exact ad (wpAny_rule (ad (wpAny_standAt (ad (wpAny_mono h (fun it' s' h'=>ae (And.intro rfl h')) fun _ _ x=>x)))))
   | (refine ad (wpAny_rule ?_);show wpAny _ _ (standAt iter2.pos>>=_) _ _ s;exact ad (wpAny_standAt (ad (wpAny_mono h (fun it' s' h'=>ae (And.intro rfl h')) fun _ _ x=>x))))
theorem Ve{elt tg iter tg2 iter2:Expr}{ifs ifs2:List Expr}{scope:Scope}{pos:Pos}{it acc:Value}{env:Env}(I:Nat->Shared->Prop)(hs:∀ x,foldedSetIterable iter2 env x=pure x)
  (turn:∀ n s,I n s->wpAny (model prog w) A (pyNext it) (fun r s₁=>match r with
   | none=>R (.ok .next) s₁
   | some v=>wpAny (model prog w) A (letOwnedTupleGo tg it v) (fun _ s₀=>wpAny (model prog w) A (assign tg env v) (fun _ s₂ =>
     wpAny (model prog w) A (forIn ifs true fun c r=>if r=true then do let ok <- isTrue c env (eval c env);pure (ForInStep.yield ok) else pure (ForInStep.yield r)) (fun ok s₃ =>
      if ok=true then wpAny (model prog w) A (eval iter2 env) (fun x s₄ =>
       wpAny (model prog w) A (pyIter x) (fun it2 s₅=>codeAny (model prog w) A (.compStart (.ListComp elt [⟨tg,iter,ifs,0⟩,⟨tg2,iter2,ifs2,0⟩] scope pos) 1 it2 acc env) (fun r s₆=>r=.ok .next/\∃ m,m<n/\I m s₆) s₅) (fun _ _=>False) s₄) (fun _ _=>False) s₃
      else ∃ m,m<n/\I m s₃) (fun _ _=>False) s₂) (fun _ _=>False) s₀) (fun _ _=>False) s₁) (fun _ _=>False) s)
  (n:Nat) (h:I n s) :
  codeAny (model prog w) A (.compLoop (.ListComp elt [⟨tg,iter,ifs,0⟩,⟨tg2,iter2,ifs2,0⟩] scope pos) 0 it acc env) R s:=by
 have ff:∀ {E:Value->Shared->Prop} (x:Value) (s:Shared),False->E x s:=fun _ _ z=>z.elim
 refine codeAny_loop rfl I (fun n s hI=>?_) n h;show wpAny _ A ((compTurn (.ListComp elt [⟨tg,iter,ifs,0⟩,⟨tg2,iter2,ifs2,0⟩] scope pos) 0 it acc env).onRaise (fun x=>do noteFrame x env;theTreesLotGoes x)) _ _ s
 refine wpAny_noted ?_;rw[Yn];refine ad (wpAny_standAt (ad (wpAny_mono (turn n s hI) (fun r s₁ h₁=>?_) ff)))
 cases r with
 | none=>exact ae h₁
 | some v =>
  refine ad (wpAny_mono h₁ (fun _ s₀ h₀=>?_) ff);refine ad (wpAny_mono h₀ (fun _ s₂ h₂=>ad (wpAny_mono h₂ (fun ok s₃ h₃=>?_) ff)) ff)
  cases ok with
  | true =>
   simp only[if_true]at h₃ ⊢;refine ad (wpAny_mono h₃ (fun x s₄ h₄=>?_) ff);refine ad (wpAny_standAt (ad (wpAny_of_eq (hs x) ?_)));refine ad (wpAny_holding (wpAny_mono h₄ (fun it2 s₅ h₅=>?_) ff));refine ad (wpAny_runOwn (codeAny_mono h₅ fun r s₆ ⟨hr,h₆⟩=>?_));subst hr;exact ae ⟨rfl,h₆⟩
  | false =>
   simp only[Bool.false_eq_true,if_false]at h₃ ⊢;exact ae ⟨rfl,h₃⟩
theorem GC{elt tg iter tg2 iter2:Expr}{ifs ifs2:List Expr}{scope:Scope}{pos:Pos}{it acc:Value}{env:Env}{E:Value->Shared->Prop}(hE:∀ x s,E x s->False)(I:Nat->Shared->Prop)
  (turn:∀ n s,I n s->wpAny (model prog w) A (pyNext it) (fun r s₁=>match r with
   | none=>R (.ok .next) s₁
   | some v=>wpAny (model prog w) A (letOwnedTupleGo tg2 it v) (fun _ s₀=>wpAny (model prog w) A (assign tg2 env v) (fun _ s₂ =>
     wpAny (model prog w) A (forIn ifs2 true fun c r=>if r=true then do let ok <- isTrue c env (eval c env);pure (ForInStep.yield ok) else pure (ForInStep.yield r)) (fun ok s₃ =>
      if ok=true then wpAny (model prog w) A (eval elt env) (fun x s₄ =>
       wpAny (model prog w) A (call (.builtin "list.append") [acc,x]) (fun _ s₅=>∃ m,m<n/\I m s₅) E s₄) E s₃
      else ∃ m,m<n/\I m s₃) E s₂) E s₀) E s₁) E s)
  (n:Nat) (h:I n s) :
  codeAny (model prog w) A (.compLoop (.ListComp elt [⟨tg,iter,ifs,0⟩,⟨tg2,iter2,ifs2,0⟩] scope pos) 1 it acc env) R s:=by
 have ff:∀ {E':Value->Shared->Prop} (x:Value) (s:Shared),E x s->E' x s:=fun x s z=>(hE x s z).elim
 refine codeAny_loop rfl I (fun n s hI=>?_) n h;show wpAny _ A ((compTurn (.ListComp elt [⟨tg,iter,ifs,0⟩,⟨tg2,iter2,ifs2,0⟩] scope pos) 1 it acc env).onRaise (fun x=>do noteFrame x env;theTreesLotGoes x)) _ _ s
 refine wpAny_noted ?_;rw[Z2];refine ad (wpAny_standAt (ad (wpAny_mono (turn n s hI) (fun r s₁ h₁=>?_) ff)))
 cases r with
 | none=>exact ae h₁
 | some v =>
  refine ad (wpAny_mono h₁ (fun _ s₀ h₀=>?_) ff);refine ad (wpAny_mono h₀ (fun _ s₂ h₂=>ad (wpAny_mono h₂ (fun ok s₃ h₃=>?_) ff)) ff)
  cases ok with
  | true =>
   simp only[if_true]at h₃ ⊢;refine ad (ad (wpAny_mono h₃ (fun x s₄ h₄=>ad (wpAny_mono h₄ (fun _ s₅ h₅=>ae (ae ⟨rfl,h₅⟩)) ff)) ff))
  | false =>
   simp only[Bool.false_eq_true,if_false]at h₃ ⊢;exact ae ⟨rfl,h₃⟩
end
abbrev pT:=D->List PyData->bS->Mu->(List PyData->bS->Mu->Prop)->Prop
def cR(st:pT):List D->List PyData->bS->Mu->(List PyData->bS->Mu->Prop)->Prop
 | [],acc,d,m,Q=>Q acc d m
 | x::xs,acc,d,m,Q=>st x acc d m fun acc' d' m'=>cR st xs acc' d' m' Q
def stepI(g:DG)(t:DT)(f:DE):pT:=fun x acc d m Q=>g x d m fun d1 m1=>t d1 m1 fun b m2=>if b=true then f d1 m2 fun y m3=>∃ p,y=.dat p/\acc.length<sizeLine/\Q (acc++[p]) d1 m3 else Q acc d1 m2
def gD(g:DG)(t:DT)(fi2:DI)(st:pT):pT:=fun x acc d m Q=>g x d m fun d1 m1=>t d1 m1 fun b m2=>if b=true then fi2 d1 m2 fun ys m3=>cR st ys acc d1 m3 Q else Q acc d1 m2
@[simp] def qO(src:List (Option Nat))(fi:DI)(g:DG)(t:DT)(fi2:DI)(g2:DG)(t2:DT)(f:DE):DE:=fun d m Q=>fi d m fun xs m1=>cR (gD g t fi2 (stepI g2 t2 f)) xs [] (cI src d) m1 fun ps _ m2=>Q (.dat (.list ps)) m2
structure ExtW (K:ac) (Z:Addr->Prop) (D:Addr) (m:Mu) (H:Hp) (m':Mu) (H':Hp):Prop where
 t:∀ a vs,SqT K H a vs->SqT K H' a vs
 l:∀ a vs,(m a=none/\¬ bL Z D a)->SqL K H a vs->m' a=none/\SqL K H' a vs
 z:∀ a,Z a->H' a=H a
 c:∀ a,(m a).isSome=true->(m' a).isSome=true
 fz:∀ a o u,H a=some (.frz o u)->H' a=some (.frz o u)
 fm:∀ a,nC (m a)=true->m' a=m a
 ll:∀ a vs,(m a=none/\¬ bL Z D a)->H a=some (.lst vs)->H' a=some (.lst vs)
section
variable {K:ac}{Z:Addr->Prop}{m m1 m' m2:Mu}{H H1 H' H2:Hp}{D:Addr}{ys zs:List V}
theorem ExtW.refl:ExtW K Z D m H m H:=⟨fun _ _ h=>h,fun _ _ h1 h2=>⟨h1.1,h2⟩,fun _ _=>rfl,fun _ h=>h,fun _ _ _ h=>h,fun _ _=>rfl,fun _ _ _ h=>h⟩
theorem ExtW.y(e:ExtW K Z D m H m' H'):ExtY K (bL Z D) m H m' H':=⟨e.t,e.l,e.fz⟩
theorem ExtW.trans(a:ExtW K Z D m H m' H')(b:ExtW K Z D m' H' m2 H2):ExtW K Z D m H m2 H2 :=
 ⟨fun x vs h=>b.t x vs (a.t x vs h),fun x vs h1 h2=>let ⟨q1,q2⟩:=a.l x vs h1 h2;b.l x vs ⟨q1,h1.2⟩ q2,fun x h=>(b.z x h).trans (a.z x h),fun x h=>b.c x (a.c x h),fun x o u h=>b.fz x o u (a.fz x o u h),fun x h=>by
  have q:=a.fm x h
  rw[b.fm x (by rw[q];exact h),q],fun x vs h1 h2=>b.ll x vs ⟨(a.l x vs h1 (.inl (.inl h2))).1,h1.2⟩ (a.ll x vs h1 h2)⟩
theorem Ext.w(e:Ext K (bL Z D) m H m' H'):ExtW K Z D m H m' H':=⟨e.t,e.l,fun a h=>e.z a (.inl h),e.c,e.fz,e.fm,e.ll⟩
theorem ExtW.put(hz:¬ Z D)(hD:H D=some (.lst ys)):ExtW K Z D m H m (upd H D (.lst zs)) :=
 ⟨mK hD,fun a vs h1 h2=>⟨h1.1,vM (fun e=>h1.2 (.inr e)) h2⟩,fun a h=>by
  have ne:a≠D:=by rintro rfl;exact hz h
  rw[cC ne],fun _ h=>h,fun a o u h=>by
  rw[cC (by rintro rfl;rw[hD]at h;cases h)]
  exact h,fun _ _=>rfl,fun a vs h1 h2=>by rw[cC fun e=>h1.2 (.inr e)];exact h2⟩
theorem ExtW.rd{x:DL.D}{v:V}(e:ExtW K Z D m H m' H')(h:RD K (bL Z D) m H x v):RD K (bL Z D) m' H' x v:=by
 cases x with
 | dat p=>exact RP.tr e.t (fun a vs h1 h2=>let ⟨q1,q2⟩:=e.l a vs h1 h2;⟨⟨q1,h1.2⟩,q2⟩) p v h e.fz
 | cel a=>exact⟨h.1,e.c a h.2⟩
theorem J3(e:Ext K Z m1 H1 m H)(hD:H1 D=none)(hk:K.lookup D=none)(e2:ExtW K Z D m H m' H'):Ext K Z m1 H1 m' H' :=
 ⟨fun a vs h=>e2.t a vs (e.t a vs h),fun a vs h1 h2=>let ⟨q1,q2⟩:=e.l a vs h1 h2;e2.l a vs ⟨q1,fun z=>z.elim h1.2 (SqL.ne hD hk h2)⟩ q2,fun a h=>(e2.z a h).trans (e.z a h),fun a h=>e2.c a (e.c a h),fun a o u h=>e2.fz a o u (e.fz a o u h),fun a h=>by
  have q:=e.fm a h
  rw[e2.fm a (by rw[q];exact h),q],fun a vs h1 h2=>e2.ll a vs ⟨(e.l a vs h1 (.inl (.inl h2))).1,fun z=>z.elim h1.2 fun q=>by rw[q,hD]at h2;cases h2⟩ (e.ll a vs h1 h2)⟩
end
section
variable {Y:Cx}{tg iter tg2 iter2 elt:Expr}{ifs ifs2:List Expr}{scope:Scope}{fi2:DI}{g2:DG}{t2:DT}{f:DE}{pos:Pos}
theorem BH(hc:Y.calm=true)(hx:∀ x s,Y.xe x s->False)(hi:PI Y tg2 iter2 (LI Y.K fi2))(hg:PG Y tg2 (LG Y.K g2))(ht:PF Y ifs2 (LT Y.K t2))(he:PE Y elt (LE Y.K f))
  {pins:List (Addr×Obj)} {s:Shared} {σ:L2.St} {H:Hp} {Z:Addr->Prop} {D:Addr} {acc:List PyData} {ys:List V} {d:bS} {m:Mu} {Q:List PyData->bS->Mu->Prop}
  (I:Inv Y pins σ H s) (hz:¬ Z D) (hD:H D=some (.lst ys)) (racc:RPs Y.K (bL Z D) m H acc ys) (ok:Ok Y.K (bL Z D) m H) (rs:RS Y.K (bL Z D) m H d σ) (h:fi2 d m fun xs m1=>cR (stepI g2 t2 f) xs acc d m1 Q) :
  wpAny (model Y.prog Y.w) Y.A (eval iter2 Y.env) (fun x s4=>wpAny (model Y.prog Y.w) Y.A (pyIter x) (fun it2 s5=>codeAny (model Y.prog Y.w) Y.A (.compStart (.ListComp elt [⟨tg,iter,ifs,0⟩,⟨tg2,iter2,ifs2,0⟩] scope pos) 1 it2 (.ref D) Y.env)
   (fun r s6=>r=.ok .next/\∃ σ' H' ys' acc' d' m',Inv Y pins σ' H' s6/\H' D=some (.lst ys')/\RPs Y.K (bL Z D) m' H' acc' ys'/\ExtW Y.K Z D m H m' H'/\Ok Y.K (bL Z D) m' H'/\RS Y.K (bL Z D) m' H' d' σ'/\Q acc' d' m') s5) Y.xe s4) Y.xe s:=by
 refine aP (hi pins s σ H (fun J H1=>∃ xs m1,Ext Y.K (bL Z D) m H m1 H1/\Ok Y.K (bL Z D) m1 H1/\mE Y.K (bL Z D) m1 H1 xs J/\cR (stepI g2 t2 f) xs acc d m1 Q) I
  ⟨bL Z D,d,m,_,ok,rs,h,fun xs m1 H1 J q e1 ok1 y1=>⟨xs,m1,e1,ok1,y1,q⟩⟩) fun xv s₁ h₁=>aP h₁ fun itv s₂ h₂=>?_
 obtain⟨it,fp,tn,J,H2,eit,I2,T,st2,f2,xs,m1,e1,ok1,yl,lp⟩:=h₂;subst eit;have hD2:H2 D=some (.lst ys):=(e1.z _ (.inr rfl)).trans hD
 have stat:∀ {H':Hp},(∀ b∈fp,H' b=none)->∀ b∈fp,eQ Y pins H' b:=fun hn b hb=>⟨hn b hb,(f2 b hb).2⟩
 have loop:codeAny (model Y.prog Y.w) Y.A (.compLoop (.ListComp elt [⟨tg,iter,ifs,0⟩,⟨tg2,iter2,ifs2,0⟩] scope pos) 1 (.ref it) (.ref D) Y.env)
   (fun r s6=>r=.ok .next/\∃ σ' H' ys' acc' d' m',Inv Y pins σ' H' s6/\H' D=some (.lst ys')/\RPs Y.K (bL Z D) m' H' acc' ys'/\ExtW Y.K Z D m H m' H'/\Ok Y.K (bL Z D) m' H'/\RS Y.K (bL Z D) m' H' d' σ'/\Q acc' d' m') s₂:=by
  refine GC hx (fun n s'=>∃ (i:Nat) (ys:List V) (acc:List PyData) (d':bS) (m':Mu) (σ':L2.St) (H':Hp),n=xs.length-i/\i<=xs.length/\Inv Y pins σ' H' s'/\tn i s'.heap/\(∀ b∈fp,H' b=none) /\
   H' D=some (.lst ys)/\RPs Y.K (bL Z D) m' H' acc ys/\ExtW Y.K Z D m1 H2 m' H'/\Ok Y.K (bL Z D) m' H'/\RS Y.K (bL Z D) m' H' d' σ' /\
   cR (stepI g2 t2 f) (xs.drop i) acc d' m' Q) ?_ xs.length ⟨0,ys,acc,d,m1,σ,H2,by simp,Nat.zero_le _,I2,st2,fun b hb=>(f2 b hb).1,hD2,RPs.ext e1 _ _ racc,ExtW.refl,ok1,rs.ext e1,by simpa using lp⟩
  rintro n s4 ⟨i,ys,acc,d',m',σ',H',rfl,hi',I5,st5,fr5,hDy,racc,eX,ok5,rs5,lp5⟩;obtain⟨y1,y2⟩:=yl m' H' eX.y
  by_cases hlt:i<xs.length
  ·rw[List.drop_eq_getElem_cons hlt]at lp5;obtain⟨go,yd⟩:=y1 i xs[i] (List.getElem?_eq_getElem hlt);refine aP (T.item Y rfl rfl rfl hc i pins s4 σ' H' Y.xe I5 (stat fr5) st5 go) fun r s5 hq0=>?_;obtain⟨u,hr,h5⟩:=hq0;subst hr;refine aP h5 fun _ s6 hq0=>?_;obtain⟨x,H6,I6,r6,yy,st6,fr6⟩:=hq0;have yy':=yd x H6 yy
   have e56:Ext Y.K (bL Z D) m' H' m' H6:=ok5.ext yy'.same
   have rv:=yy'.rd (fun d v h=>eX.rd h) ok5
   have hDy:=yy'.same _ _ hDy
   have racc:=RPs.ext e56 _ _ racc
   have eX:=eX.trans e56.w
   have rs5:=rs5.ext e56
   have ok5:=ok5.grow yy'.same
   have I6':=I6.pinned (stat fr6) (T.obj _ _ st6)
   have over:∀ {s7:Shared} {σ7:L2.St} {H7:Hp} {ys7:List V} {acc7:List PyData} {d7:bS} {m7:Mu},Inv Y (pins++kB fp s6.heap) σ7 H7 s7->H7 D=some (.lst ys7)->RPs Y.K (bL Z D) m7 H7 acc7 ys7 ->
     ExtW Y.K Z D m1 H2 m7 H7->Ok Y.K (bL Z D) m7 H7->RS Y.K (bL Z D) m7 H7 d7 σ7->(cR (stepI g2 t2 f) (xs.drop (i+1)) acc7 d7 m7 Q) ->
     ∃ n,n<xs.length-i/\∃ (i:Nat) (ys:List V) (acc:List PyData) (d':bS) (m':Mu) (σ':L2.St) (H':Hp),n=xs.length-i/\i<=xs.length/\Inv Y pins σ' H' s7/\tn i s7.heap/\(∀ b∈fp,H' b=none) /\
      H' D=some (.lst ys)/\RPs Y.K (bL Z D) m' H' acc ys/\ExtW Y.K Z D m1 H2 m' H'/\Ok Y.K (bL Z D) m' H'/\RS Y.K (bL Z D) m' H' d' σ' /\
      cR (stepI g2 t2 f) (xs.drop i) acc d' m' Q:=by
    intro s7 σ7 H7 ys7 acc7 d7 m7 I7 a1 a2 a3 a4 a5 a6;refine⟨xs.length-(i+1),by omega,i+1,ys7,acc7,d7,m7,σ7,H7,rfl,hlt,I7.unpinned,T.keep _ _ _ st6 fun b hb o e=>(I7.pin (b,o) (List.mem_append_right _ (List.mem_append_right _ (jZ hb e)))).1,fun b hb=>?_,a1,a2,a3,a4,a5,a6⟩
    obtain⟨o,e,dd⟩:=T.obj _ _ st6 b hb;exact(I7.pin (b,o) (List.mem_append_right _ (List.mem_append_right _ (jZ hb e)))).2.1
   refine aP (hg _ s6 σ' _ x u (fun σ7 H7=>∃ d7 m7,Ext Y.K (bL Z D) m' H6 m7 H7/\Ok Y.K (bL Z D) m7 H7/\RS Y.K (bL Z D) m7 H7 d7 σ7 /\
    t2 d7 m7 fun b m2=>if b=true then f d7 m2 fun y m3=>∃ p,y=.dat p/\acc.length<sizeLine/\cR (stepI g2 t2 f) (xs.drop (i+1)) (acc++[p]) d7 m3 Q else cR (stepI g2 t2 f) (xs.drop (i+1)) acc d7 m2 Q) I6' r6
    ⟨_,xs[i],d',m',_,ok5,rs5,rv,lp5,fun d7 m7 σ7 H7 q7 e7 ok7 rs7=>⟨d7,m7,e7,ok7,rs7,q7⟩⟩) fun _ s7 hq0=>?_
   obtain⟨σ7,H7,I7,d7,m7,e7,ok7,rs7,q7⟩:=hq0;refine aP (ht _ s7 σ7 H7 (fun b H8=>∃ m8,Ext Y.K (bL Z D) m7 H7 m8 H8/\Ok Y.K (bL Z D) m8 H8 /\
    if b=true then f d7 m8 fun y m3=>∃ p,y=.dat p/\acc.length<sizeLine/\cR (stepI g2 t2 f) (xs.drop (i+1)) (acc++[p]) d7 m3 Q else cR (stepI g2 t2 f) (xs.drop (i+1)) acc d7 m8 Q) I7
    ⟨_,d7,m7,_,ok7,rs7,q7,fun b m8 H8 q8 e8 ok8=>⟨m8,e8,ok8,q8⟩⟩) fun b s8 hq0=>?_
   obtain⟨H8,I8,m8,e8,ok8,q8⟩:=hq0;have e68:=e7.trans e8
   have hD8:H8 D=some (.lst ys):=(e68.z _ (.inr rfl)).trans hDy
   cases b with
   | false =>
    rw[if_neg ak]at q8;exact over I8 hD8 (RPs.ext e68 _ _ racc) (eX.trans e68.w) ok8 (rs7.ext e8) q8
   | true =>
    rw[if_pos rfl]at q8;refine aP (he _ s8 σ7 H8 (fun v H9=>∃ p m9,RP Y.K (bL Z D) m9 H9 p v/\Ext Y.K (bL Z D) m8 H8 m9 H9/\Ok Y.K (bL Z D) m9 H9/\acc.length<sizeLine/\cR (stepI g2 t2 f) (xs.drop (i+1)) (acc++[p]) d7 m9 Q) I8
     ⟨_,d7,m8,_,ok8,rs7.ext e8,q8,fun y m9 v H9 hq1 e9 ok9 r9=>by
      obtain⟨p,ey,hz,q9⟩:=hq1;subst ey;exact⟨p,m9,r9,e9,ok9,hz,q9⟩⟩) fun yv s9 hq0=>?_
    obtain⟨y,H9,I9,ry,p,m9,rp9,e9,ok9,hz9,q9⟩:=hq0;have e69:=e68.trans e9
    have hD9:H9 D=some (.lst ys):=(e69.z _ (.inr rfl)).trans hDy
    have racc9:=RPs.ext e69 _ _ racc
    have rs9:=(rs7.ext e8).ext e9
    refine aP (vE _ s9 σ7 H9 (.ref D) [y] (.ref D) [yv] (fun v H10=>H10=upd H9 D (.lst (ys++[y]))) I9 rfl (.cons ry .nil) ⟨_,ys,y,rfl,rfl,hD9,by rw[racc9.length];exact hz9,rfl⟩) fun rv s10 hq0=>?_
    obtain⟨v10,H10,I10,_,e10⟩:=hq0;subst e10;refine over I10 dS ?_ ((eX.trans e69.w).trans (ExtW.put hz hD9)) (Ev ok9 hD9) ⟨rs9.1,fun j z hj=>?_⟩ q9
    ·exact RPs.tr (mK hD9) oI _ _ (racc9.append (by simp only[RPs];exact⟨y,[],rfl,rp9,rfl⟩))
    ·obtain⟨v,a1,a2⟩:=rs9.2 j z hj;exact⟨v,a1,Pp hD9 a2⟩
  ·have e:i=xs.length:=by omega
   subst e;rw[List.drop_length]at lp5;refine aP (T.done Y rfl rfl rfl hc _ pins s4 σ' H' Y.xe I5 (stat fr5) st5 y2) fun r s5 hq0=>?_;obtain⟨hr,I6⟩:=hq0;subst hr;exact⟨rfl,σ',H',ys,acc,d',m',I6,hDy,racc,(e1.w).trans eX,ok5,rs5,lp5⟩
 exact V8 loop (T.self _ 0 _ _ _ st2 loop)
end
end DL
namespace DL
open PySem PySem.Spec PyProof.Rows L2
section
variable {X:Cx}{tg iter tg2 iter2 elt:Expr}{ifs ifs2:List Expr}{scope:Scope}{NC:List Str}{fi fi2:DI}{g g2:DG}{t t2:DT}{f:DE}{pos:Pos}
theorem AH(src:List (Option Nat))(hc:X.calm=true)(hi:PI X tg iter (LI X.K fi))
  (hg:∀ cl C s2 H2 pins fp,PG (bQ X scope cl C NC s2 H2 pins fp) tg (LG X.K g)) (ht:∀ cl C s2 H2 pins fp,PF (bQ X scope cl C NC s2 H2 pins fp) ifs (LT X.K t)) (hi2:∀ cl C s2 H2 pins fp,PI (bQ X scope cl C NC s2 H2 pins fp) tg2 iter2 (LI X.K fi2)) (hg2:∀ cl C s2 H2 pins fp,PG (bQ X scope cl C NC s2 H2 pins fp) tg2 (LG X.K g2)) (ht2:∀ cl C s2 H2 pins fp,PF (bQ X scope cl C NC s2 H2 pins fp) ifs2 (LT X.K t2))
  (he:∀ cl C s2 H2 pins fp,PE (bQ X scope cl C NC s2 H2 pins fp) elt (LE X.K f)) (hs2:∀ cl C x,foldedSetIterable iter2 (compEnvC scope cl C X.env) x=pure x)
  (hkind:scope.kind=.function) (hcell:∀ y∈scope.names,y.2≠.cell) (hnames:∀ y∈scope.names,y.2=.local->scope.names.lookup y.1=some .local)
  (hfree:∀ x,(x,NameKind.free)∈scope.names->X.env.kindOf x=some .cell\/X.env.kindOf x=some .free) (hsrc:kF X scope NC src)
  (hs:∀ x,foldedSetIterable iter X.env x=pure x) {use:Option (Value->Sem Unit)} {QQ:Value->Shared->Prop} {pos':Pos} {pins:List (Addr×Obj)} {s:Shared} {σ:L2.St} {H:Hp} {Z:Addr->Prop} {d:bS} {m:Mu} {RL:List PyData->Mu->Prop}
  (I:Inv X pins σ H s) (ok:Ok X.K Z m H) (rs:RS X.K Z m H d σ) (h:fi d m fun xs m1=>cR (gD g t fi2 (stepI g2 t2 f)) xs [] (cI src d) m1 (fun ps _ m2=>RL ps m2))
  (fin:∀ (s5:Shared) (C D:Addr) (H':Hp) (m':Mu) (ps:List PyData),RL ps m'->Ext X.K Z m H m' H'->Ok X.K Z m' H'->RD X.K Z m' H' (.dat (.list ps)) (.ref D)->(∃ mm,s5.heap.Ns C mm)->Inv X pins σ H' s5->Off X pins H' C ->
   compPost (model X.prog X.w) X.A X.xe use QQ (.ref D) C (.ok .next) s5) :
  wpAny (model X.prog X.w) X.A (comprehension (.ListComp elt [⟨tg,iter,ifs,0⟩,⟨tg2,iter2,ifs2,0⟩] scope pos) scope X.env pos' (newList []) false (eval iter X.env) use) QQ X.xe s:=by
 obtain⟨cl,hclos,hcl1,hcl2⟩:=Dj (scope:=scope) (env:=X.env) fun x hx=>I.ok.has x (hfree x hx);refine wpAny_comprehension_free (use:=use) rfl hs hclos hkind hnames ?_;refine aP (hi pins s σ H (fun J H1=>∃ xs m1,Ext X.K Z m H m1 H1/\Ok X.K Z m1 H1/\mE X.K Z m1 H1 xs J/\cR (gD g t fi2 (stepI g2 t2 f)) xs [] (cI src d) m1 (fun ps _ m2=>RL ps m2)) I
  ⟨Z,d,m,_,ok,rs,h,fun xs m1 H1 J q e1 ok1 y1=>⟨xs,m1,e1,ok1,y1,q⟩⟩) fun xv s₁ h₁=>aP h₁ fun itv s₂ h₂=>?_
 obtain⟨it,fp,tn,J,H2,eit,I2,T,st2,f2,xs,m1,e1,ok1,yl,lp⟩:=h₂;subst eit;refine wpAny_newObj_type (wpAny_newFunctionEnv hcell (by intro y hy;simp at hy) (fun h₁ hns₁ hsb₁=>?_) hkind)
 dsimp only at hns₁ hsb₁ ⊢
 generalize hH2:s₂.heap.push {cls:=.type "list",dict:=none,data:=.seq ([]:List Value).toArray}=HP at hns₁ hsb₁ ⊢
 have hC:HP.objs.size=s₂.heap.objs.size+1:=by rw[<- hH2,Heap.size_push]
 have leC:s₂.heap.objs.size<=HP.objs.size:=by rw[hC];exact Nat.le_succ _
 have old:∀ b o,s₂.heap.get? b=some o->h₁.get? b=some o:=fun b o e=>hsb₁.extBut b o (am (ai (af e) leC)) (ag _ (hH2▸ag _ e))
 have hacc:h₁.get? s₂.heap.objs.size=some {cls:=.type "list",data:=.seq ([]:List Value).toArray}:=hsb₁.extBut _ _ (by rw[hC];exact am (Nat.lt_succ_self _)) (ag _ (hH2▸ah _ rfl))
 have hD:H2 s₂.heap.objs.size=none:=I2.hok.fresh (aj _)
 have hkD:X.K.lookup s₂.heap.objs.size=none:=by
  cases e:X.K.lookup s₂.heap.objs.size with
  | none=>rfl
  | some o=>exact absurd (af (I2.kIn _ o e)) (Nat.lt_irrefl _)
 have obf:∀ b∈fp,∃ o,s₂.heap.get? b=some o/\∀ v,o.data≠.cell v:=T.obj 0 _ st2
 have hσ:∀ (i:Nat) (x:Str) (v:V),NC[i]?=some x->(cI src σ)[i]?=some (some v)->iQ (relabel scope X.env) x->((relabel scope X.env).names.lookup x=some .cell\/(relabel scope X.env).names.lookup x=some .free)/\(X.env.kindOf x=some .cell\/X.env.kindOf x=some .free)/\∃ j:Nat,X.N[j]?=some x/\σ[j]?=some (some v):=fun i x v h1 h2 _=>by
  obtain⟨j,q1,q2⟩:=Ju h2;obtain⟨a1,a2,a3⟩:=hsrc.2 i x j h1 q1;exact⟨a3,hfree x a2,j,a1,q2⟩
 have I4:=fun tk=>Oc (cl:=cl) (NC:=NC) (σ':=cI src σ) (tk:=tk) I2 f2 obf hkind hcell hcl1 hcl2 (by unfold cI;rw[ar];exact hsrc.1.symm) hσ hC hns₁ old hacc
 have st4:tn 0 h₁:=T.keep 0 _ _ st2 fun b _ o e=>old b o e
 -- the loop
 have loop:∀ s₃:Shared,s₃={s₂ with heap:=h₁,toks:=s₂.toks+([]:List (Str×Value)).length} ->
   codeAny (model X.prog X.w) X.A (.compLoop (.ListComp elt [⟨tg,iter,ifs,0⟩,⟨tg2,iter2,ifs2,0⟩] scope pos) 0 (.ref it) (.ref s₂.heap.objs.size) (compEnvC scope cl HP.objs.size X.env))
    (compPost (model X.prog X.w) X.A X.xe use QQ (.ref s₂.heap.objs.size) HP.objs.size) s₃:=by
  rintro s₃ rfl;refine Ve (hs:=fun x=>hs2 _ _ x) (fun n s'=>∃ (i:Nat) (ys:List V) (acc:List PyData) (d':bS) (m':Mu) (σ':L2.St) (H':Hp),n=xs.length-i/\i<=xs.length/\Inv (bQ X scope cl HP.objs.size NC s₂ H2 pins fp) [] σ' H' s'/\tn i s'.heap/\(∀ b∈fp,H' b=none) /\
   H' s₂.heap.objs.size=some (.lst ys)/\RPs X.K (bL Z s₂.heap.objs.size) m' H' acc ys/\Ext X.K Z m1 H2 m' H'/\Ok X.K (bL Z s₂.heap.objs.size) m' H'/\RS X.K (bL Z s₂.heap.objs.size) m' H' d' σ' /\
   cR (gD g t fi2 (stepI g2 t2 f)) (xs.drop i) acc d' m' (fun ps _ m2=>RL ps m2)) ?_ xs.length ?_
  rotate_left
  ·have rs1:RS X.K Z m1 H2 (cI src d) (cI src σ):=Hd src (rs.ext e1)
   refine⟨0,[],[],cI src d,m1,cI src σ,_,by simp,Nat.zero_le _,I4 _,st4,fun b hb=>?_,dS,by simp[RPs],ok1.ext (dM hD),Ib ok1 hD hkD,⟨rs1.1,fun i x hx=>?_⟩,by simpa using lp⟩
   ·obtain⟨o,ho,_⟩:=obf b hb;rw[cC (am (af ho))];exact(f2 b hb).1
   ·obtain⟨v,q1,q2⟩:=rs1.2 i x hx;exact⟨v,q1,Nv hD hkD q2⟩
  rintro n s4 ⟨i,ys,acc,d',m',σ',H',rfl,hi',I5,st5,fr5,hDy,racc,eX,ok5,rs5,lp5⟩;have stat:∀ b∈fp,eQ (bQ X scope cl HP.objs.size NC s₂ H2 pins fp) [] H' b:=fun b hb=>by
   obtain⟨g0,g1,g2,g3,g4,g5⟩:=f2 b hb;obtain⟨o,ho,_⟩:=obf b hb;refine⟨fr5 b hb,am (ai (af ho) leC),fun z=>?_,.inl hb,fun x c e=>g4 x c (hcl1 (x,c) (oN e)),fun p hp=>?_⟩
   ·rcases List.mem_cons.mp (I2.stkSub b z) with q | q
    ·exact g1 q
    ·exact g2 q
   ·rcases List.mem_append.mp hp with q | q
    ·exact g5 p q
    ·cases q
  obtain⟨y1,y2⟩:=yl m' H' eX.y
  by_cases hlt:i<xs.length
  ·rw[List.drop_eq_getElem_cons hlt]at lp5;obtain⟨go,yd⟩:=y1 i xs[i] (List.getElem?_eq_getElem hlt);refine aP (T.item (bQ X scope cl HP.objs.size NC s₂ H2 pins fp) rfl rfl rfl hc i [] s4 σ' H' (fun _ _=>False) I5 stat st5 go) fun r s5 hq0=>?_;obtain⟨u,hr,h5⟩:=hq0;subst hr;refine aP h5 fun _ s6 hq0=>?_;obtain⟨x,H6,I6,r6,yy,st6,fr6⟩:=hq0;have yy':=yd x H6 yy
   have e56:Ext X.K (bL Z s₂.heap.objs.size) m' H' m' H6:=ok5.ext yy'.same
   have rv:=yy'.rd (fun d v h=>Jd hD hkD eX h) ok5
   have hDy:=yy'.same _ _ hDy
   have racc:=RPs.ext e56 _ _ racc
   have eX:=mD eX hD hkD e56
   have rs5:=rs5.ext e56
   have ok5:=ok5.grow yy'.same
   have stat:∀ b∈fp,eQ (bQ X scope cl HP.objs.size NC s₂ H2 pins fp) [] H6 b:=fun b hb=>⟨fr6 b hb,(stat b hb).2⟩
   have I6':=I6.pinned stat (T.obj _ _ st6)
   -- what stands when a turn is over
   have over:∀ {s7:Shared} {σ7:L2.St} {H7:Hp} {ys7:List V} {acc7:List PyData} {d7:bS} {m7:Mu},Inv (bQ X scope cl HP.objs.size NC s₂ H2 pins fp) ([]++kB fp s6.heap) σ7 H7 s7->H7 s₂.heap.objs.size=some (.lst ys7)->RPs X.K (bL Z s₂.heap.objs.size) m7 H7 acc7 ys7 ->
     Ext X.K Z m1 H2 m7 H7->Ok X.K (bL Z s₂.heap.objs.size) m7 H7->RS X.K (bL Z s₂.heap.objs.size) m7 H7 d7 σ7->(cR (gD g t fi2 (stepI g2 t2 f)) (xs.drop (i+1)) acc7 d7 m7 (fun ps _ m2=>RL ps m2)) ->
     ∃ n,n<xs.length-i/\∃ (i:Nat) (ys:List V) (acc:List PyData) (d':bS) (m':Mu) (σ':L2.St) (H':Hp),n=xs.length-i/\i<=xs.length/\Inv (bQ X scope cl HP.objs.size NC s₂ H2 pins fp) [] σ' H' s7/\tn i s7.heap/\(∀ b∈fp,H' b=none) /\
      H' s₂.heap.objs.size=some (.lst ys)/\RPs X.K (bL Z s₂.heap.objs.size) m' H' acc ys/\Ext X.K Z m1 H2 m' H'/\Ok X.K (bL Z s₂.heap.objs.size) m' H'/\RS X.K (bL Z s₂.heap.objs.size) m' H' d' σ' /\
      cR (gD g t fi2 (stepI g2 t2 f)) (xs.drop i) acc d' m' (fun ps _ m2=>RL ps m2):=by
    intro s7 σ7 H7 ys7 acc7 d7 m7 I7 a1 a2 a3 a4 a5 a6;refine⟨xs.length-(i+1),by omega,i+1,ys7,acc7,d7,m7,σ7,H7,rfl,hlt,I7.unpinned,T.keep _ _ _ st6 fun b hb o e=>(I7.pin (b,o) (List.mem_append_right _ (List.mem_append_right _ (jZ hb e)))).1,fun b hb=>?_,a1,a2,a3,a4,a5,a6⟩
    obtain⟨o,e,dd⟩:=T.obj _ _ st6 b hb;exact(I7.pin (b,o) (List.mem_append_right _ (List.mem_append_right _ (jZ hb e)))).2.1
   refine aP (hg cl _ s₂ H2 pins fp _ s6 σ' _ x u (fun σ7 H7=>∃ d7 m7,Ext X.K (bL Z s₂.heap.objs.size) m' H6 m7 H7/\Ok X.K (bL Z s₂.heap.objs.size) m7 H7/\RS X.K (bL Z s₂.heap.objs.size) m7 H7 d7 σ7 /\
    t d7 m7 fun b m2=>if b=true then fi2 d7 m2 fun zs m3=>cR (stepI g2 t2 f) zs acc d7 m3 (fun acc' d' m'=>cR (gD g t fi2 (stepI g2 t2 f)) (xs.drop (i+1)) acc' d' m' (fun ps _ m2=>RL ps m2)) else cR (gD g t fi2 (stepI g2 t2 f)) (xs.drop (i+1)) acc d7 m2 (fun ps _ m2=>RL ps m2)) I6' r6
    ⟨_,xs[i],d',m',_,ok5,rs5,rv,lp5,fun d7 m7 σ7 H7 q7 e7 ok7 rs7=>⟨d7,m7,e7,ok7,rs7,q7⟩⟩) fun _ s7 hq0=>?_
   obtain⟨σ7,H7,I7,d7,m7,e7,ok7,rs7,q7⟩:=hq0;refine aP (ht cl _ s₂ H2 pins fp _ s7 σ7 H7 (fun b H8=>∃ m8,Ext X.K (bL Z s₂.heap.objs.size) m7 H7 m8 H8/\Ok X.K (bL Z s₂.heap.objs.size) m8 H8 /\
    if b=true then fi2 d7 m8 fun zs m3=>cR (stepI g2 t2 f) zs acc d7 m3 (fun acc' d' m'=>cR (gD g t fi2 (stepI g2 t2 f)) (xs.drop (i+1)) acc' d' m' (fun ps _ m2=>RL ps m2)) else cR (gD g t fi2 (stepI g2 t2 f)) (xs.drop (i+1)) acc d7 m8 (fun ps _ m2=>RL ps m2)) I7
    ⟨_,d7,m7,_,ok7,rs7,q7,fun b m8 H8 q8 e8 ok8=>⟨m8,e8,ok8,q8⟩⟩) fun b s8 hq0=>?_
   obtain⟨H8,I8,m8,e8,ok8,q8⟩:=hq0;have e68:=e7.trans e8
   have hD8:H8 s₂.heap.objs.size=some (.lst ys):=(e68.z _ (.inr rfl)).trans hDy
   cases b with
   | false =>
    rw[if_neg ak]at q8;exact over I8 hD8 (RPs.ext e68 _ _ racc) (mD eX hD hkD e68) ok8 (rs7.ext e8) q8
   | true =>
    rw[if_pos rfl]at q8;rw[if_pos rfl];have nz:¬ Z s₂.heap.objs.size:=fun z=>(ok1.z _ z).2 hD
    have ic:=BH (Y:=bQ X scope cl HP.objs.size NC s₂ H2 pins fp) (tg:=tg) (iter:=iter) (ifs:=ifs) (scope:=scope) (pos:=pos) hc (fun _ _ z=>z) (hi2 cl _ s₂ H2 pins fp) (hg2 cl _ s₂ H2 pins fp) (ht2 cl _ s₂ H2 pins fp) (he cl _ s₂ H2 pins fp) I8 nz hD8 (RPs.ext e68 _ _ racc) ok8 (rs7.ext e8) q8
    refine aP ic fun xv9 s9 h9=>aP h9 fun it9 s10 h10=>codeAny_mono h10 ?_;rintro r s11 ⟨hr,σ',H',ys',acc',d',m',I11,hD11,racc11,e11,ok11,rs11,q11⟩;exact⟨hr,over I11 hD11 racc11 (J3 (mD eX hD hkD e68) hD hkD e11) ok11 rs11 q11⟩
  ·have e:i=xs.length:=by omega
   subst e;rw[List.drop_length]at lp5;refine aP (T.done (bQ X scope cl HP.objs.size NC s₂ H2 pins fp) rfl rfl rfl hc _ [] s4 σ' H' (fun _ _=>False) I5 stat st5 y2) fun r s5 hq0=>?_;obtain⟨hr,I6⟩:=hq0;subst hr;have IX:=Oi I2 f2 I6 leC (Heap.SameBut.refl _ _)
   have nz:¬ Z s₂.heap.objs.size:=fun z=>(ok1.z _ z).2 hD
   refine fin s5 HP.objs.size s₂.heap.objs.size H' m' acc lp5 (e1.trans eX) (Jm ok5) ?_ ⟨_,I6.loc.choose_spec.1⟩ IX ⟨I6.free,Nat.ne_of_gt (ai I2.lt leC),Nat.le_trans I2.sz leC,fun x c e=>?_,fun p hp=>?_⟩
   ·simp only[RD,RP];exact⟨_,ys,rfl,⟨(ok5.z _ (.inr rfl)).1,nz⟩,.inl (.inl hDy),RPs.tr (fun _ _ q=>q) (fun a vs q1 q2=>⟨⟨q1.1,fun z=>q1.2 (.inl z)⟩,q2⟩) _ _ racc⟩
   ·obtain⟨v,q⟩:=I2.cell x c e;exact am (ai q.lt leC)
   ·exact am (ai (af (I2.pin p hp).1) leC)
 exact codeAny_compStart_list (loop _ rfl) (T.self _ 0 _ _ _ st4 (loop _ rfl))
theorem Z7(src:List (Option Nat))(hc:X.calm=true)(hi:PI X tg iter (LI X.K fi))
  (hg:∀ cl C s2 H2 pins fp,PG (bQ X scope cl C NC s2 H2 pins fp) tg (LG X.K g)) (ht:∀ cl C s2 H2 pins fp,PF (bQ X scope cl C NC s2 H2 pins fp) ifs (LT X.K t)) (hi2:∀ cl C s2 H2 pins fp,PI (bQ X scope cl C NC s2 H2 pins fp) tg2 iter2 (LI X.K fi2)) (hg2:∀ cl C s2 H2 pins fp,PG (bQ X scope cl C NC s2 H2 pins fp) tg2 (LG X.K g2)) (ht2:∀ cl C s2 H2 pins fp,PF (bQ X scope cl C NC s2 H2 pins fp) ifs2 (LT X.K t2))
  (he:∀ cl C s2 H2 pins fp,PE (bQ X scope cl C NC s2 H2 pins fp) elt (LE X.K f)) (hs2:∀ cl C x,foldedSetIterable iter2 (compEnvC scope cl C X.env) x=pure x)
  (hkind:scope.kind=.function) (hcell:∀ y∈scope.names,y.2≠.cell) (hnames:∀ y∈scope.names,y.2=.local->scope.names.lookup y.1=some .local)
  (hfree:∀ x,(x,NameKind.free)∈scope.names->X.env.kindOf x=some .cell\/X.env.kindOf x=some .free) (hsrc:kF X scope NC src)
  (hs:∀ x,foldedSetIterable iter X.env x=pure x:=by intro _;rfl) :
  PE X (.ListComp elt [⟨tg,iter,ifs,0⟩,⟨tg2,iter2,ifs2,0⟩] scope pos) (LE X.K (qO src fi g t fi2 g2 t2 f)):=by
 intro pins s σ H Q I h;obtain⟨Z,d,m,R,ok,rs,h,k⟩:=h;rw[eval_ListComp];refine AH src hc hi hg ht hi2 hg2 ht2 he hs2 hkind hcell hnames hfree hsrc hs (use:=none) (QQ:=EP X pins σ Q) (RL:=fun ps m2=>R (.dat (.list ps)) m2) I ok rs h ?_;intro s5 C D H' m' ps q e ok' rd ⟨mm,hns⟩ I5 off;exact⟨mm,hns,fun h' hs'=>⟨.ref D,H',off.inv I5 hs',rfl,k _ m' _ H' q e ok' rd⟩⟩
theorem K7(NC:List Str)(src:List (Option Nat))(hc:X.calm=true)(hi:PI X tg iter (LI X.K fi))
  (hg:∀ cl C s2 H2 pins fp,PG (bQ X scope cl C NC s2 H2 pins fp) tg (LG X.K g)) (ht:∀ cl C s2 H2 pins fp,PF (bQ X scope cl C NC s2 H2 pins fp) ifs (LT X.K t))
  (hi2:∀ cl C s2 H2 pins fp,PI (bQ X scope cl C NC s2 H2 pins fp) tg2 iter2 (LI X.K fi2)) (hg2:∀ cl C s2 H2 pins fp,PG (bQ X scope cl C NC s2 H2 pins fp) tg2 (LG X.K g2)) (ht2:∀ cl C s2 H2 pins fp,PF (bQ X scope cl C NC s2 H2 pins fp) ifs2 (LT X.K t2))
  (he:∀ cl C s2 H2 pins fp,PE (bQ X scope cl C NC s2 H2 pins fp) elt (LE X.K f))
  (hkind:scope.kind=.function:=by rfl) (hB:chkB scope X.env=true:=by rfl) (hS:chkS X.N scope X.env NC src=true:=by rfl)
  (hs2:∀ cl C x,foldedSetIterable iter2 (compEnvC scope cl C X.env) x=pure x:=by intro _ _ _;rfl)
  (hs:∀ x,foldedSetIterable iter X.env x=pure x:=by intro _;rfl):PE X (.ListComp elt [⟨tg,iter,ifs,0⟩,⟨tg2,iter2,ifs2,0⟩] scope pos) (LE X.K (qO src fi g t fi2 g2 t2 f)) :=
 Z7 (NC:=NC) src hc hi hg ht hi2 hg2 ht2 he hs2 hkind (chkB.ok hB).1 (chkB.ok hB).2.1 (chkB.ok hB).2.2 (chkS.ok hS) hs
end
end DL
namespace DL
open PySem PySem.Spec PyProof.Rows L2
section
variable {X:Cx}{pins:List (Addr×Obj)}{σ:L2.St}{H:Hp}{s:Shared}{h':Heap}
theorem Rg{t':Nat}{ch:List Addr}(I:Inv X pins σ H s)(k:∀ b o,b∉ch->s.heap.get? b=some o->h'.get? b=some o)(hf:∀ b∈ch,eQ X pins H b):Inv X pins σ H {s with heap:=h',toks:=t'}:=by
 have nit:∀ b u,H b=some u->b∉ch:=fun b u e z=>by rw[(hf b z).1]at e;cases e
 refine I.step (g':=s.gens) (d':=s.drawn) (ch:=ch) (fun b hb=>?_) (fun b o _ _ hc e _=>k b o hc e) (fun b o _ _ hc e _=>⟨o.slots,k b o hc e⟩) (fun _ _ _ _ n=>n) (fun b o hc e=>⟨o,k b o hc e⟩) (fun _ _ e=>e) (fun _ _ _ e=>e) (fun b ps e=>⟨#[],by rw[e];simp⟩) (fun m hm=>?_) (fun b u e=>?_) I.bare
 ·obtain⟨_,f1,_,f3,f4,f5⟩:=hf b hb;exact⟨f3,f1,f4,f5⟩
 ·obtain⟨o,es,ep,ho,r⟩:=hm;exact⟨o,es,ep,k _ o (fun z=>(hf _ z).2.1 rfl) ho,r⟩
 ·refine(I.hok b u e).stay (fun c v hc q=>k c v ?_ q) (fun _ q=>q) (fun _ _ q=>q) fun _ _ _ q=>q;rcases hc with z | z
  ·rw[z];exact nit b u e
  ·exact nit c _ z
end
end DL
namespace DL
open PySem PySem.Spec PyProof.Rows L2
section
variable {X:Cx}{a e o:Expr}{es:List Expr}{f g:DE}{ga:DA}{pos p p1 p2:Pos}
theorem pS:∀ {zs:List Str} {us:List Value},Vals (zs.map V.str) us->StrsAre us zs
 | [],_,.nil=>.nil
 | z::zs,_,.cons ⟨t,e⟩ r=>by
  rw[e];exact .cons z t (pS r)
theorem Ch:∀ {zs:List Str} {us:List Value},StrsAre us zs->Vals (zs.map V.str) us
 | _,_,.nil=>.nil
 | _,_,.cons z t r=>.cons ⟨t,rfl⟩ (Ch r)
theorem L5:bootBuiltins "sorted"=some (.builtin "sorted"):=by decide +kernel
@[simp] def zT:DC
 | [.dat (.list ps)],m,Q=>∃ zs:List Str,ps=zs.map .str/\zs.length<64/\∀ ys:List Str,ys.Perm zs->PyProof.Rows.sortedS ys=true->Q (.dat (.list (ys.map .str))) m
 | _,_,_=>False
theorem P9:CallD X (.builtin "sorted") zT:=by
 intro pins s σ H Z m xs ds us R Q I ok rv rd h k;unfold zT at h
 split at h
 ·obtain⟨v,rfl,r1⟩:=rd.one;obtain⟨zs,rfl,hl,hh⟩:=h;simp only[RD,RP]at r1;obtain⟨a,vs,rfl,_,h1,h2⟩:=r1
  cases fX h2
  obtain⟨u,rfl,ru⟩:=eD rv
  cases ru
  obtain⟨its,r',pl,hz⟩:=I.list h1;have hlen:=r'.length
  rw[ar]at hlen;refine sorted_strs pl.isList (pS r') (by omega) fun out ys hS hp hs=>?_
  obtain⟨e',he⟩:=sortedAll_at s.heap its out;have hv:=Ch hS
  have hvl:=hv.length
  have hpl:=hp.length_eq
  rw[ar]at hvl;have hle:s.heap.objs.size<=s.heap.objs.size+1:=Nat.le_succ _
  have I2:=I.laid (t':=s.toks) (a:=s.heap.objs.size+1) (o:=.lst (ys.map V.str)) (fun b u q=>sortedAll_old (out:=out) (vs:=its) q) hle ⟨by rw[ar];have:=jX;rw[sizeLine_eq];omega,out.toList,e',hv,he⟩
  have hf:H (s.heap.objs.size+1)=none:=I.hok.fresh hle
  have sm:Same H (upd H (s.heap.objs.size+1) (.lst (ys.map V.str))):=dM hf
  refine⟨.ref _,_,I2,rfl,k _ m _ _ (hh ys hp hs) (ok.ext sm) (ok.grow sm) ?_⟩;simp only[RD,RP];exact⟨_,_,rfl,fH ok hf,.inl (.inl dS),oF ys⟩
 ·exact h.elim
def AU(K:ac):V->List V->Hp->VK->Prop:=fun x xs H Q=>∃ (z:Str) (a:Addr) (zs:List Str),x=.str z/\xs=[.ref a]/\SqL K H a (zs.map V.str)/\z.length<=16/\(zs.map (·.length)).sum+zs.length<=1048576/\Q (.str (Txt.join z zs)) H
theorem Vz:MtR X "str.join" (AU X.K):=by
 intro pins s σ H x xs v us Q I rx rs ⟨z,a,zs,e1,e2,hq,h1,h2,q⟩;subst e1 e2;obtain⟨t,rfl⟩:=rx;obtain⟨u,rfl,ru⟩:=eD rs
 cases ru
 obtain⟨its,r',pl,hz⟩:=I.list hq;exact join_listW pl.isList (pS r') h1 h2 fun t' k=>⟨.str _,H,I.tok _,⟨_,rfl⟩,q⟩
@[simp] def nO(z:Str)(g:DE):DE:=fun d m Q=>g d m fun y m1=>∃ zs:List Str,y=.dat (.list (zs.map .str))/\z.length<=16/\(zs.map (·.length)).sum+zs.length<=1048576/\Q (.dat (.str (Txt.join z zs))) m1
theorem N0{z:Str}{jc:Nat}{apos cpos:Pos}(he:PE X e (LE X.K g))
  (hbase:attributeBase (.Constant (.str z) jc p) "join" X.env (eval (.Constant (.str z) jc p) X.env)=eval (.Constant (.str z) jc p) X.env:=by rfl)
  (hfew:((backTo cpos (starEach [e] X.env)).all (fun x=>!x.1)&&(backToKw cpos (keywordEach [] X.env)).all (fun x=>x.1.isSome)&&decide ([e].length+([]:List Keyword).length+(if ([]:List Keyword).isEmpty then 0 else 1)<30))=true:=by rfl)
  (hline:(apos.endLine==cpos.line)=true:=by rfl) (hs:starEach [e] X.env=(false,eval e X.env)::starEach [] X.env:=by rfl):PE X (.Call (.Attribute (.Constant (.str z) jc p) "join" apos) [e] [] cpos) (LE X.K (nO z g)) :=
 PE.imp (wZ (T:="str") (id:="str.join") (name:="join") PySem.F.plainAttrs_str PySem.F.slot_str_join PySem.F.type_str_join Vz zC (gU he iV hs) hbase hfew hline hs rfl) fun s H Q h=>by
  obtain⟨Z,d,m,R,ok,rs,h,k⟩:=h;refine⟨rfl,?_⟩;refine⟨Z,d,m,_,ok,rs,h,fun y m1 v H1 ⟨zs,ey,h1,h2,q⟩ e1 ok1 rd=>?_⟩;subst ey;simp only[RD,RP]at rd;obtain⟨a,vs,rfl,_,hq,hr⟩:=rd
  cases fX hr
  exact⟨z,a,zs,rfl,rfl,hq,h1,h2,k _ m1 _ H1 q e1 ok1 .ofStr⟩
theorem Ig:bootBuiltins "all"=some (.builtin "all"):=by decide +kernel
@[simp] def oD:DC
 | [.dat (.list ps)],m,Q=>∃ bs:List Bool,ps=bs.map .bool/\Q (.dat (.bool (bs.all id))) m
 | _,_,_=>False
theorem xZ{K:ac}{Z:Addr->Prop}{m:Mu}{H:Hp}:∀ {bs:List Bool} {vs:List V},RPs K Z m H (bs.map PyData.bool) vs->vs=bs.map V.bl
 | [],vs,h=>by simpa[RPs] using h
 | z::zs,vs,h=>by
  simp only[aq,RPs]at h;obtain⟨v,r,rfl,h1,h2⟩:=h;simp only[RP]at h1;subst h1;rw[xZ h2];rfl
theorem wS:∀ {bs:List Bool} {us:List Value},Vals (bs.map V.bl) us->us=bs.map Value.bool
 | [],_,.nil=>rfl
 | b::bs,_,.cons r t=>by
  cases r
  rw[wS t];rfl
theorem Zb(bs:List Bool):(List.range bs.length).all (fun i=>(bs[i]?).getD true)=bs.all id:=by
 rw[Bool.eq_iff_iff,List.all_eq_true,List.all_eq_true]
 constructor
 ·intro h b hb;obtain⟨i,hi,rfl⟩:=List.mem_iff_getElem.mp hb;have:=h i (List.mem_range.mpr hi)
  simpa[List.getElem?_eq_getElem hi] using this
 ·intro h i hi;have hi':=List.mem_range.mp hi
  rw[List.getElem?_eq_getElem hi'];exact h _ (List.getElem_mem hi')
theorem Fe(hc:X.calm=true):CallD X (.builtin "all") oD:=by
 intro pins s σ H Z m xs ds us R Q I ok rv rd h k;unfold oD at h
 split at h
 ·obtain⟨v,rfl,r1⟩:=rd.one;obtain⟨bs,rfl,hh⟩:=h;simp only[RD,RP]at r1;obtain⟨a,vs,rfl,_,h1,h2⟩:=r1
  cases xZ h2
  obtain⟨u,rfl,ru⟩:=eD rv
  cases ru
  obtain⟨its,r',pl,hz⟩:=I.list h1
  cases wS r'
  have ne:a≠s.heap.objs.size:=by
   obtain⟨o,ho,_⟩:=pl.isList;exact am (af ho)
  refine call_all_walk (wpAny_pyIter_list pl.isList ?_);refine⟨s.heap.objs.size,_,_,_,_,_,fun i=>(bs[i]?).getD true,rfl,Walks.list (A:=X.A.in1) (show X.A.in1.handled=none from I.ok.hd hc) s.heap.objs.size a ne (bs.map Value.bool).toArray,⟨⟨_,ah _ rfl,rfl,rfl⟩,pl.isList.at fun o e=>ag _ e⟩,?_,?_⟩
  ·intro i v s' Q' E' hv hQ;have hv':(bs.map Value.bool)[i]?=some v:=by simpa using hv
   rw[List.getElem?_map]at hv'
   cases eb:bs[i]? with
   | none=>rw[eb]at hv';cases hv'
   | some b =>
    have hQ':Q' ((bs[i]?).getD true) s':=hQ
    rw[eb]at hv' hQ'
    cases hv'
    exact wpAny_truthy_bool hQ'
  ·intro h' tk kp;have e:((bs.map Value.bool).toArray.size)=bs.length:=by simp
   rw[e,Zb];refine⟨.bl _,H,I.kept fun b o q=>kp b o ?_ (ag _ q),rfl,k _ m _ H hh Ext.refl ok .ofBl⟩;intro hb;have:b=s.heap.objs.size:=by simpa using hb
   exact absurd (af q) (by rw[this];exact Nat.lt_irrefl _)
 ·exact h.elim
theorem p8(x:Str)(l u:Option (Int×Tok)):(slicePicked x l u none).length<=x.length:=by
 unfold slicePicked Builtin.Str.strSliceIndices sliceRange;simp only[ar,List.length_range,Option.map_none,Option.getD_none];have h1:(1:Int) > 0:=by decide
 simp only[h1,if_true]
 cases l<;>cases u<;>simp only[Option.map_none,Option.map_some]<;>repeat' split<;>omega
theorem tD{α β:Type}(f:α->Option β):∀ xs:List α,(xs.filterMap f).length<=xs.length
 | []=>aj _
 | x::xs=>by
  rw[List.filterMap_cons];have:=tD f xs
  cases f x with
  | none=>exact Nat.le_succ_of_le this
  | some y=>exact Nat.succ_le_succ this
def M6:V->Option Int->Option Int->Hp->VK->Prop:=fun x lo hi H Q=>∃ z:Str,x=.str z/\z.length<=sizeLine/\∀ y:Str,y.length<=z.length->Q (.str y) H
theorem Fq{v:Value}{lo:Option Int}(h:IsPart v lo):∃ l,v=partValue l:=by
 cases h with
 | none=>exact⟨none,rfl⟩
 | int i t=>exact⟨some (i,t),rfl⟩
theorem Uv:SlR X M6:=by
 intro pins s σ H x v vl vu lo hi sl Q I rx hs pl pu h;obtain⟨z,rfl,hz,q⟩:=h;obtain⟨t,rfl⟩:=rx;obtain⟨l,rfl⟩:=Fq pl;obtain⟨u,rfl⟩:=Fq pu;refine⟨"str",_,PySem.F.slot_str_getitem.lookup,typeIs_str s z t,?_⟩;refine wpAny_getItem_str_slice (l:=l) (u:=u) (st:=none) hs rfl ?_;unfold sliceMade
 split
 ·exact⟨.str z,H,I,⟨_,rfl⟩,q z (aj _)⟩
 ·have hl:(⟨((slicePicked z l u none).filterMap (z.cps[·]?)).toArray⟩:Str).length<=z.length:=by
   show((slicePicked z l u none).filterMap (z.cps[·]?)).toArray.size<=z.length
   rw[au];exact Nat.le_trans (tD _ _) (p8 z l u)
  exact⟨Nat.le_trans hl hz,.str _,H,I.tok _,⟨_,rfl⟩,q _ hl⟩
@[simp] def iL(fo g:DE):DE:=fun d m Q=>fo d m fun o m1=>∃ c,o=.cel c/\(∃ ys,m1 c=some (.l ys))/\g d m1 fun x m2=>∃ xs p,x=.dat p/\m2 c=some (.l xs)/\xs.length<sizeLine/\Q (.dat .none) (bW m2 c (.l (xs++[p])))
theorem X5{apos cpos:Pos}(ho:PE X o (LE X.K f))(he:PE X e (LE X.K g))(hbase:attributeBase o "append" X.env (eval o X.env)=eval o X.env:=by rfl)
  (hfew:((backTo cpos (starEach [e] X.env)).all (fun x=>!x.1)&&(backToKw cpos (keywordEach [] X.env)).all (fun x=>x.1.isSome)&&decide ([e].length+([]:List Keyword).length+(if ([]:List Keyword).isEmpty then 0 else 1)<30))=true:=by rfl)
  (hline:(apos.endLine==cpos.line)=true:=by rfl) (hs:starEach [e] X.env=(false,eval e X.env)::starEach [] X.env:=by rfl):PE X (.Call (.Attribute o "append" apos) [e] [] cpos) (LE X.K (iL f g)) :=
 PE.imp (wZ (T:="list") (id:="list.append") (name:="append") PySem.F.plainAttrs_list PySem.F.slot_list_append PySem.F.type_list_append vE ho (gU he iV hs) hbase hfew hline hs rfl) fun s H Q h=>by
  obtain⟨Z,d,m,R,ok,rs,h,k⟩:=h;refine⟨Z,d,m,_,ok,rs,h,fun x m1 v H1 ⟨c,ex,⟨xs0,hx0⟩,q⟩ e1 ok1 rd=>?_⟩;subst ex;obtain⟨rfl,hc⟩:=rd;obtain⟨vs0,g0,_⟩:=ok1.l hx0;refine⟨.inl ⟨rfl,vs0,.inl (.inl g0)⟩,Z,d,m1,_,ok1,rs.ext e1,q,fun y m2 w H2 ⟨xs,pp,ey,hm,hz,q2⟩ e2 ok2 rd2=>?_⟩;subst ey;obtain⟨vs,g1,g2⟩:=ok2.l hm;refine⟨c,vs,w,rfl,rfl,g1,by rw[g2.length];exact hz,?_⟩
  refine k _ _ _ _ q2 (e1.trans (e2.trans (Ext.put ok2 hm g1))) (ok2.put hm g1 (show RPs _ _ _ _ _ _ from g2.append ?_)) (by simp only[RD,RP])
  simp only[RPs];exact⟨w,[],rfl,rd2,rfl⟩
@[simp] def mI(f:DE)(lo hi:DO):DE:=fun d m Q=>f d m fun x m1=>lo d m1 fun l m2=>hi d m2 fun u m3 =>
 (∃ xs,x=.dat (.tuple xs)/\Q (.dat (.tuple (iA xs l u))) m3)\/(∃ xs,x=.dat (.list xs)/\Q (.dat (.list (iA xs l u))) m3)\/(∃ z:Str,x=.dat (.str z)/\z.length<=sizeLine/\∀ y:Str,y.length<=z.length->Q (.dat (.str y)) m3)
theorem w9{lo hi:Option Expr}{tl th:DO}(ha:PE X a (LE X.K f))(hl:PO X lo (LO X.K tl))(hu:PO X hi (LO X.K th)):PE X (.Subscript a (.Slice lo hi none p2) pos) (LE X.K (mI f tl th)) :=
 PE.imp (Je (Vv.or (CG.or (k6.or Uv))) ha hl hu) fun s H Q h=>by
  obtain⟨Z,d,m,R,ok,rs,h,k⟩:=h;refine⟨Z,d,m,_,ok,rs,h,fun x m1 v H1 q e1 ok1 rx=>⟨Z,d,m1,_,ok1,rs.ext e1,q,fun l m2 H2 q2 e2 ok2=>⟨Z,d,m2,_,ok2,(rs.ext e1).ext e2,q2,fun u m3 H3 q3 e3 ok3=>?_⟩⟩⟩;have e13:=e1.trans (e2.trans e3)
  have rx3:=rx.ext (e2.trans e3)
  rcases q3 with⟨xs,rfl,q4⟩ | ⟨xs,rfl,q4⟩ | ⟨z,rfl,hz,q4⟩
  ·simp only[RD,RP]at rx3;obtain⟨a,vs,rfl,h1,h2⟩:=rx3
   by_cases hw:HT.sIx vs.length 0 l=0/\HT.sIx vs.length vs.length u=vs.length
   ·refine .inr (.inl ⟨a,vs,rfl,h1,hw,k _ m3 _ H3 q4 e13 ok3 ?_⟩);rw[h2.length]at hw;rw[R4 xs hw];simp only[RD,RP];exact⟨a,vs,rfl,h1,h2⟩
   ·refine .inl ⟨a,vs,rfl,h1,hw,fun p hp=>?_⟩;have sm:Same H3 (upd H3 p (.tup (iD vs l u))):=dM hp
    refine k _ m3 _ _ q4 (e13.trans (ok3.ext sm)) (ok3.grow sm) ?_;simp only[RD,RP];exact⟨p,_,rfl,.inl (.inl dS),RPs.ext (ok3.ext sm) _ _ h2.cut⟩
  ·simp only[RD,RP]at rx3;obtain⟨a,vs,rfl,h0,h1,h2⟩:=rx3;refine .inr (.inr (.inl ⟨a,vs,rfl,h1,fun p hp=>?_⟩));have sm:Same H3 (upd H3 p (.lst (iD vs l u))):=dM hp
   refine k _ m3 _ _ q4 (e13.trans (ok3.ext sm)) (ok3.grow sm) ?_;simp only[RD,RP];exact⟨p,_,rfl,fH ok3 hp,.inl (.inl dS),RPs.ext (ok3.ext sm) _ _ h2.cut⟩
  ·cases rx3.str
   exact .inr (.inr (.inr ⟨z,rfl,hz,fun y hy=>k _ m3 _ H3 (q4 y hy) e13 ok3 .ofStr⟩))
end
end DL
namespace DL
open PySem PySem.Spec PyProof.Rows L2
def dU{κ:Type}[DecidableEq κ](kvs:List (κ×PyData))(k:κ):Option PyData:=(kvs.find? fun kv=>decide (kv.1=k)).map (·.2)
def gE{κ:Type}[DecidableEq κ](kvs:List (κ×PyData))(k:κ)(p:PyData):List (κ×PyData) :=
 if (kvs.any fun kv=>decide (kv.1=k))=true then kvs.map (fun kv=>if kv.1=k then (kv.1,p) else kv) else kvs++[(k,p)]
section
variable {κ:Type}[DecidableEq κ]{K:ac}{Z:Addr->Prop}{m:Mu}{H:Hp}
theorem RKV.length:∀ {kvs:List (κ×PyData)} {vs:List (κ×V)},RKV K Z m H kvs vs->vs.length=kvs.length
 | [],_,h=>by cases (show _=[] from h);rfl
 | _::_,_,⟨v,r,h1,_,h3⟩=>by subst h1;rw[List.length_cons,List.length_cons,RKV.length h3]
theorem RKV.val{k:κ}{p:PyData}:∀ {kvs:List (κ×PyData)} {vs:List (κ×V)},RKV K Z m H kvs vs->dU kvs k=some p->∃ v,cX vs k=some v/\RP K Z m H p v
 | [],_,_,e=>by simp[dU]at e
 | (j,q)::xs,_,⟨v,r,h1,h2,h3⟩,e=>by
  subst h1;unfold dU at e;unfold cX
  by_cases c:j=k
  ·simp[List.find?_cons,c]at e ⊢;exact e▸h2
  ·simp[List.find?_cons,c]at e ⊢;have:=RKV.val (k:=k) (p:=p) h3 (by unfold dU;simpa using e)
   unfold cX at this;simpa using this
theorem RKV.any{k:κ}:∀ {kvs:List (κ×PyData)} {vs:List (κ×V)},RKV K Z m H kvs vs->(vs.any fun kv=>decide (kv.1=k))=(kvs.any fun kv=>decide (kv.1=k))
 | [],_,h=>by cases (show _=[] from h);rfl
 | _::_,_,⟨v,r,h1,_,h3⟩=>by subst h1;rw[List.any_cons,List.any_cons,RKV.any h3]
theorem RKV.repl{k:κ}{p:PyData}{v:V}(hp:RP K Z m H p v):∀ {kvs:List (κ×PyData)} {vs:List (κ×V)},RKV K Z m H kvs vs->RKV K Z m H (kvs.map fun kv=>if kv.1=k then (kv.1,p) else kv) (vs.map fun kv=>if kv.1=k then (kv.1,v) else kv)
 | [],_,h=>by cases (show _=[] from h);exact(rfl:([]:List (κ×V))=[])
 | (j,q)::xs,_,⟨w,r,h1,h2,h3⟩=>by
  subst h1;rw[aq,aq]
  by_cases c:j=k
  ·rw[if_pos c,if_pos c];exact⟨v,_,rfl,hp,RKV.repl hp h3⟩
  ·rw[if_neg c,if_neg c];exact⟨w,_,rfl,h2,RKV.repl hp h3⟩
theorem RKV.snoc{k:κ}{p:PyData}{v:V}(hp:RP K Z m H p v):∀ {kvs:List (κ×PyData)} {vs:List (κ×V)},RKV K Z m H kvs vs->RKV K Z m H (kvs++[(k,p)]) (vs++[(k,v)])
 | [],_,h=>by cases (show _=[] from h);exact⟨v,[],rfl,hp,rfl⟩
 | _::_,_,⟨w,r,h1,h2,h3⟩=>by subst h1;exact⟨w,_,rfl,h2,RKV.snoc hp h3⟩
theorem RKV.put{k:κ}{p:PyData}{v:V}{kvs:List (κ×PyData)}{vs:List (κ×V)}(h:RKV K Z m H kvs vs)(hp:RP K Z m H p v):RKV K Z m H (gE kvs k p) (eG vs k v):=by
 unfold gE eG;rw[h.any]
 split
 ·exact h.repl hp
 ·exact h.snoc hp
end
@[simp] def nH:D->Option bF
 | .dat (.str z)=>some (.inr z)
 | .dat (.int i)=>some (.inl i)
 | _=>none
theorem RD.key{K:ac}{Z:Addr->Prop}{m:Mu}{H:Hp}{x:D}{v:V}{k:bF}(h:RD K Z m H x v)(e:nH x=some k):v=kV k:=by
 unfold nH at e
 split at e
 ·cases e;cases h.str;rfl
 ·cases e;cases h.int;rfl
 ·cases e
section
variable {X:Cx}{o i e:Expr}{fo fi f:DE}{pos tpos:Pos}
@[simp] def lQ(fo fi:DE):DE:=fun d m Q=>fo d m fun o m1=>fi d m1 fun y m2=>∃ c k kvs p,o=.cel c/\nH y=some k/\m2 c=some (.d kvs)/\dU kvs k=some p/\Q (.dat p) m2
theorem Wz(hu:X.A.units+100<cLine)(ho:PE X o (LE X.K fo))(hi:PE X i (LE X.K fi))(hs:lV i:=by exact fun _ _=>rfl):PE X (.Subscript o i pos) (LE X.K (lQ fo fi)) :=
 PE.imp (FC (by omega) ho hi hs) fun s H Q h=>by
  obtain⟨Z,d,m,R,ok,rs,h,k⟩:=h;refine⟨Z,d,m,_,ok,rs,h,fun o m1 v H1 q e1 ok1 r1=>⟨Z,d,m1,_,ok1,rs.ext e1,q,fun y m2 w H2 q2 e2 ok2 r2=>?_⟩⟩;obtain⟨c,ky,kvs,p,rfl,hk,hm,hv,q⟩:=q2
  cases r2.key hk
  obtain⟨rfl,_⟩:=r1.ext e2;obtain⟨vs,g1,g2⟩:=ok2.d hm;obtain⟨v,hv',rv⟩:=g2.val hv;exact⟨c,v,rfl,.inl ⟨vs,ky,.inl g1,rfl,hv'.symm⟩,k _ m2 _ H2 q (e1.trans e2) ok2 rv⟩
end
end DL
namespace DL
open PySem PySem.Spec PyProof.Rows L2
def KEnt(w:World):List DictEntry->List (Str×V)->Prop
 | [],[]=>True
 | e::es,(z,v)::kvs=>e.hash=PyData.keyHash w.params z/\(∃ t,e.key=.str z t)/\RelV v e.val/\KEnt w es kvs
 | _,_=>False
def KDt(K:ac)(w:World)(a:Addr)(kvs:List (Str×V)):Prop :=
 ∃ (o:Obj) (es:Array DictEntry) (ep:Nat),K.lookup a=some o/\o.cls=.type "dict"/\o.dict=none/\o.slots=#[]/\o.data=.dict es ep/\KEnt w es.toList kvs/\(kvs.map (·.1)).Nodup/\(a==sysModules)=false
def KD(K:ac)(w:World)(a:Addr)(kvs:List (Str×PyData)):Prop:=∃ vs:List (Str×V),KDt K w a vs/\∀ (Z:Addr->Prop) (m:Mu) (H:Hp),RKV K Z m H kvs vs
def jJ{α:Type}(kvs:List (Str×α)):List (bF×α):=kvs.map fun kv=>(.inr kv.1,kv.2)
theorem KEnt.out{P:Program}{w:World}:∀ {es:List DictEntry} {kvs:List (Str×V)},KEnt w es kvs->∃ vs:List (Str×Value),KV (jJ kvs) (jJ vs)/\Pairs (dP P w) es (jJ vs)/\(∀ e∈es,∃ k,(dP P w).is k e.key=true/\e.hash=(dP P w).hash k)/\vs.map (·.1)=kvs.map (·.1)
 | [],[],_=>⟨[],.nil,.nil,by simp,rfl⟩
 | e::es,(z,v)::kvs,⟨h1,⟨t,h2⟩,h3,h4⟩=>by
  obtain⟨vs,q1,q2,q3,q4⟩:=KEnt.out (P:=P) h4;have hk:(dP P w).is (.inr z) e.key=true:=by
   rw[h2];exact decide_eq_true (rfl:z=z)
  refine⟨(z,e.val)::vs,.cons ⟨rfl,h3⟩ q1,.cons hk rfl q2,fun x hx=>?_,by simp[q4]⟩
  rcases List.mem_cons.mp hx with rfl | hx
  ·exact⟨_,hk,h1⟩
  ·exact q3 x hx
 | [],_::_,h=>h.elim
 | _::_,[],h=>h.elim
theorem KDt.dictOf{K:ac}{P:Program}{w:World}{a:Addr}{kvs:List (Str×V)}{h:Heap}(q:KDt K w a kvs)(hK:K.In h):∃ vs:List (bF×Value),KV (jJ kvs) vs/\h.DictOf (dP P w) a vs:=by
 obtain⟨o,es,ep,h1,h2,h3,h4,h5,h6,h7,_⟩:=q;obtain⟨vs,q1,q2,q3,q4⟩:=KEnt.out (P:=P) h6;refine⟨_,q1,o,es,ep,hK _ _ h1,⟨h2,h3,h4⟩,h5,fun e he=>q3 e (by simpa using he),q2,?_⟩
 have e:(jJ vs).map (·.1)=(kvs.map (·.1)).map Sum.inr:=by
  rw[<- q4];simp[jJ,Function.comp_def]
 rw[e];exact List.Pairwise.map _ (fun a b hab h=>hab (Sum.inr.inj h)) h7
theorem Ga{z:Str}:∀ kvs:List (Str×V),cX (jJ kvs) (.inr z)=cX kvs z
 | []=>rfl
 | (y,v)::kvs=>by
  have ih:=Ga (z:=z) kvs
  unfold cX jJ at *
  by_cases c:y=z
  ·simp[List.find?_cons,c]
  ·simp only[aq,List.find?_cons,c,decide_false,Sum.inr.injEq];exact ih
theorem RKV.val_none{κ:Type}[DecidableEq κ]{K:ac}{Z:Addr->Prop}{m:Mu}{H:Hp}{k:κ}:∀ {kvs:List (κ×PyData)} {vs:List (κ×V)},RKV K Z m H kvs vs->dU kvs k=none->cX vs k=none
 | [],_,h,_=>by cases (show _=[] from h);rfl
 | (j,q)::xs,_,⟨v,r,h1,h2,h3⟩,e=>by
  subst h1;unfold dU at e;unfold cX
  by_cases c:j=k
  ·simp[List.find?_cons,c]at e
  ·simp[List.find?_cons,c]at e ⊢;have:=RKV.val_none (k:=k) h3 (by unfold dU;simpa using e)
   unfold cX at this;simpa using this
section
variable {X:Cx}{i e g:Expr}{fi f fg:DE}{p pos apos cpos:Pos}
@[simp] def nT(kvs:List (Str×PyData))(fi:DE):DE:=fun d m Q=>fi d m fun y m1=>∃ (z:Str) (q:PyData),y=.dat (.str z)/\dU kvs z=some q/\Q (.dat q) m1
theorem H0{x:Str}{c:Addr}{kvs:List (Str×PyData)}(hg:Gl X x)(hm:X.mg x=some (.ref c))(hk:KD X.K X.w c kvs)(hi:PE X i (LE X.K fi))(hd:(x==("__debug__" : Str))=false:=by decide)(hs:lV i:=by exact fun _ _=>rfl) :
  PE X (.Subscript (.Name x p) i pos) (LE X.K (nT kvs fi)):=by
 intro pins s σ H Q I h;obtain⟨Z,d,m,R,ok,rs,h,k⟩:=h;obtain⟨vs,kd,rk⟩:=hk;refine Pa PySem.F.slot_dict_getitem.lookup hs (aP (nJ (v:=.ref c) hg hm rfl hd pins s σ H (fun x H1=>x=.ref c/\H1=H) I ⟨rfl,rfl⟩) fun u s1 ⟨x,H1,I1,rx,ex,eH⟩=>?_);subst ex;subst eH;obtain rfl:u=Value.ref c:=rx;refine aP (hi pins s1 σ _ (fun v H2=>∃ (z:Str) (w:V),v=.str z/\cX vs z=some w/\Q w H2) I1 ⟨Z,d,m,_,ok,rs,h,fun y m1 v H1 ⟨z,q,ey,hv,hq⟩ e1 ok1 r1=>?_⟩) fun iv s2 ⟨y,H2,I2,ry,z,w,ey,hw,q2⟩=>?_
 ·subst ey
  cases r1.str
  obtain⟨w,hw,rw'⟩:=(rk Z m1 H1).val hv;exact⟨z,w,rfl,hw,k _ m1 _ H1 hq e1 ok1 rw'⟩
 ·subst ey;obtain⟨ws,rel,dd⟩:=kd.dictOf (P:=X.prog) I2.kIn;obtain⟨w',hw',rw'⟩:=RelO.some_of (v:=w) (o:=valueAt ws (.inr z)) (by rw[<- hw,<- Ga];exact rel.val _)
  exact⟨dd.typeIs,wpAny_getItem_of (pH (k:=.inr z) ry) dd.mapOf hw' ⟨w,H2,I2.tok _,rw',q2⟩⟩
end
end DL
namespace DL
open PySem PySem.Spec PyProof.Rows L2
section
variable {X:Cx}{e g:Expr}{f fg:DE}{tg:Expr}{pos:Pos}
@[simp] def wR(f fg:DE):DI:=fun d m Q=>f d m fun x m1=>fg d m1 fun y m2=>∃ i j:Int,x=.dat (.int i)/\y=.dat (.int j)/\(-(2^62)<=i/\i<2^62/\-(2^62)<=j/\j<2^62)/\Q (dJ i (j-i).toNat) m2
theorem v6{p:Pos}(hg:Gl X "range")(hm:X.mg "range"=none)(ha:PE X e (LE X.K f))(hb:PE X g (LE X.K fg))(hs:starEach [e,g] X.env=[(false,eval e X.env),(false,eval g X.env)]:=by rfl)(hs2:starEach [g] X.env=[(false,eval g X.env)]:=by rfl) :
  PI X tg (.Call (.Name "range" p) [e,g] [] pos) (LI X.K (wR f fg)) :=
 PI.imp (u4 hg hm (gU ha (gU hb iV (by rw[hs2];rfl)) (by rw[hs,hs2])) hs hs2) fun s H R h=>by
  obtain⟨Z,d,m,ZZ,ok,rs,h,k⟩:=h;refine⟨Z,d,m,_,ok,rs,h,fun x m1 v H1 q e1 ok1 rd=>⟨Z,d,m1,_,ok1,rs.ext e1,q,fun y m2 v2 H2 ⟨i0,j,ex,ey,hb,q2⟩ e2 ok2 rd2=>?_⟩⟩;subst ex;subst ey
  cases rd.int
  cases rd2.int
  show ∃ i' j':Int,[V.int i0,V.int j]=[V.int i',V.int j']/\_
  refine⟨i0,j,rfl,hb,k _ m2 H2 _ q2 (e1.trans e2) ok2 fun m3 H3 e3=>⟨fun i x hx=>?_,?_⟩⟩
  ·unfold dJ at hx;rw[List.getElem?_map]at hx
   cases ei:(List.range (j-i0).toNat)[i]? with
   | none=>rw[ei]at hx;cases hx
   | some i' =>
    rw[ei]at hx
    cases hx
    have hl:=(List.getElem?_eq_some_iff.mp ei).1
    have hi:i'=i:=by
     obtain⟨_,z⟩:=List.getElem?_eq_some_iff.mp ei;rw[List.getElem_range]at z;exact z.symm
    subst hi;rw[List.length_range]at hl;refine⟨hl,fun v' H3 y=>.inl ⟨y.1,?_⟩⟩;rw[y.2];exact .ofInt
  ·show(j-i0).toNat<=(dJ i0 (j-i0).toNat).length
   unfold dJ;rw[ar,List.length_range];exact aj _
end
end DL
namespace DL
open PySem PySem.Spec PyProof.Rows L2
theorem BW:typeLookup (.type "tuple") "keys"=pure none:=by rw[typeLookup_type,builtinLookup_eq_fast];kernel_rfl
theorem jH:plainId "dict.update.loop"=true:=by decide +kernel
theorem oV:entryFor table "dict.update.loop"=some Builtin.«dict.update.loop»:=entryFor_of_fast (by kernel_rfl)
section
variable {prog:Program}{w:World}{A:Around}{E:Value->Shared->Prop}{s:Shared}
theorem f6{a:Addr}{o:Obj}{xs:Array Value}{k:Nat}{Q:Option Value->Shared->Prop}
  (hx:s.heap.get? a=some o) (hc:o.cls=.type "tuple") (hdat:o.data=.seq xs k) (hd:o.dict=none) (hA:A.handled=none)
  (h:∀ h' tk,(∀ b ob,s.heap.get? b=some ob->h'.get? b=some ob)->Q none {s with heap:=h',toks:=tk}) :
  wpAny (model prog w) A (getAttr? (.ref a) "keys") Q E s:=by
 obtain⟨c,dct,dat,sl⟩:=o;simp only at hc hdat hd;subst hc hdat hd;obtain⟨hp,g,d,tk,os⟩:=s;have hT:∀ tk',(⟨hp,g,d,tk',os⟩:Shared).TypeIs (.ref a) "tuple":=fun _=>⟨_,hx,rfl⟩
 have f1:=sub_AttributeError
 have f3:=F.slot_tuple_getattribute.lookup
 have f4:=F.slot_tuple_getattribute.bind (.ref a)
 have f5:=am_tuple_getattr_none
 have hsz:(Str.ofString "keys").length+100<=sizeLine:=by rw[sizeLine_eq];decide
 have hname:(["__module__","__name__","__qualname__","__doc__","__annotations__"]:List Str).contains (Str.ofString "keys")=false:=by decide
 unfold getAttr? getAttrBy? getAttrBy
 repeat (any_goals (first | assumption | exact hT _ | ((with_reducible show wpAny _ _ (call (Value.builtin "tuple.__getattribute__") _ _) _ _ _);refine call_meets F.slot_tuple_getattribute (hT _) am_entry_tuple_getattribute (F.args_tuple_getattribute_2 _ _) (meets_getattribute_miss_tuple a xs k sl (Str.ofString "keys") _ BW hname hsz) ⟨hx,hA,fun h' tk' e hx'=>?_⟩) | wp_step))
 obtain⟨t',u',he⟩:=hx'.there;show wpAny _ _ (getattributeRaised _ _ _ _ _ _ _) _ _ _
 unfold getattributeRaised
 repeat (any_goals (first | assumption | wp_step))
 exact h h' tk' hx'.keeps
end
section
variable {prog:Program}{w:World}{κ:Type}[DecidableEq κ]{knd:KeyKind prog w κ}{A:Around}{E:Value->Shared->Prop}{s:Shared}
def lW(knd:KeyKind prog w κ)(h:Heap):List Value->List (κ×Value)->Prop
 | [],[]=>True
 | x::xs,(k,v)::r=>(∃ b key,x=.ref b/\h.IsTuple b #[key,v]/\knd.is k key=true)/\lW knd h xs r
 | _,_=>False
def lG(acc:List (κ×Value))(r:List (κ×Value)):List (κ×Value):=r.foldl (fun acc kv=>stored acc kv.1 kv.2) acc
theorem Ls(acc:List (κ×Value))(k:κ)(v:Value):(stored acc k v).length<=acc.length+1:=by
 unfold stored
 split
 ·simp
 ·simp
theorem Fg{R:Result->Shared->Prop}{hb:Heap}{d it tq:Addr}{items:Array Value}(hh:A.handled=none)(hd:hb.get? d=none)(hi:hb.get? it=none)(hne:d≠it)(ht:hb.IsTuple tq items) :
  ∀ (rest:List (κ×Value)) (i:Nat) (s:Shared) (acc:List (κ×Value)) (tk0:Tok),(∀ b o,hb.get? b=some o->s.heap.get? b=some o)->s.heap.IsTupleIter it tq i->s.heap.DictOf knd d acc->lW knd hb (items.toList.drop i) rest->acc.length+rest.length<=sizeLine ->
  (∀ h' tk,(∀ b o,hb.get? b=some o->h'.get? b=some o)->h'.DictOf knd d (lG acc rest)->R (.ok (.ret .none)) {s with heap:=h',toks:=tk}) ->
  codeAny (model prog w) A (.builtin "dict.update.loop" ⟨[.ref d,.ref it,.int i tk0,.none],[]⟩) R s
 | [],i,s,acc,tk0,keeps,hit,hdo,hp,hsz,hR=>by
  have hx:items[i]?=none:=by
   cases e:items.toList.drop i with
   | nil =>
    have:=List.drop_eq_nil_iff.mp e
    rw[Array.getElem?_eq_none_iff];simpa using this
   | cons x xs=>rw[e]at hp;exact hp.elim
  have ht':s.heap.IsTuple tq items:=by
   obtain⟨o,ho,r⟩:=ht;exact⟨o,keeps _ _ ho,r⟩
  refine codeAny_builtin oV ?_;rw[Around.under_plainId jH _];show wpAny _ A.in1 (pyNext (.ref it)>>=_) _ _ s
  refine ad (wpAny_pyNext_tuple_end hh hit ht' hx fun h' hs=>?_);show wpAny _ A.in1 (Builtin.Dict.addKeywords d []>>=_) _ _ _
  refine ad (ae (ae ?_));refine hR h' s.toks (fun b o e=>hs b o (fun q=>by rw[q,hi]at e;cases e) (keeps b o e)) (hdo.extBut hs hne)
 | (k,v)::rest,i,s,acc,tk0,keeps,hit,hdo,hp,hsz,hR=>by
  cases e:items.toList.drop i with
  | nil=>rw[e]at hp;exact hp.elim
  | cons x xs =>
   rw[e]at hp;obtain⟨⟨b,key,rfl,hb2,hk⟩,hp2⟩:=hp;have hx:items[i]?=some (.ref b):=by
    have:=congrArg List.head? e
    rw[List.head?_drop]at this;simpa using this
   have e2:items.toList.drop (i+1)=xs:=by
    have:=congrArg List.tail e
    rw[List.tail_drop]at this;simpa using this
   have ht':s.heap.IsTuple tq items:=by
    obtain⟨o,ho,r⟩:=ht;exact⟨o,keeps _ _ ho,r⟩
   refine codeAny_builtin oV ?_;rw[Around.under_plainId jH _];show wpAny _ A.in1 (pyNext (.ref it)>>=_) _ _ s
   refine ad (wpAny_pyNext_tuple_item hit ht' hx fun h1 hit1 hs1=>?_);have k1:∀ b o,hb.get? b=some o->h1.get? b=some o:=fun b o e=>hs1.extBut b o (fun q=>by rw[q,hi]at e;cases e) (keeps b o e)
   have ht1:({s with heap:=h1}:Shared).heap.IsTuple b #[key,v]:=by
    obtain⟨o,ho,r⟩:=hb2;exact⟨o,k1 _ _ ho,r⟩
   have hdo1:({s with heap:=h1}:Shared).heap.DictOf knd d acc:=hdo.sameBut hs1 hne
   obtain⟨o,ho,hoc,no,hod⟩:=id ht1;refine ad (wpAny_holding (ad (wpAny_tryCatch ?_)));unfold Builtin.Dict.pairItems;refine ad (wpAny_typeOf ht1.typeIs ?_);rw[if_pos (by decide)]
   refine ad (wpAny_seqItems ho hod (ae ?_));show wpAny _ A.in1 (holding [key,v] (dictSet d key v)) _ _ _
   refine wpAny_holding (wpAny_dictSet_pairs (hsz:=by simp at hsz;omega) hk hdo1 fun h2 hdo2 hs2=>?_)
   refine ae ⟨plainId_quiet jH _,?_⟩;have ih:=Fg (R:=R) hh hd hi hne ht rest (i+1) {s with heap:=h2,toks:=s.toks+1} (stored acc k v) 0
    (fun b o e=>hs2.extBut b o (fun q=>by rw[q,hd]at e;cases e) (k1 b o e)) (hit1.extBut hs2.extBut (Ne.symm hne)) hdo2 (by rw[e2];exact hp2)
    (by have:=Ls acc k v;simp at hsz;omega) (fun h' tk q1 q2=>hR h' tk q1 q2)
   exact ih
theorem A1{Q:Value->Shared->Prop}{tq:Addr}{o:Obj}{items:Array Value}{n:Nat}{kvs:List (κ×Value)}(hh:A.handled=none)(ho:s.heap.get? tq=some o)(hc:o.cls=.type "tuple")(hdn:o.dict=none)(hdat:o.data=.seq items n)
  (hp:lW knd s.heap items.toList kvs) (hsz:kvs.length<=sizeLine)
  (hQ:∀ h' tk,(∀ b o,s.heap.get? b=some o->h'.get? b=some o)->h'.DictOf knd s.heap.objs.size (lG [] kvs)->Q (.ref s.heap.objs.size) {s with heap:=h',toks:=tk}) :
  wpAny (model prog w) A (call (.type "dict") [.ref tq]) Q E s:=by
 refine callType_codes (Q₁:=fun obj s₁=>obj=.ref s.heap.objs.size/\s₁={s with heap:=s.heap.push {cls:=.type "dict",data:=.dict #[]}}) F.kt_called_dict (F.kt_typeCall_dict_1 _) F.entry_dict_init (kt_code_dict_new _ ⟨rfl,rfl⟩) ?_;rintro obj s₁ ⟨rfl,rfl⟩;have hnew:(s.heap.push {cls:=.type "dict",data:=.dict #[]}).DictOf knd s.heap.objs.size []:=Heap.DictOf.new s.heap
 refine⟨hnew.typeIs,F.args_dict_init_2 _ _,?_⟩;unfold Builtin.«dict.__init__»;refine ad ?_;unfold Builtin.Dict.selfAndRest;refine ad (wpAny_notOrdered_dict hnew.typeIs ?_);show wpAny _ _ (pure (s.heap.objs.size,[Value.ref tq])) _ _ _
 refine ae ?_;show wpAny _ _ (Builtin.Dict.updateFrom "dict.__init__" s.heap.objs.size (.ref tq) [] .none) _ _ _
 unfold Builtin.Dict.updateFrom;have ho1:(s.heap.push {cls:=.type "dict",data:=.dict #[]}).get? tq=some o:=ag _ ho
 refine ad (wpAny_typeOf (T:="tuple") ⟨_,ho1,hc⟩ ?_);rw[if_pos (by decide)]
 refine ad (f6 ho1 hc hdat hdn hh fun h1 tk1 k1=>?_);rw[if_pos (show(none:Option Value).isNone=true from rfl)]
 have g0:s.heap.get? s.heap.objs.size=none:=by
  cases e:s.heap.get? s.heap.objs.size with
  | none=>rfl
  | some ob=>exact absurd (af e) (Nat.lt_irrefl _)
 have g1:s.heap.get? h1.objs.size=none:=by
  cases e:s.heap.get? h1.objs.size with
  | none=>rfl
  | some ob=>exact absurd (af (k1 _ _ (ag _ e))) (Nat.lt_irrefl _)
 have hd1:h1.DictOf knd s.heap.objs.size []:=by
  obtain⟨ob,es,ep,q,r⟩:=hnew;exact⟨ob,es,ep,k1 _ _ q,r⟩
 have hne:s.heap.objs.size≠h1.objs.size:=by
  obtain⟨ob,es,ep,q,r⟩:=hd1;exact am (af q)
 have ht:s.heap.IsTuple tq items:=⟨o,ho,hc,n,hdat⟩
 refine ad (wpAny_rule (ad (wpAny_pyIter_tuple (t:=tq) (items:=items) ⟨o,k1 _ _ ho1,hc,n,hdat⟩ ?_)));refine ae ⟨plainId_quiet jH _,?_⟩;refine Fg (A:=A.in1) (knd:=knd) (hb:=s.heap) (show A.in1.handled=none from hh) g0 g1 hne ht kvs 0 {s with heap:=h1.push {cls:=.type "tuple_iterator",data:=.fields #[.ref tq,.int 0 0]},toks:=tk1} [] 0 (fun b ob e=>ag _ (k1 _ _ (ag _ e))) ⟨_,ah _ rfl,rfl,rfl⟩ (hd1.push _) (by simpa using hp) (by simpa using hsz) fun h' tk q1 q2=>?_
 exact⟨rfl,hQ h' tk q1 q2⟩
end
end DL
namespace DL
open PySem PySem.Spec PyProof.Rows L2
@[simp] def sE:List D->Option (List bF)
 | []=>some []
 | x::xs=>match nH x,sE xs with
  | some k,some ks=>some (k::ks)
  | _,_=>none
theorem RDs.keys{K:ac}{Z:Addr->Prop}{m:Mu}{H:Hp}:∀ {xs:List D} {vs:List V} {ks:List bF},RDs K Z m H xs vs->sE xs=some ks->vs=ks.map kV
 | [],vs,ks,h,e=>by
  cases e
  exact h
 | x::xs,vs,ks,h,e=>by
  obtain⟨v,r,rfl,h1,h2⟩:=h;unfold sE at e
  cases e1:nH x with
  | none=>rw[e1]at e;cases e
  | some k =>
   cases e2:sE xs with
   | none=>rw[e1,e2]at e;cases e
   | some ks' =>
    rw[e1,e2]at e
    cases e
    rw[h1.key e1,RDs.keys h2 e2];rfl
end DL
namespace DL
open PySem PySem.Spec PyProof.Rows L2
def hX:bF->PyData
 | .inl i=>.int i
 | .inr z=>.str z
theorem Inv.noD{X:Cx}{pins:List (Addr×Obj)}{σ:L2.St}{H:Hp}{s:Shared}{a:Addr}{xs:List V}(I:Inv X pins σ H s)(h:SqT X.K H a xs):NoD s.heap a:=by
 rcases h with h | ⟨o,its,n,hk,hc,hs,hz,r⟩
 ·obtain⟨z,its,r,p⟩:=h.ok I.hok;exact z.2
 ·exact⟨o,I.kIn a o hk,hc.2⟩
theorem vW{X:Cx}{pins:List (Addr×Obj)}{σ:L2.St}{H:Hp}{s:Shared}{Z:Addr->Prop}{m:Mu}(I:Inv X pins σ H s):∀ {kvs:List (bF×PyData)} {vs:List V} {us:List Value},RPs X.K Z m H (kvs.map fun kv=>PyData.tuple [hX kv.1,kv.2]) vs->Vals vs us ->
  ∃ ws:List (bF×V),∃ xs:List (bF×Value),RKV X.K Z m H kvs ws/\KV ws xs/\lW (dP X.prog X.w) s.heap us xs/\xs.length=kvs.length
 | [],vs,us,h,r=>by
  simp only[List.map_nil,RPs]at h;subst h
  cases r
  exact⟨[],[],rfl,.nil,trivial,rfl⟩
 | (k,p)::kvs,vs,us,h,r=>by
  simp only[aq,RPs]at h;obtain⟨v,vs',rfl,h1,h2⟩:=h
  cases r with
  | cons r1 r2 =>
   obtain⟨ws,xs,q1,q2,q3,q4⟩:=vW I h2 r2;simp only[RP]at h1;obtain⟨a,ps,rfl,hs,hp⟩:=h1;obtain⟨its,rv,it,_⟩:=I.tuple hs;simp only[RPs]at hp;obtain⟨v1,r',rfl,g1,v2,r'',rfl,g2,rfl⟩:=hp
   cases rv with
   | cons w1 rv =>
    cases rv with
    | cons w2 rv =>
     cases rv
     have ev:v1=kV k:=by
      cases k with
      | inl i =>
       simp only[hX,RP]at g1;exact g1
      | inr z =>
       simp only[hX,RP]at g1;exact g1
     subst ev;refine⟨(k,v2)::ws,(k,_)::xs,⟨_,_,rfl,g2,q1⟩,.cons ⟨rfl,w2⟩ q2,⟨⟨a,_,r1,it,pH w1⟩,q3⟩,by simp[q4]⟩
def eC(acc:List (bF×PyData))(r:List (bF×PyData)):List (bF×PyData):=r.foldl (fun acc kv=>gE acc kv.1 kv.2) acc
def iM(acc:List (bF×V))(r:List (bF×V)):List (bF×V):=r.foldl (fun acc kv=>eG acc kv.1 kv.2) acc
theorem RKV.puts{K:ac}{Z:Addr->Prop}{m:Mu}{H:Hp}:∀ {r:List (bF×PyData)} {ws:List (bF×V)} {acc:List (bF×PyData)} {aw:List (bF×V)},RKV K Z m H acc aw->RKV K Z m H r ws->RKV K Z m H (eC acc r) (iM aw ws)
 | [],ws,acc,aw,ha,hr=>by
  cases (show ws=[] from hr)
  exact ha
 | (k,p)::r,vs,acc,aw,ha,h=>by
  obtain⟨v,ws,rfl,h1,h2⟩:=h;exact RKV.puts (r:=r) (ws:=ws) (acc:=gE acc k p) (aw:=eG aw k v) (ha.put h1) h2
theorem KV.puts{ws:List (bF×V)}{xs:List (bF×Value)}(t:KV ws xs):∀ {aw:List (bF×V)} {ax:List (bF×Value)},KV aw ax->KV (iM aw ws) (lG ax xs):=by
 unfold KV at t
 induction t with
 | nil=>exact fun ha=>ha
 | @cons p q ps qs h t ih =>
  intro aw ax ha;obtain⟨e,h⟩:=h;have:=ih (KV.put ha p.1 h)
  show KV (iM (eG aw p.1 p.2) ps) (lG (stored ax q.1 q.2) qs)
  rw[<- e];exact this
theorem vO:∀ (r acc:List (bF×PyData)),(eC acc r).length<=acc.length+r.length
 | [],acc=>by simp[eC]
 | kv::r,acc=>by
  have:=vO r (gE acc kv.1 kv.2)
  have h2:(gE acc kv.1 kv.2).length<=acc.length+1:=by
   unfold gE
   split
   ·rw[ar];omega
   ·simp
  unfold eC at *;simp only[List.foldl_cons,List.length_cons];omega
section
variable {X:Cx}{e:Expr}{f:DE}{pos p:Pos}
@[simp] def nU(f:DE):DE:=fun d m Q=>f d m fun x m1=>∃ kvs:List (bF×PyData),x=.dat (.tuple (kvs.map fun kv=>.tuple [hX kv.1,kv.2]))/\kvs.length<=sizeLine/\∀ a,m1 a=none->Q (.cel a) (bW m1 a (.d (eC [] kvs)))
theorem z4(hc:X.calm=true)(hg:Gl X "dict")(hm:X.mg "dict"=none)(he:PE X e (LE X.K f))(hs:starEach [e] X.env=[(false,eval e X.env)]:=by rfl):PE X (.Call (.Name "dict" p) [e] [] pos) (LE X.K (nU f)):=by
 intro pins s σ H Q I h;obtain⟨Z,d,m,R,ok,rs,h,k⟩:=h;have hA:=gU (X:=X) he iV (by rw[hs];rfl) pos pins s σ H (fun vs H1=>∃ (v:V) (kvs:List (bF×PyData)) (m1:Mu),vs=[v]/\RD X.K Z m1 H1 (.dat (.tuple (kvs.map fun kv=>.tuple [hX kv.1,kv.2]))) v/\kvs.length<=sizeLine/\(∀ a,m1 a=none->R (.cel a) (bW m1 a (.d (eC [] kvs))))/\Ext X.K Z m H m1 H1/\Ok X.K Z m1 H1) I ⟨Z,d,m,_,ok,rs,h,fun x m1 v H1 ⟨kvs,ex,hn,q⟩ e1 ok1 rd=>by
  subst ex;exact⟨v,kvs,m1,rfl,rd,hn,q,e1,ok1⟩⟩
 refine Call_ (jB I hg hm boot_dict (PyProof.Rows.callWith_type1 (aP hA fun us s1 ⟨vs,H1,I1,r1,q1⟩=>?_) hs rfl));obtain⟨v,kvs,m1,ev,rd,hn,q,e1,ok1⟩:=q1;subst ev;simp only[RD,RP]at rd;obtain⟨a,ps,rfl,hsq,hp⟩:=rd;obtain⟨u,rfl,hu⟩:=eD r1
 cases (show u=Value.ref a from hu)
 obtain⟨its,rv,⟨o,ho,hoc,n,hod⟩,_⟩:=I1.tuple hsq;obtain⟨o',ho',hdn⟩:=Inv.noD I1 hsq;rw[ho]at ho'
 cases ho'
 obtain⟨ws,xs,q1,q2,q3,q4⟩:=vW (Z:=Z) (m:=m1) I1 hp rv;have hp0:H1 s1.heap.objs.size=none:=I1.hok.fresh (aj _)
 have hk0:X.K.lookup s1.heap.objs.size=none:=by
  cases e:X.K.lookup s1.heap.objs.size with
  | none=>rfl
  | some o=>exact absurd (af (I1.kIn _ o e)) (Nat.lt_irrefl _)
 refine A1 (knd:=dP X.prog X.w) (I1.ok.hd hc) ho hoc hdn hod (by simpa using q3) (by rw[q4];exact hn) fun h' tk kp dd=>?_
 have rk:RKV X.K Z m1 H1 (eC [] kvs) (iM [] ws):=RKV.puts (show RKV _ _ _ _ _ _ from rfl) q1
 have ob:ObjOk X.prog X.w (upd H1 s1.heap.objs.size (.dK (iM [] ws))) h' s1.heap.objs.size (.dK (iM [] ws)):=by
  refine⟨?_,beq_eq_false_iff_ne.mpr (Ne.symm (am I1.big)),_,KV.puts q2 .nil,dd⟩;rw[rk.length];exact Nat.le_trans (vO kvs []) (by simpa using hn)
 exact⟨.ref s1.heap.objs.size,_,I1.laid (t':=tk) kp (aj _) ob,rfl,k _ _ _ _ (q _ (fH ok1 hp0).1) (e1.trans (Ext.cell ok1 hp0 hk0)) (ok1.cell hp0 hk0 (show RKV _ _ _ _ _ _ from rk)) ⟨rfl,by rw[cO];rfl⟩⟩
end
end DL
namespace DL
open PySem PySem.Spec PyProof.Rows L2
def KTEnt(K:ac)(w:World):List DictEntry->List (List Str×Addr×V)->Prop
 | [],[]=>True
 | e::es,(zs,a,v)::xs=>e.hash=reduceHash (Builtin.Tuple.tupleHashOf (zs.map (PyData.keyHash w.params)))/\e.key=.ref a/\RelV v e.val/\KT K a zs/\KTEnt K w es xs
 | _,_=>False
def KTDt(K:ac)(w:World)(c:Addr)(xs:List (List Str×Addr×V)):Prop :=
 ∃ (o:Obj) (es:Array DictEntry) (ep:Nat),K.lookup c=some o/\o.cls=.type "dict"/\o.dict=none/\o.slots=#[]/\o.data=.dict es ep/\KTEnt K w es.toList xs/\(xs.map (·.1)).Nodup/\(c==sysModules)=false
def pV(K:ac)(w:World)(c:Addr)(kvs:List (List Str×PyData)):Prop:=∃ xs:List (List Str×Addr×V),KTDt K w c xs/\∀ (Z:Addr->Prop) (m:Mu) (H:Hp),RKV K Z m H kvs (xs.map fun x=>(x.1,x.2.2))
theorem D8(zs:List Str):(zs.map (Sum.inr:Str->bF)).map kV=zs.map V.str:=by
 rw[List.map_map];rfl
section
variable {X:Cx}{pins:List (Addr×Obj)}{σ:L2.St}{H:Hp}{s:Shared}
theorem Tv{a:Addr}{zs:List Str}(I:Inv X pins σ H s)(h:SqT X.K H a (zs.map V.str)):(tupleKind (dP X.prog X.w)).is s.heap (zs.map Sum.inr) a:=by
 obtain⟨its,r,⟨o,h1,h2,n,h3⟩,_⟩:=I.tuple h;rw[<- D8]at r;exact⟨o,its.toArray,n,h1,h2,h3,by simpa using xD r⟩
theorem KTEnt.out(I:Inv X pins σ H s):∀ {es:List DictEntry} {xs:List (List Str×Addr×V)},KTEnt X.K X.w es xs->∃ ys:List (List bF×Addr×Value),es=ys.map (entryOfKey (tupleKind (dP X.prog X.w)))/\(∀ y∈ys,(tupleKind (dP X.prog X.w)).is s.heap y.1 y.2.1)/\ys.map (·.1)=xs.map (fun x=>x.1.map Sum.inr) /\
  ∀ zs:List Str,RelO (cX (xs.map fun x=>(x.1,x.2.2)) zs) ((atKey ys (zs.map Sum.inr)).map (·.2))
 | [],[],_=>⟨[],rfl,by simp,rfl,fun _=>True.intro⟩
 | e::es,(zs,a,v)::xs,⟨h1,h2,h3,h4,h5⟩=>by
  obtain⟨ys,q1,q2,q3,q4⟩:=KTEnt.out I h5;refine⟨(zs.map Sum.inr,a,e.val)::ys,?_,fun y hy=>?_,by simp[q3],fun z=>?_⟩
  ·rw[aq,<- q1]
   congr 1
   obtain⟨eh,ek,ev⟩:=e;simp only at h1 h2;subst h1 h2;unfold entryOfKey
   congr 1
   show _=reduceHash (Builtin.Tuple.tupleHashOf ((zs.map Sum.inr).map (dP X.prog X.w).hash))
   rw[List.map_map];rfl
  ·rcases List.mem_cons.mp hy with rfl | hy
   ·exact Tv I h4.sq
   ·exact q2 y hy
  ·by_cases c:zs=z
   ·subst c;unfold cX atKey;simp only[aq,List.find?_cons,decide_true,Option.map_some];exact h3
   ·have c':¬ zs.map (Sum.inr:Str->bF)=z.map Sum.inr:=fun h=>c ((List.map_inj_right (fun _ _ q=>Sum.inr.inj q)).mp h)
    have:=q4 z
    unfold cX atKey at this ⊢;simp only[aq,List.find?_cons,decide_eq_false c,decide_eq_false c'];exact this
 | [],_::_,h=>h.elim
 | _::_,[],h=>h.elim
theorem KTDt.out{c:Addr}{xs:List (List Str×Addr×V)}(I:Inv X pins σ H s)(q:KTDt X.K X.w c xs):(c==sysModules)=false/\∃ ys:List (List bF×Addr×Value),s.heap.DictOfH (tupleKind (dP X.prog X.w)) c ys /\
  ∀ zs:List Str,RelO (cX (xs.map fun x=>(x.1,x.2.2)) zs) ((atKey ys (zs.map Sum.inr)).map (·.2)):=by
 obtain⟨o,es,ep,h1,h2,h3,h4,h5,h6,h7,h8⟩:=q;obtain⟨ys,q1,q2,q3,q4⟩:=KTEnt.out I h6;refine⟨h8,ys,⟨o,es,ep,I.kIn _ _ h1,⟨h2,h3,h4⟩,h5,q1,q2,?_⟩,q4⟩;rw[q3];have e:xs.map (fun x=>x.1.map (Sum.inr:Str->bF))=(xs.map (·.1)).map (fun z=>z.map Sum.inr):=by simp
 rw[e];exact List.Pairwise.map _ (fun a b hab h=>hab ((List.map_inj_right (fun _ _ q=>Sum.inr.inj q)).mp h)) h7
end
theorem KT.rp{K:ac}{a:Addr}{zs:List Str}{Z:Addr->Prop}{m:Mu}{H:Hp}(h:KT K a zs):RP K Z m H (.tuple (zs.map PyData.str)) (.ref a):=by
 simp only[RP];exact⟨a,_,rfl,h.sq,oF zs⟩
section
variable {X:Cx}{e g:Expr}{fi fg:DE}{p apos cpos:Pos}
@[simp] def qD(kvs:List (List Str×PyData))(fi fg:DE):DE:=fun d m Q=>fi d m fun y m1=>∃ zs:List Str,y=.dat (.tuple (zs.map .str))/\fg d m1 fun x m2=>Q (match dU kvs zs with | some q=>.dat q | none=>x) m2
theorem FI{x:Str}{c:Addr}{kvs:List (List Str×PyData)}(hu:X.A.units+100<cLine)(hg:Gl X x)(hm:X.mg x=some (.ref c))(hk:pV X.K X.w c kvs)(he:PE X e (LE X.K fi))(hf:PE X g (LE X.K fg))(hd:(x==("__debug__" : Str))=false:=by decide)
  (hbase:attributeBase (.Name x p) "get" X.env (eval (.Name x p) X.env)=eval (.Name x p) X.env:=by rfl)
  (hfew:((backTo cpos (starEach [e,g] X.env)).all (fun x=>!x.1)&&(backToKw cpos (keywordEach [] X.env)).all (fun x=>x.1.isSome)&&decide (([e,g]:List Expr).length+([]:List Keyword).length+(if ([]:List Keyword).isEmpty then 0 else 1)<30))=true:=by rfl)
  (hline:(apos.endLine==cpos.line)=true:=by rfl) (hs:backTo cpos (starEach [e,g] X.env)=[(false,eval e X.env),(false,eval g X.env)]:=by rfl) :
  PE X (.Call (.Attribute (.Name x p) "get" apos) [e,g] [] cpos) (LE X.K (qD kvs fi fg)):=by
 intro pins s σ H Q I h;obtain⟨Z,d,m,R,ok,rs,h,k⟩:=h;obtain⟨xs,kd,rk⟩:=hk;refine wpAny_Call_method hbase hfew hline PySem.F.plainAttrs_dict PySem.F.slot_dict_get PySem.F.type_dict_get (aP (nJ (v:=.ref c) hg hm rfl hd pins s σ H (fun x H1=>x=.ref c/\H1=H) I ⟨rfl,rfl⟩) fun u s1 ⟨x,H1,I1,rx,ex,eH⟩=>?_);subst ex;subst eH;obtain rfl:u=Value.ref c:=rx;obtain⟨_,ws1,dd1,_⟩:=kd.out I1;refine⟨dd1.typeIs,fun b q=>?_,?_⟩
 ·cases q
  obtain⟨ob,_,_,h1,h2,_⟩:=dd1;exact⟨ob,h1,h2.2.1⟩
 rw[hs];refine Calls.callWith_builtin rfl (Calls.evalArgs_plain (Calls.spliced_cons (aP (he pins s1 σ _ (fun v H2=>∃ (zs:List Str) (b:Addr),v=.ref b/\LE X.K fg σ H2 fun v2 H3=>SqT X.K H3 b (zs.map V.str)/\Q ((cX (xs.map fun x=>(x.1,x.2.2)) zs).getD v2) H3) I1 ⟨Z,d,m,_,ok,rs,h,fun y m1 v H1 ⟨zs,ey,hq⟩ e1 ok1 r1=>?_⟩) fun iv s2 ⟨y,H2,I2,ry,zs,b,ey,q2⟩ =>
  Calls.spliced_cons (aP (hf pins s2 σ H2 _ I2 q2) fun fv s3 ⟨v2,H3,I3,rz,sq,q3⟩=>Calls.spliced_nil ?_))))
 ·subst ey;have r1':=r1
  simp only[RD,RP]at r1';obtain⟨b,vs,rfl,_,_⟩:=r1';refine⟨zs,b,rfl,Z,d,m1,_,ok1,rs.ext e1,hq,fun x m2 v2 H2 hq2 e2 ok2 r2=>⟨?_,?_⟩⟩
  ·have r3:=r1.ext e2
   simp only[RD,RP]at r3;obtain⟨b',vs',e',h1,h2⟩:=r3
   cases e'
   cases fX h2
   exact h1
  ·cases hv:dU kvs zs with
   | none =>
    rw[hv]at hq2;rw[(rk Z m2 H2).val_none hv];exact k _ m2 _ H2 hq2 (e1.trans e2) ok2 r2
   | some q =>
    rw[hv]at hq2;obtain⟨w,hw,rw'⟩:=(rk Z m2 H2).val hv;rw[hw];exact k _ m2 _ H2 hq2 (e1.trans e2) ok2 rw'
 ·subst ey
  cases (show iv=Value.ref b from ry)
  obtain⟨sy,ys,dd,rel⟩:=kd.out I3;exact call_meetsIn PySem.F.slot_dict_get dd.typeIs PySem.F.entry_dict_get (PySem.F.args_dict_get_3 _ _ _) (meetsH_dict_get_default (tupleKind (dP X.prog X.w)) c b sy fv) ⟨tupleKind_room_in1 (by omega),zs.map Sum.inr,ys,Tv I3 sq,dd,⟨_,H3,I3.tok _,(rel zs).getD rz,q3⟩⟩
end
end DL
namespace DL
open PySem PySem.Spec PyProof.Rows L2
section
variable {X:Cx}{o e:Expr}{f g:DE}{apos cpos:Pos}
def BL(K:ac):V->List V->Hp->VK->Prop:=fun x xs H Q=>∃ (a:Addr) (y:Str) (zs:List Str),x=.ref a/\xs=[.str y]/\SqL K H a (zs.map V.str)/\y∈zs/\Q (.int (zs.idxOf y:Nat)) H
theorem z7:MtR X "list.index" (BL X.K):=by
 intro pins s σ H x xs v us Q I rx rs ⟨a,y,zs,e1,e2,hq,hk,q⟩;subst e1 e2
 cases rx
 obtain⟨u,rfl,ru⟩:=eD rs;obtain⟨tk,rfl⟩:=id ru;obtain⟨its,rv,p,hz⟩:=I.list hq;have hl:=rv.length
 rw[ar]at hl hz;have hj:zs.idxOf y<zs.length:=List.idxOf_lt_length_iff.mpr hk
 have hsz:(zs.length:Int)<=1000000000:=by
  rw[sizeLine_eq]at hz;omega
 have hit:∀ m (hm:m<its.toArray.size) (hm2:m<zs.length),eL (.str y) its.toArray[m]=(zs[m]==y):=fun m hm hm2=>by
  obtain⟨t,e⟩:=tM rv m (by simpa using hm) hm2
  have e':its.toArray[m]=.str zs[m] t:=by simpa using e
  rw[e'];rfl
 have hfl:(zs.map V.str).all fW=true:=by
  rw[List.all_eq_true];intro v hv;obtain⟨z,_,rfl⟩:=List.mem_map.mp hv;rfl
 obtain⟨⟨cl,dd,dt,sl⟩,n,p1,p2,p3,p4⟩:=id p;simp only at p2 p4;subst p2 p4;refine call_meets PySem.F.slot_list_index p.isList.typeIs PySem.F.entry_list_index (PySem.F.args_list_index_2 _ _) (SeqAt.list_indexAt a its.toArray n dd sl (.str y tk) (eL (.str y)) (zs.idxOf y) (by rw[au];omega) (by omega) ?_ ?_) ⟨p1,?_,?_⟩
 ·rw[hit _ _ hj,List.getElem_idxOf hj];simp
 ·intro m hm hlt;have hm2:m<zs.length:=by omega
  rw[hit m hm hm2];simp only[beq_eq_false_iff_ne];exact uB _ _ hm2 hlt
 ·exact fun w hw=>kE (x:=.str y) ⟨tk,rfl⟩ rfl rv hfl w (by simpa using hw)
 ·exact⟨.int _,H,I.tok _,⟨_,rfl⟩,q⟩
def Ob(t:Bool)(K:ac)(H:Hp)(a:Addr)(zs:List Str):Prop:=if t then SqT K H a (zs.map V.str) else SqL K H a (zs.map V.str)
@[simp] def uC(f g:DE):DE:=fun d m Q=>f d m fun x m1=>∃ zs:List Str,(x=.dat (.tuple (zs.map .str))\/x=.dat (.list (zs.map .str)))/\g d m1 fun y m2=>∃ z:Str,y=.dat (.str z)/\z∈zs/\Q (.dat (.int (zs.idxOf z:Nat))) m2
theorem B2(ho:PE X o (LE X.K f))(he:PE X e (LE X.K g))(hbase:attributeBase o "index" X.env (eval o X.env)=eval o X.env:=by rfl)
  (hfew:((backTo cpos (starEach [e] X.env)).all (fun x=>!x.1)&&(backToKw cpos (keywordEach [] X.env)).all (fun x=>x.1.isSome)&&decide ([e].length+([]:List Keyword).length+(if ([]:List Keyword).isEmpty then 0 else 1)<30))=true:=by rfl)
  (hline:(apos.endLine==cpos.line)=true:=by rfl) (hs:backTo cpos (starEach [e] X.env)=[(false,eval e X.env)]:=by rfl):PE X (.Call (.Attribute o "index" apos) [e] [] cpos) (LE X.K (uC f g)):=by
 intro pins s σ H Q I h;obtain⟨Z,d,m,R,ok,rs,h,k⟩:=h;refine wpAny_Call_method_late hbase hfew hline rfl (aP (ho pins s σ H (fun v H1=>∃ (t:Bool) (a:Addr) (zs:List Str),v=.ref a/\Ob t X.K H1 a zs/\LE X.K g σ H1 fun v2 H2=>∃ z:Str,v2=.str z/\z∈zs/\Ob t X.K H2 a zs/\Q (.int (zs.idxOf z:Nat)) H2) I ⟨Z,d,m,_,ok,rs,h,fun x m1 v H1 ⟨zs,ex,hq⟩ e1 ok1 r1=>?_⟩) fun v s1 ⟨x,H1,I1,rx,t,a,zs,ex,sq,q1⟩=>?_)
 ·rcases ex with rfl | rfl
  ·have r1':=r1
   simp only[RD,RP]at r1';obtain⟨a,vs,rfl,h1,h2⟩:=r1'
   cases fX h2
   refine⟨true,a,zs,rfl,h1,Z,d,m1,_,ok1,rs.ext e1,hq,fun y m2 v2 H2 ⟨z,ey,hz,q⟩ e2 ok2 r2=>?_⟩;subst ey
   cases r2.str
   have r3:=r1.ext e2
   simp only[RD,RP]at r3;obtain⟨a',vs',e',h1',h2'⟩:=r3
   cases e'
   cases fX h2'
   exact⟨z,rfl,hz,h1',k _ m2 _ H2 q (e1.trans e2) ok2 .ofInt⟩
  ·have r1':=r1
   simp only[RD,RP]at r1';obtain⟨a,vs,rfl,_,h1,h2⟩:=r1'
   cases fX h2
   refine⟨false,a,zs,rfl,h1,Z,d,m1,_,ok1,rs.ext e1,hq,fun y m2 v2 H2 ⟨z,ey,hz,q⟩ e2 ok2 r2=>?_⟩;subst ey
   cases r2.str
   have r3:=r1.ext e2
   simp only[RD,RP]at r3;obtain⟨a',vs',e',_,h1',h2'⟩:=r3
   cases e'
   cases fX h2'
   exact⟨z,rfl,hz,h1',k _ m2 _ H2 q (e1.trans e2) ok2 .ofInt⟩
 ·subst ex;obtain rfl:v=Value.ref a:=rx
  cases t with
  | true =>
   obtain⟨its,_,p,_⟩:=I1.tuple (show SqT _ _ _ _ from sq)
   refine⟨"tuple","tuple.index",PySem.F.plainAttrs_tuple,PySem.F.slot_tuple_index,PySem.F.type_tuple_index,p.typeIs,fun b e=>by cases e;exact Inv.noD I1 (show SqT _ _ _ _ from sq),?_⟩
   rw[hs];refine Calls.callWith_builtin rfl (Calls.evalArgs_plain (Calls.spliced_cons (aP (he pins s1 σ H1 _ I1 q1) fun iv s2 ⟨v2,H2,I2,ry,z,ez,hz,sq2,q2⟩=>Calls.spliced_nil ?_)));subst ez;exact G1 pins s2 σ H2 (.ref a) [.str z] _ [iv] Q I2 rfl (.cons ry .nil) ⟨a,z,zs,rfl,rfl,sq2,hz,q2⟩
  | false =>
   obtain⟨its,_,p,_⟩:=I1.list (show SqL _ _ _ _ from sq)
   refine⟨"list","list.index",PySem.F.plainAttrs_list,PySem.F.slot_list_index,PySem.F.type_list_index,p.isList.typeIs,fun b e=>by cases e;obtain⟨ob,n,e,c,hd,_⟩:=p;exact⟨ob,e,hd⟩,?_⟩
   rw[hs];refine Calls.callWith_builtin rfl (Calls.evalArgs_plain (Calls.spliced_cons (aP (he pins s1 σ H1 _ I1 q1) fun iv s2 ⟨v2,H2,I2,ry,z,ez,hz,sq2,q2⟩=>Calls.spliced_nil ?_)));subst ez;exact z7 pins s2 σ H2 (.ref a) [.str z] _ [iv] Q I2 rfl (.cons ry .nil) ⟨a,z,zs,rfl,rfl,sq2,hz,q2⟩
end
end DL
namespace DL
open PySem PySem.Spec PyProof.Rows L2
section
variable {X:Cx}{a:Expr}{f:DE}{pos p2:Pos}
theorem Jb{v:Value}{lo:Option Int}(h:IsPart v lo):∃ l:Option (Int×Tok),v=partValue l/\lo=l.map (·.1):=by
 cases h with
 | none=>exact⟨none,rfl,rfl⟩
 | int i t=>exact⟨some (i,t),rfl,rfl⟩
theorem sN(z:Str)(lo hi:Option Int):(Txt.slice z lo hi).length<=z.length:=by
 unfold Txt.slice
 split
 ·exact aj _
 ·show((Builtin.Str.strSliceIndices lo hi 1 z.length).filterMap (z.cps[·]?)).toArray.size<=z.length
  rw[au];exact Nat.le_trans (tD _ _) (sliceIndices_le lo hi z.length)
def p7:V->Option Int->Option Int->Hp->VK->Prop:=fun x lo hi H Q=>∃ z:Str,x=.str z/\z.length<=sizeLine/\Q (.str (Txt.slice z lo hi)) H
theorem K3:SlR X p7:=by
 intro pins s σ H x v vl vu lo hi sl Q I rx hs pl pu h;obtain⟨z,rfl,hz,q⟩:=h;obtain⟨t,rfl⟩:=rx;obtain⟨l,rfl,rfl⟩:=Jb pl;obtain⟨u,rfl,rfl⟩:=Jb pu;refine⟨"str",_,PySem.F.slot_str_getitem.lookup,typeIs_str s z t,?_⟩;refine wpAny_getItem_str_slice (l:=l) (u:=u) (st:=none) hs rfl ?_;have hl:=sN z (l.map (·.1)) (u.map (·.1))
 unfold Txt.slice at q hl;unfold sliceMade
 split
 ·rename_i c;have c2:((1:Int)==1&&(Builtin.Str.strSliceIndices (l.map (·.1)) (u.map (·.1)) 1 z.length).length==z.length)=true:=c
  rw[if_pos c2]at q;exact⟨.str z,H,I,⟨_,rfl⟩,q⟩
 ·rename_i c;have c2:¬ ((1:Int)==1&&(Builtin.Str.strSliceIndices (l.map (·.1)) (u.map (·.1)) 1 z.length).length==z.length)=true:=c
  rw[if_neg c2]at q hl;exact⟨Nat.le_trans hl hz,.str _,H,I.tok _,⟨_,rfl⟩,q⟩
@[simp] def qK(f:DE)(lo hi:DO):DE:=fun d m Q=>f d m fun x m1=>lo d m1 fun l m2=>hi d m2 fun u m3=>∃ z:Str,x=.dat (.str z)/\z.length<=sizeLine/\Q (.dat (.str (Txt.slice z l u))) m3
theorem W4{lo hi:Option Expr}{tl th:DO}(ha:PE X a (LE X.K f))(hl:PO X lo (LO X.K tl))(hu:PO X hi (LO X.K th)):PE X (.Subscript a (.Slice lo hi none p2) pos) (LE X.K (qK f tl th)) :=
 PE.imp (Je K3 ha hl hu) fun s H Q h=>by
  obtain⟨Z,d,m,R,ok,rs,h,k⟩:=h;refine⟨Z,d,m,_,ok,rs,h,fun x m1 v H1 q e1 ok1 rx=>⟨Z,d,m1,_,ok1,rs.ext e1,q,fun l m2 H2 q2 e2 ok2=>⟨Z,d,m2,_,ok2,(rs.ext e1).ext e2,q2,fun u m3 H3 q3 e3 ok3=>?_⟩⟩⟩;obtain⟨z,rfl,hz,q4⟩:=q3
  cases (rx.ext (e2.trans e3)).str
  exact⟨z,rfl,hz,k _ m3 _ H3 q4 (e1.trans (e2.trans e3)) ok3 .ofStr⟩
end
end DL
namespace DL
open PySem PySem.Spec PyProof.Rows L2
def EE(K:ac)(l:Addr)(n:Nat):It :=
 ⟨fun i H=>i<n/\∃ xs,SqL K H l xs/\n=xs.length,fun i H v H'=>∃ p x,v=.ref p/\H p=none/\H'=upd H p (.tup [.int i,x])/\∀ xs,SqL K H l xs->xs[i]?=some x,
  fun i H=>i=n/\∃ xs,SqL K H l xs/\n=xs.length⟩
abbrev u8(h:Heap)(e it l:Addr)(i:Nat):Prop:=(∃ old,IsEnum h e it i old)/\h.IsListIter it l i
theorem AF{P:Program}{w:World}{K:ac}{elts:List Expr}{j:Nat}{pos:Pos}{e it l:Addr}{n:Nat}(hei:e≠it) :
  Turn P w K (.Tuple elts j pos) (EE K l n) [e,it] e (fun i h=>u8 h e it l i) where
 mem:=by simp
 obj:=fun i h st b hb=>by
  obtain⟨⟨old,h1⟩,⟨o2,e2,_,d2⟩⟩:=st;simp only[List.mem_cons,List.not_mem_nil,or_false]at hb;rcases hb with rfl | rfl
  ·exact⟨_,h1,fun v q=>nomatch q⟩
  ·exact⟨_,e2,fun v q=>by rw[d2]at q;cases q⟩
 keep:=fun i h h' st k=>by
  obtain⟨⟨old,h1⟩,h2⟩:=st;exact⟨⟨old,k e (by simp) _ h1⟩,h2.at fun o q=>k it (by simp) o q⟩
 item:=by
  intro X hP hw hK hc i pins s σ H E I hf st hg;subst hP hw hK;obtain⟨hi,xs,q1,hn⟩:=hg;obtain⟨its,r1,p1,l1⟩:=I.list q1;obtain⟨⟨old,he⟩,hit⟩:=st;have e1:xs[i]?=some (xs[i]'(by omega)):=List.getElem?_eq_getElem (by omega)
  obtain⟨u1,hu1,ru1⟩:=r1.get e1;have hp:H s.heap.objs.size=none:=I.hok.fresh (aj _)
  refine wpAny_pyNext_enum_item he hit p1.isList (by simpa using hu1) hei fun h' ho hit' hT hsz k=>?_
  refine⟨_,rfl,?_⟩;refine wpAny_letOwnedTupleGo_enum (s:={s with heap:=h',toks:=s.toks+1}) ho fun h2 z2 c2=>?_;have I1:Inv X pins σ (upd H s.heap.objs.size (.tup [_,_])) {s with heap:=s.heap.push {cls:=.type "tuple",data:=.seq #[.int i s.toks,u1]}} :=
   I.laid (t':=s.toks) (fun b o e=>ag _ e) (aj _) (show ObjOk X.prog X.w _ _ _ (.tup [.int i,xs[i]'(by omega)]) from⟨⟨by show 2<=sizeLine;rw[sizeLine_eq];decide,NoD.new _ _ _⟩,[.int i s.toks,u1],.cons ⟨_,rfl⟩ (.cons ru1 .nil),IsTup.new _ _⟩)
  have lt:∀ {c o},s.heap.get? c=some o->c≠s.heap.objs.size:=fun e=>am (af e)
  have hf':∀ b∈[e,it],eQ X pins (upd H s.heap.objs.size (.tup [.int i,xs[i]'(by omega)])) b:=fun b hb=>by
   obtain⟨f0,f1,f2,f3,f4,f5⟩:=hf b hb;refine⟨?_,f1,f2,f3,f4,f5⟩;rw[cC]
   ·exact f0
   ·obtain⟨o4,e4,_⟩:=hit;simp only[List.mem_cons,List.not_mem_nil,or_false]at hb;rcases hb with rfl | rfl
    ·exact lt he
    ·exact lt e4
  have kk:∀ b o,b∉[e,it]->(s.heap.push {cls:=.type "tuple",data:=.seq #[.int i s.toks,u1]}).get? b=some o->h2.get? b=some o:=fun b o hb q=>by
   simp only[List.mem_cons,List.not_mem_nil,or_false,not_or]at hb;refine c2.extBut _ _ hb.1 ?_;rcases Heap.get?_push_cases q with⟨rfl,rfl⟩ | q
   ·exact hT
   ·exact k b o hb.1 hb.2 q
  have I2:=Rg (s:={s with heap:=s.heap.push {cls:=.type "tuple",data:=.seq #[.int i s.toks,u1]}}) (h':=h2) (t':=s.toks+1) (ch:=[e,it]) I1 kk hf'
  refine⟨.ref s.heap.objs.size,upd H s.heap.objs.size (.tup [.int i,xs[i]'(by omega)]),I2,rfl,⟨_,_,rfl,hp,rfl,fun xs' g1=>?_⟩,?_,fun b hb=>(hf' b hb).1⟩
  ·rw[I.list_inj g1 q1];exact e1
  ·exact⟨⟨_,z2⟩,hit'.at fun o q=>c2.extBut _ _ (Ne.symm hei) q⟩
 done:=by
  intro X hP hw hK hc i pins s σ H E I hf st hg;subst hP hw hK;obtain⟨hi,xs,q1,hn⟩:=hg;obtain⟨its,r1,p1,l1⟩:=I.list q1;obtain⟨⟨old,he⟩,hit⟩:=st;have m1:=r1.length
  refine wpAny_pyNext_enum_end (I.ok.hd hc) he hit p1.isList (by simp;omega) fun h' k=>?_
  refine⟨rfl,Rg (t':=s.toks) (ch:=[e,it]) I (fun b o hb q=>?_) hf⟩;simp only[List.mem_cons,List.not_mem_nil,or_false,not_or]at hb;exact k b o hb.2 q
 self:=fun _ _ _ _ _ st h=>by
  obtain⟨⟨old,he⟩,_⟩:=st;exact wpAny_pyIter_enum he h
theorem Xl:bootBuiltins "enumerate"=some (.type "enumerate"):=by decide +kernel
def jL(ps:List PyData):List D:=ps.zipIdx.map fun z=>.dat (.tuple [.int z.2,z.1])
@[simp] def Av(f:DE):DI:=fun d m Q=>f d m fun x m1=>∃ ps,x=.dat (.list ps)/\Q (jL ps) m1
section
variable {X:Cx}{a:Expr}{elts:List Expr}{j:Nat}{f:DE}{pos p p2:Pos}
theorem Wh(hg:Gl X "enumerate")(hm:X.mg "enumerate"=none)(ha:PE X a (LE X.K f))(hs:starEach [a] X.env=[(false,eval a X.env)]:=by rfl) :
  PI X (.Tuple elts j p2) (.Call (.Name "enumerate" p) [a] [] pos) (LI X.K (Av f)):=by
 intro pins s σ H R I h;obtain⟨Z,d,m,ZZ,ok,rs,h,k⟩:=h;have hA:=Su (X:=X) ha Go (by rw[hs];rfl) pos pins s σ H (fun vs H1=>∃ a1 xs ps m1,vs=[.ref a1]/\(m1 a1=none/\¬ Z a1)/\SqL X.K H1 a1 xs/\RPs X.K Z m1 H1 ps xs /\
   ZZ (jL ps) m1/\Ext X.K Z m H m1 H1/\Ok X.K Z m1 H1) I ⟨Z,d,m,fun ds m1=>match ds with | [x]=>∃ ps,x=.dat (.list ps)/\ZZ (jL ps) m1 | _=>False,ok,rs,h,fun xs m1 vs H1 q e1 ok1 rd=>?_⟩
 ·refine Call_ (jB I hg hm Xl (PyProof.Rows.callWith_type1 (aP hA fun us s1 ⟨vs,H1,I1,r1,q1⟩=>?_) (by rw[hs];rfl) (by rfl)))
  obtain⟨a1,xs,ps,m1,e,h0,h1,rp,q,e1,ok1⟩:=q1;subst e;obtain⟨u1,rfl,ru1⟩:=eD r1
  cases ru1
  obtain⟨its1,rv1,pt1,l1⟩:=I1.list h1;refine call_enumerate_list pt1.isList fun h' he hit hsz kp=>?_;refine wpAny_pyIter_enum (s:={s1 with heap:=h'}) he ?_;refine⟨s1.heap.objs.size+1,[s1.heap.objs.size+1,s1.heap.objs.size],_,_,H1,rfl,I1.kept (t':=s1.toks) kp,AF (l:=a1) (n:=xs.length) (Nat.succ_ne_self _),⟨⟨_,he⟩,hit⟩,fun c hc=>?_,k _ m1 H1 _ q e1 ok1 ?_⟩
  ·have hle:s1.heap.objs.size<=c:=by
    simp only[List.mem_cons,List.not_mem_nil,or_false]at hc;rcases hc with rfl | rfl
    ·exact Nat.le_add_right _ 1
    ·exact aj _
   exact I1.fpOk hle (I1.hok.fresh hle)
  ·intro m2 H2 e2;obtain⟨_,q1⟩:=e2.l a1 xs h0 h1;have lp:=rp.length
   refine⟨fun i x hx=>?_,?_,xs,q1,rfl⟩
   ·unfold jL at hx;rw[List.getElem?_map,List.getElem?_zipIdx]at hx
    cases ez:ps[i]? with
    | none=>rw[ez]at hx;cases hx
    | some z =>
     rw[ez]at hx;simp at hx;subst hx;obtain⟨v1,hv1,rv1'⟩:=rp.get ez;have b1:=(List.getElem?_eq_some_iff.mp hv1).1
     refine⟨⟨by omega,xs,q1,rfl⟩,fun v H3 ⟨pp,x',ev,hp,eH,al⟩=>?_⟩
     have w1:=al xs q1
     rw[hv1]at w1
     cases w1
     refine .inr ⟨pp,[.int i,z],[_,_],rfl,ev,hp,eH,?_⟩;simp only[RPs];exact⟨_,_,rfl,by simp only[RP],_,_,rfl,rv1',rfl⟩
   ·show(jL ps).length=xs.length
    unfold jL;rw[ar,List.length_zipIdx,lp]
 ·match xs,q,rd with
  | [],q,_=>exact q.elim
  | _::_::_,q,_=>exact q.elim
  | [x],q,rd =>
  obtain⟨ps,rfl,q⟩:=q;obtain⟨v,rfl,g1⟩:=rd.one;simp only[RD,RP]at g1;obtain⟨a1,xs,rfl,h0,h1,h2⟩:=g1;exact⟨a1,xs,ps,m1,rfl,h0,h1,h2,q,e1,ok1⟩
end
end DL
namespace DL
open PySem PySem.Spec PyProof.Rows L2
def qG(K:ac)(t1 t2:Addr)(n:Nat):It :=
 ⟨fun i H=>i<n/\∃ xs ys,SqL K H t1 xs/\SqT K H t2 ys/\n=min xs.length ys.length,fun i H v H'=>∃ p x y,v=.ref p/\H p=none/\H'=upd H p (.tup [x,y])/\∀ xs ys,SqL K H t1 xs->SqT K H t2 ys->xs[i]?=some x/\ys[i]?=some y,
  fun i H=>i=n/\∃ xs ys,SqL K H t1 xs/\SqT K H t2 ys/\n=min xs.length ys.length⟩
end DL
namespace DL
open PySem PySem.Spec PyProof.Rows L2
section
variable {K:ac}{Z:Addr->Prop}{m m':Mu}{H:Hp}
def iB(m:Mu)(a:Addr):Mu:=fun b=>if b=a then none else m b
theorem pW{a b:Addr}(h:m b=none):iB m a b=none:=by unfold iB;split<;>first | rfl | exact h
theorem uK{a:Addr}{xs:List PyData}{v:V}(ok:Ok K Z m H)(hm:m a=some (.l xs))(r:RD K Z m H (.cel a) v):RP K Z (iB m a) H (.list xs) v:=by
 obtain⟨rfl,_⟩:=r;obtain⟨vs,h1,h2⟩:=ok.l hm;simp only[RP];refine⟨a,vs,rfl,⟨by unfold iB;rw[if_pos rfl],fun z=>by have:=(ok.z a z).1;rw[hm]at this;cases this⟩,.inl (.inl h1),RPs.tr (fun _ _ q=>q) (fun b ws q1 q2=>⟨⟨pW q1.1,q1.2⟩,q2⟩) _ _ h2⟩
end
section
variable {X:Cx}{a:Expr}{f:DE}{pos p2:Pos}
@[simp] def yC:DC
 | [.cel c],m,Q=>∃ xs,m c=some (.l xs)/\(PyData.list xs).showable=true/\(PyData.list xs).shown.length<=sizeLine/\(PyData.list xs).depth<=100/\Q (.dat (.str (PyData.list xs).shown)) m
 | _,_,_=>False
theorem Xk(hu:X.A.units+200<cLine)(hg:X.A.guards=some []):CallD X (.builtin "repr") yC:=by
 intro pins s σ H Z m xs ds us R Q I ok rv rd h k;unfold yC at h
 split at h
 ·obtain⟨xs,hm,h1,h2,h3,h4⟩:=h;obtain⟨v,rfl,r1⟩:=rd.one;obtain⟨u,rfl,ru⟩:=eD rv;have r2:=uK ok hm r1
  obtain⟨rfl,_⟩:=r1
  cases ru
  have nd:=RP.noDict X.K _ _ r2 h1
  obtain⟨as,rd⟩:=RP.reads I _ _ (.ref _) r2 rfl;exact repr_of_reads' rd h1 (PyData.noDict_hsm nd) hg (by omega) (fun _ _ e=>e) (fun h' u tk kp=>⟨.str _,H,I.kept kp,⟨_,rfl⟩,k _ m _ H h4 Ext.refl ok .ofStr⟩) h2
 ·exact h.elim
end
end DL
namespace DL
open PySem PySem.Spec PyProof.Rows L2
theorem HB:typeLookup (.type "list") "keys"=pure none:=by rw[typeLookup_type,builtinLookup_eq_fast];kernel_rfl
section
variable {prog:Program}{w:World}{A:Around}{E:Value->Shared->Prop}{s:Shared}
theorem V1{a:Addr}{o:Obj}{xs:Array Value}{k:Nat}{Q:Option Value->Shared->Prop}
  (hx:s.heap.get? a=some o) (hc:o.cls=.type "list") (hdat:o.data=.seq xs k) (hd:o.dict=none) (hA:A.handled=none)
  (h:∀ h' tk,(∀ b ob,s.heap.get? b=some ob->h'.get? b=some ob)->Q none {s with heap:=h',toks:=tk}) :
  wpAny (model prog w) A (getAttr? (.ref a) "keys") Q E s:=by
 obtain⟨c,dct,dat,sl⟩:=o;simp only at hc hdat hd;subst hc hdat hd;obtain⟨hp,g,d,tk,os⟩:=s;have hT:∀ tk',(⟨hp,g,d,tk',os⟩:Shared).TypeIs (.ref a) "list":=fun _=>⟨_,hx,rfl⟩
 have f1:=sub_AttributeError
 have f3:=F.slot_list_getattribute.lookup
 have f4:=F.slot_list_getattribute.bind (.ref a)
 have f5:=am_list_getattr_none
 have hsz:(Str.ofString "keys").length+100<=sizeLine:=by rw[sizeLine_eq];decide
 have hname:(["__module__","__name__","__qualname__","__doc__","__annotations__"]:List Str).contains (Str.ofString "keys")=false:=by decide
 unfold getAttr? getAttrBy? getAttrBy
 repeat (any_goals (first | assumption | exact hT _ | ((with_reducible show wpAny _ _ (call (Value.builtin "list.__getattribute__") _ _) _ _ _);refine call_meets F.slot_list_getattribute (hT _) am_entry_list_getattribute (F.args_list_getattribute_2 _ _) (meets_getattribute_miss_list a xs k sl (Str.ofString "keys") _ HB hname hsz) ⟨hx,hA,fun h' tk' e hx'=>?_⟩) | wp_step))
 obtain⟨t',u',he⟩:=hx'.there;show wpAny _ _ (getattributeRaised _ _ _ _ _ _ _) _ _ _
 unfold getattributeRaised
 repeat (any_goals (first | assumption | wp_step))
 exact h h' tk' hx'.keeps
end
section
variable {prog:Program}{w:World}{κ:Type}[DecidableEq κ]{knd:KeyKind prog w κ}{A:Around}{E:Value->Shared->Prop}{s:Shared}
theorem Tx{R:Result->Shared->Prop}{hb:Heap}{d it tq:Addr}{items:Array Value}(hh:A.handled=none)(hd:hb.get? d=none)(hi:hb.get? it=none)(hne:d≠it)(ht:hb.IsList tq items) :
  ∀ (rest:List (κ×Value)) (i:Nat) (s:Shared) (acc:List (κ×Value)) (tk0:Tok),(∀ b o,hb.get? b=some o->s.heap.get? b=some o)->s.heap.IsListIter it tq i->s.heap.DictOf knd d acc->lW knd hb (items.toList.drop i) rest->acc.length+rest.length<=sizeLine ->
  (∀ h' tk,(∀ b o,hb.get? b=some o->h'.get? b=some o)->h'.DictOf knd d (lG acc rest)->R (.ok (.ret .none)) {s with heap:=h',toks:=tk}) ->
  codeAny (model prog w) A (.builtin "dict.update.loop" ⟨[.ref d,.ref it,.int i tk0,.none],[]⟩) R s
 | [],i,s,acc,tk0,keeps,hit,hdo,hp,hsz,hR=>by
  have hx:items[i]?=none:=by
   cases e:items.toList.drop i with
   | nil =>
    have:=List.drop_eq_nil_iff.mp e
    rw[Array.getElem?_eq_none_iff];simpa using this
   | cons x xs=>rw[e]at hp;exact hp.elim
  have ht':s.heap.IsList tq items:=by
   obtain⟨o,ho,r⟩:=ht;exact⟨o,keeps _ _ ho,r⟩
  refine codeAny_builtin oV ?_;rw[Around.under_plainId jH _];show wpAny _ A.in1 (pyNext (.ref it)>>=_) _ _ s
  refine ad (wpAny_pyNext_list_end hh hit ht' hx fun h' hs=>?_);show wpAny _ A.in1 (Builtin.Dict.addKeywords d []>>=_) _ _ _
  refine ad (ae (ae ?_));refine hR h' s.toks (fun b o e=>hs b o (fun q=>by rw[q,hi]at e;cases e) (keeps b o e)) (hdo.extBut hs hne)
 | (k,v)::rest,i,s,acc,tk0,keeps,hit,hdo,hp,hsz,hR=>by
  cases e:items.toList.drop i with
  | nil=>rw[e]at hp;exact hp.elim
  | cons x xs =>
   rw[e]at hp;obtain⟨⟨b,key,rfl,hb2,hk⟩,hp2⟩:=hp;have hx:items[i]?=some (.ref b):=by
    have:=congrArg List.head? e
    rw[List.head?_drop]at this;simpa using this
   have e2:items.toList.drop (i+1)=xs:=by
    have:=congrArg List.tail e
    rw[List.tail_drop]at this;simpa using this
   have ht':s.heap.IsList tq items:=by
    obtain⟨o,ho,r⟩:=ht;exact⟨o,keeps _ _ ho,r⟩
   refine codeAny_builtin oV ?_;rw[Around.under_plainId jH _];show wpAny _ A.in1 (pyNext (.ref it)>>=_) _ _ s
   refine ad (wpAny_pyNext_list_item hit ht' hx fun h1 hit1 hs1=>?_);have k1:∀ b o,hb.get? b=some o->h1.get? b=some o:=fun b o e=>hs1.extBut b o (fun q=>by rw[q,hi]at e;cases e) (keeps b o e)
   have ht1:({s with heap:=h1}:Shared).heap.IsTuple b #[key,v]:=by
    obtain⟨o,ho,r⟩:=hb2;exact⟨o,k1 _ _ ho,r⟩
   have hdo1:({s with heap:=h1}:Shared).heap.DictOf knd d acc:=hdo.sameBut hs1 hne
   obtain⟨o,ho,hoc,no,hod⟩:=id ht1;refine ad (wpAny_holding (ad (wpAny_tryCatch ?_)));unfold Builtin.Dict.pairItems;refine ad (wpAny_typeOf ht1.typeIs ?_);rw[if_pos (by decide)]
   refine ad (wpAny_seqItems ho hod (ae ?_));show wpAny _ A.in1 (holding [key,v] (dictSet d key v)) _ _ _
   refine wpAny_holding (wpAny_dictSet_pairs (hsz:=by simp at hsz;omega) hk hdo1 fun h2 hdo2 hs2=>?_)
   refine ae ⟨plainId_quiet jH _,?_⟩;have ih:=Tx (R:=R) hh hd hi hne ht rest (i+1) {s with heap:=h2,toks:=s.toks+1} (stored acc k v) 0
    (fun b o e=>hs2.extBut b o (fun q=>by rw[q,hd]at e;cases e) (k1 b o e)) (hit1.extBut hs2.extBut (Ne.symm hne)) hdo2 (by rw[e2];exact hp2)
    (by have:=Ls acc k v;simp at hsz;omega) (fun h' tk q1 q2=>hR h' tk q1 q2)
   exact ih
theorem b7{Q:Value->Shared->Prop}{tq:Addr}{o:Obj}{items:Array Value}{n:Nat}{kvs:List (κ×Value)}(hh:A.handled=none)(ho:s.heap.get? tq=some o)(hc:o.cls=.type "list")(hdn:o.dict=none)(hdat:o.data=.seq items n)
  (hp:lW knd s.heap items.toList kvs) (hsz:kvs.length<=sizeLine)
  (hQ:∀ h' tk,(∀ b o,s.heap.get? b=some o->h'.get? b=some o)->h'.DictOf knd s.heap.objs.size (lG [] kvs)->Q (.ref s.heap.objs.size) {s with heap:=h',toks:=tk}) :
  wpAny (model prog w) A (call (.type "dict") [.ref tq]) Q E s:=by
 refine callType_codes (Q₁:=fun obj s₁=>obj=.ref s.heap.objs.size/\s₁={s with heap:=s.heap.push {cls:=.type "dict",data:=.dict #[]}}) F.kt_called_dict (F.kt_typeCall_dict_1 _) F.entry_dict_init (kt_code_dict_new _ ⟨rfl,rfl⟩) ?_;rintro obj s₁ ⟨rfl,rfl⟩;have hnew:(s.heap.push {cls:=.type "dict",data:=.dict #[]}).DictOf knd s.heap.objs.size []:=Heap.DictOf.new s.heap
 refine⟨hnew.typeIs,F.args_dict_init_2 _ _,?_⟩;unfold Builtin.«dict.__init__»;refine ad ?_;unfold Builtin.Dict.selfAndRest;refine ad (wpAny_notOrdered_dict hnew.typeIs ?_);show wpAny _ _ (pure (s.heap.objs.size,[Value.ref tq])) _ _ _
 refine ae ?_;show wpAny _ _ (Builtin.Dict.updateFrom "dict.__init__" s.heap.objs.size (.ref tq) [] .none) _ _ _
 unfold Builtin.Dict.updateFrom;have ho1:(s.heap.push {cls:=.type "dict",data:=.dict #[]}).get? tq=some o:=ag _ ho
 refine ad (wpAny_typeOf (T:="list") ⟨_,ho1,hc⟩ ?_);rw[if_pos (by decide)]
 refine ad (V1 ho1 hc hdat hdn hh fun h1 tk1 k1=>?_);rw[if_pos (show(none:Option Value).isNone=true from rfl)]
 have g0:s.heap.get? s.heap.objs.size=none:=by
  cases e:s.heap.get? s.heap.objs.size with
  | none=>rfl
  | some ob=>exact absurd (af e) (Nat.lt_irrefl _)
 have g1:s.heap.get? h1.objs.size=none:=by
  cases e:s.heap.get? h1.objs.size with
  | none=>rfl
  | some ob=>exact absurd (af (k1 _ _ (ag _ e))) (Nat.lt_irrefl _)
 have hd1:h1.DictOf knd s.heap.objs.size []:=by
  obtain⟨ob,es,ep,q,r⟩:=hnew;exact⟨ob,es,ep,k1 _ _ q,r⟩
 have hne:s.heap.objs.size≠h1.objs.size:=by
  obtain⟨ob,es,ep,q,r⟩:=hd1;exact am (af q)
 have ht:s.heap.IsList tq items:=⟨o,ho,hc,n,hdat⟩
 refine ad (wpAny_rule (ad (wpAny_pyIter_list (l:=tq) (items:=items) ⟨o,k1 _ _ ho1,hc,n,hdat⟩ ?_)));refine ae ⟨plainId_quiet jH _,?_⟩;refine Tx (A:=A.in1) (knd:=knd) (hb:=s.heap) (show A.in1.handled=none from hh) g0 g1 hne ht kvs 0 {s with heap:=h1.push {cls:=.type "list_iterator",data:=.fields #[.ref tq,.int 0 0]},toks:=tk1} [] 0 (fun b ob e=>ag _ (k1 _ _ (ag _ e))) ⟨_,ah _ rfl,rfl,rfl⟩ (hd1.push _) (by simpa using hp) (by simpa using hsz) fun h' tk q1 q2=>?_
 exact⟨rfl,hQ h' tk q1 q2⟩
end
section
variable {X:Cx}{e:Expr}{f:DE}{pos p:Pos}
@[simp] def sD(f:DE):DE:=fun d m Q=>f d m fun x m1=>∃ kvs:List (bF×PyData),x=.dat (.list (kvs.map fun kv=>.tuple [hX kv.1,kv.2]))/\kvs.length<=sizeLine/\∀ a,m1 a=none->Q (.cel a) (bW m1 a (.d (eC [] kvs)))
theorem U7(hc:X.calm=true)(hg:Gl X "dict")(hm:X.mg "dict"=none)(he:PE X e (LE X.K f))(hs:starEach [e] X.env=[(false,eval e X.env)]:=by rfl):PE X (.Call (.Name "dict" p) [e] [] pos) (LE X.K (sD f)):=by
 intro pins s σ H Q I h;obtain⟨Z,d,m,R,ok,rs,h,k⟩:=h;have hA:=gU (X:=X) he iV (by rw[hs];rfl) pos pins s σ H (fun vs H1=>∃ (v:V) (kvs:List (bF×PyData)) (m1:Mu),vs=[v]/\RD X.K Z m1 H1 (.dat (.list (kvs.map fun kv=>.tuple [hX kv.1,kv.2]))) v/\kvs.length<=sizeLine/\(∀ a,m1 a=none->R (.cel a) (bW m1 a (.d (eC [] kvs))))/\Ext X.K Z m H m1 H1/\Ok X.K Z m1 H1) I ⟨Z,d,m,_,ok,rs,h,fun x m1 v H1 ⟨kvs,ex,hn,q⟩ e1 ok1 rd=>by
  subst ex;exact⟨v,kvs,m1,rfl,rd,hn,q,e1,ok1⟩⟩
 refine Call_ (jB I hg hm boot_dict (PyProof.Rows.callWith_type1 (aP hA fun us s1 ⟨vs,H1,I1,r1,q1⟩=>?_) hs rfl));obtain⟨v,kvs,m1,ev,rd,hn,q,e1,ok1⟩:=q1;subst ev;simp only[RD,RP]at rd;obtain⟨a,ps,rfl,_,hsq,hp⟩:=rd;obtain⟨u,rfl,hu⟩:=eD r1
 cases (show u=Value.ref a from hu)
 obtain⟨its,rv,⟨o,n,ho,hoc,hdn,hod⟩,_⟩:=I1.list hsq;obtain⟨ws,xs,q1,q2,q3,q4⟩:=vW (Z:=Z) (m:=m1) I1 hp rv;have hp0:H1 s1.heap.objs.size=none:=I1.hok.fresh (aj _)
 have hk0:X.K.lookup s1.heap.objs.size=none:=by
  cases e:X.K.lookup s1.heap.objs.size with
  | none=>rfl
  | some o=>exact absurd (af (I1.kIn _ o e)) (Nat.lt_irrefl _)
 refine b7 (knd:=dP X.prog X.w) (I1.ok.hd hc) ho hoc hdn hod (by simpa using q3) (by rw[q4];exact hn) fun h' tk kp dd=>?_
 have rk:RKV X.K Z m1 H1 (eC [] kvs) (iM [] ws):=RKV.puts (show RKV _ _ _ _ _ _ from rfl) q1
 have ob:ObjOk X.prog X.w (upd H1 s1.heap.objs.size (.dK (iM [] ws))) h' s1.heap.objs.size (.dK (iM [] ws)):=by
  refine⟨?_,beq_eq_false_iff_ne.mpr (Ne.symm (am I1.big)),_,KV.puts q2 .nil,dd⟩;rw[rk.length];exact Nat.le_trans (vO kvs []) (by simpa using hn)
 exact⟨.ref s1.heap.objs.size,_,I1.laid (t':=tk) kp (aj _) ob,rfl,k _ _ _ _ (q _ (fH ok1 hp0).1) (e1.trans (Ext.cell ok1 hp0 hk0)) (ok1.cell hp0 hk0 (show RKV _ _ _ _ _ _ from rk)) ⟨rfl,by rw[cO];rfl⟩⟩
end
end DL
namespace DL
open PySem PySem.Spec PyProof.Rows L2
section
variable {X:Cx}{pins:List (Addr×Obj)}{σ:L2.St}
def PairsH(H:Hp)(xs ys:List V)(ps:List Addr):Prop:=∀ (j:Nat) (p:Addr),ps[j]?=some p->∃ x y,xs[j]?=some x/\ys[j]?=some y/\H p=some (.tup [x,y])
theorem PairsH.same{H H':Hp}{xs ys:List V}{ps:List Addr}(h:PairsH H xs ys ps)(e:Same H H'):PairsH H' xs ys ps:=fun j p q=>let ⟨x,y,h1,h2,h3⟩:=h j p q;⟨x,y,h1,h2,e _ _ h3⟩
theorem PairsH.snoc{H:Hp}{xs ys:List V}{ps:List Addr}{a:Addr}{x y:V}(h:PairsH H xs ys ps)(hx:xs[ps.length]?=some x)(hy:ys[ps.length]?=some y)(ha:H a=some (.tup [x,y])):PairsH H xs ys (ps++[a]):=fun j p q=>by
 rcases Nat.lt_or_ge j ps.length with c | c
 ·rw[List.getElem?_append_left c]at q;exact h j p q
 ·rw[List.getElem?_append_right c]at q;have:j-ps.length=0:=by
   rcases Nat.eq_zero_or_pos (j-ps.length) with z | z
   ·exact z
   ·rw[List.getElem?_eq_none (by simp;omega)]at q;cases q
  rw[this]at q
  cases q
  have e:j=ps.length:=by omega
  subst e;exact⟨x,y,hx,hy,ha⟩
end
end DL
namespace DL
open PySem PySem.Spec PyProof.Rows L2
section
variable {X:Cx}{o e:Expr}{f g:DE}
@[simp] def Ox:PyData->Bool
 | .none=>true
 | _=>false
@[simp] def nZ:D2
 | .dat p,.dat .none,m,Q=>Q (.dat (.bool (Ox p))) m
 | _,_,_,_=>False
theorem EQ{K:ac}{Z:Addr->Prop}{m:Mu}{H:Hp}{p:PyData}{x:V}(h:RP K Z m H p x):decide (x=.non)=Ox p:=by
 cases p with
 | none=>simp only[RP]at h;subst h;rfl
 | bool b=>simp only[RP]at h;subst h;rfl
 | int i=>simp only[RP]at h;subst h;rfl
 | str z=>simp only[RP]at h;subst h;rfl
 | tuple xs=>simp only[RP]at h;obtain⟨a,vs,rfl,_⟩:=h;rfl
 | list xs=>simp only[RP]at h;obtain⟨a,vs,rfl,_⟩:=h;rfl
 | dict _=>simp only[RP]at h;obtain⟨a,_,_,_,rfl,_⟩:=h;rfl
theorem zO:cM X (compareOp .Is) nZ:=by
 intro pins s σ H Z m x y dx dy v u R Q I ok rx ry r1 r2 h k;unfold nZ at h
 split at h
 ·have e:y=.non:=by simpa only[RD,RP] using r2
  refine l3 pins s σ H _ _ v u Q I rx ry ⟨e,?_⟩;rw[EQ r1];exact k _ m _ H h Ext.refl ok .ofBl
 ·exact h.elim
end
end DL
namespace DL
open PySem PySem.Spec PyProof.Rows L2
section
variable {K:ac}{Z:Addr->Prop}{m m1:Mu}{H H1:Hp}
theorem Ok.off{a:Addr}(ok:Ok K Z m H):Ok K Z (iB m a) H :=
 ⟨fun b c h=>by
  unfold iB at h
  split at h
  ·cases h
  ·obtain⟨o,h1,h2⟩:=ok.g b c h;exact⟨o,h1,h2.lift fun p v q=>RP.tr (fun _ _ q=>q) (fun b ws q1 q2=>⟨⟨pW q1.1,q1.2⟩,q2⟩) p v q⟩,fun b hz=>⟨pW (ok.z b hz).1,(ok.z b hz).2⟩⟩
theorem Ext.off{a:Addr}(e:Ext K Z m H m1 H1)(h:m a=none):Ext K Z m H (iB m1 a) H1 :=
 ⟨e.t,fun b vs h1 h2=>let ⟨q1,q2⟩:=e.l b vs h1 h2;⟨pW q1,q2⟩,e.z,fun b hb=>by
  unfold iB
  split
  ·rename_i q;rw[q,h]at hb;cases hb
  ·exact e.c b hb,e.fz,fun b hb=>by
  unfold iB
  split
  ·rename_i q;rw[q,h]at hb;cases hb
  ·exact e.fm b hb,e.ll⟩
end
section
variable {X:Cx}{e:Expr}{f:DE}
@[simp] def yP(f:DE):DE:=fun d m Q=>f d m fun x m1=>∃ c xs,x=.cel c/\m c=none/\m1 c=some (.l xs)/\Q (.dat (.list xs)) (iB m1 c)
theorem DZ(he:PE X e (LE X.K f)):PE X e (LE X.K (yP f)):=PE.imp he fun s H Q h=>by
 obtain⟨Z,d,m,R,ok,rs,h,k⟩:=h;refine⟨Z,d,m,_,ok,rs,h,fun x m1 v H1 q e1 ok1 rd=>?_⟩;obtain⟨c,xs,rfl,hc,hm,q⟩:=q;exact k _ _ v H1 q (e1.off hc) ok1.off (uK ok1 hm rd)
end
end DL
namespace DL
open PySem PySem.Spec PyProof.Rows L2
section
variable {X:Cx}{a b c:Expr}{f g h:DE}{pos:Pos}
@[simp] def lZ(r r':D2)(f g h:DE):DE:=fun d m Q=>f d m fun x m1=>g d m1 fun y m2=>r x y m2 fun z m3=>∃ k,z=.dat (.bool k)/\(if k=true then h d m3 fun w m4=>r' y w m4 Q else Q (.dat (.bool false)) m3)
theorem DW{op op':CmpOp}{r r':D2}(ho:cM X (compareOp op) r)(ho':cM X (compareOp op') r')(ha:PE X a (LE X.K f))(hb:PE X b (LE X.K g))(hc:PE X c (LE X.K h))
  (hm:lastMarks [op,op'] [b,c]=false:=by with_unfolding_all rfl):PE X (.Compare a [op,op'] [b,c] pos) (LE X.K (lZ r r' f g h)):=by
 intro pins s σ H Q I hh;obtain⟨Z,d,m,R,ok,rs,hf,k⟩:=hh;refine Compare_chain (aP (ha pins s σ H (fun x H1=>∃ (dx:D) (m1:Mu),RD X.K Z m1 H1 dx x/\(g d m1 fun y m2=>r dx y m2 fun z m3=>∃ k,z=.dat (.bool k)/\(if k=true then h d m3 fun w m4=>r' y w m4 R else R (.dat (.bool false)) m3))/\Ext X.K Z m H m1 H1/\Ok X.K Z m1 H1) I
  ⟨Z,d,m,_,ok,rs,hf,fun x m1 v H1 q e1 ok1 rd=>⟨x,m1,rd,q,e1,ok1⟩⟩) fun v s1 ⟨x,H1,I1,r1,dx,m1,rd,q,e1,ok1⟩=>chain_link (aP (hb pins s1 σ H1 (fun y H2=>∃ (dy:D) (m2:Mu),RD X.K Z m2 H2 dy y/\(r dx dy m2 fun z m3=>∃ k,z=.dat (.bool k)/\(if k=true then h d m3 fun w m4=>r' dy w m4 R else R (.dat (.bool false)) m3))/\Ext X.K Z m1 H1 m2 H2/\Ok X.K Z m2 H2) I1
  ⟨Z,d,m1,_,ok1,rs.ext e1,q,fun y m2 w H2 q2 e2 ok2 rd2=>⟨y,m2,rd2,q2,e2,ok2⟩⟩) fun u s2 ⟨y,H2,I2,r2,dy,m2,rd2,q2,e2,ok2⟩ =>
  aP (ho pins s2 σ H2 Z m2 x y dx dy v u _ (fun z H3=>∃ (kk:Bool) (m3:Mu),z=.bl kk/\(if kk=true then h d m3 fun w m4=>r' dy w m4 R else R (.dat (.bool false)) m3)/\Ext X.K Z m2 H2 m3 H3/\Ok X.K Z m3 H3) I2 ok2 r1 r2 (rd.ext e2) rd2 q2 (fun z m3 v3 H3 ⟨kk,ez,q3⟩ e3 ok3 rd3=>by subst ez;exact⟨kk,m3,by simpa only[RD,RP] using rd3,q3,e3,ok3⟩))
   fun cv s3 ⟨z,H3,I3,r3,kk,m3,ez,q3,e3,ok3⟩=>?_)) hm
 subst ez
 cases r3
 refine wpAny_truthy_bool ?_
 cases kk with
 | false=>exact ite_ff ⟨.bl false,H3,I3,rfl,k _ m3 _ H3 (by simpa using q3) (e1.trans (e2.trans e3)) ok3 .ofBl⟩
 | true =>
  refine ite_tt (chain_last (aP (hc pins s3 σ H3 (fun w H4=>∃ (dw:D) (m4:Mu),RD X.K Z m4 H4 dw w/\r' dy dw m4 R/\Ext X.K Z m3 H3 m4 H4/\Ok X.K Z m4 H4) I3 ⟨Z,d,m3,_,ok3,((rs.ext e1).ext e2).ext e3,by simpa using q3,fun w m4 v4 H4 q4 e4 ok4 rd4=>⟨w,m4,rd4,q4,e4,ok4⟩⟩)
   fun w' s4 ⟨z',H4,I4,r4,dw,m4,rd4,q4,e4,ok4⟩=>?_))
  exact ho' pins s4 σ H4 Z m4 y z' dy dw u w' R Q I4 ok4 r2 r4 (rd2.ext (e3.trans e4)) rd4 q4 fun d' m' v' H' h1 h2 h3 h4=>k d' m' v' H' h1 (e1.trans (e2.trans (e3.trans (e4.trans h2)))) h3 h4
theorem rL{op op':CmpOp}{r r':D2}(ho:cM X (compareOp op) r)(ho':cM X (compareOp op') r')(ha:PE X a (LE X.K f))(hb:PE X b (LE X.K g))(hc:PE X c (LE X.K h))
  (hm:lastMarks [op,op'] [b,c]=false:=by with_unfolding_all rfl):PT X (.Compare a [op,op'] [b,c] pos) (LT X.K (bG (lZ r r' f g h))):=by
 intro pins s σ H Q I hh;obtain⟨Z,d,m,R,ok,rs,hf,k⟩:=hh.le;refine isTrue_chain (aP (ha pins s σ H (fun x H1=>∃ (dx:D) (m1:Mu),RD X.K Z m1 H1 dx x/\(g d m1 fun y m2=>r dx y m2 fun z m3=>∃ k,z=.dat (.bool k)/\(if k=true then h d m3 fun w m4=>r' y w m4 R else R (.dat (.bool false)) m3))/\Ext X.K Z m H m1 H1/\Ok X.K Z m1 H1) I
  ⟨Z,d,m,_,ok,rs,hf,fun x m1 v H1 q e1 ok1 rd=>⟨x,m1,rd,q,e1,ok1⟩⟩) fun v s1 ⟨x,H1,I1,r1,dx,m1,rd,q,e1,ok1⟩=>test_link (aP (hb pins s1 σ H1 (fun y H2=>∃ (dy:D) (m2:Mu),RD X.K Z m2 H2 dy y/\(r dx dy m2 fun z m3=>∃ k,z=.dat (.bool k)/\(if k=true then h d m3 fun w m4=>r' dy w m4 R else R (.dat (.bool false)) m3))/\Ext X.K Z m1 H1 m2 H2/\Ok X.K Z m2 H2) I1
  ⟨Z,d,m1,_,ok1,rs.ext e1,q,fun y m2 w H2 q2 e2 ok2 rd2=>⟨y,m2,rd2,q2,e2,ok2⟩⟩) fun u s2 ⟨y,H2,I2,r2,dy,m2,rd2,q2,e2,ok2⟩ =>
  aP (ho pins s2 σ H2 Z m2 x y dx dy v u _ (fun z H3=>∃ (kk:Bool) (m3:Mu),z=.bl kk/\(if kk=true then h d m3 fun w m4=>r' dy w m4 R else R (.dat (.bool false)) m3)/\Ext X.K Z m2 H2 m3 H3/\Ok X.K Z m3 H3) I2 ok2 r1 r2 (rd.ext e2) rd2 q2 (fun z m3 v3 H3 ⟨kk,ez,q3⟩ e3 ok3 rd3=>by subst ez;exact⟨kk,m3,by simpa only[RD,RP] using rd3,q3,e3,ok3⟩))
   fun cv s3 ⟨z,H3,I3,r3,kk,m3,ez,q3,e3,ok3⟩=>?_)) hm
 subst ez
 cases r3
 refine wpAny_truthy_bool ?_
 cases kk with
 | false =>
  obtain⟨k',e',q'⟩:=k (.dat (.bool false)) m3 (.bl false) H3 (by simpa using q3) (e1.trans (e2.trans e3)) ok3 .ofBl
  cases e'
  exact ite_ff ⟨H3,I3,q'⟩
 | true =>
  refine ite_tt (test_last (aP (hc pins s3 σ H3 (fun w H4=>∃ (dw:D) (m4:Mu),RD X.K Z m4 H4 dw w/\r' dy dw m4 R/\Ext X.K Z m3 H3 m4 H4/\Ok X.K Z m4 H4) I3 ⟨Z,d,m3,_,ok3,((rs.ext e1).ext e2).ext e3,by simpa using q3,fun w m4 v4 H4 q4 e4 ok4 rd4=>⟨w,m4,rd4,q4,e4,ok4⟩⟩)
   fun w' s4 ⟨z',H4,I4,r4,dw,m4,rd4,q4,e4,ok4⟩=>?_))
  refine aP (ho' pins s4 σ H4 Z m4 y z' dy dw u w' R (fun x H'=>∃ k,x=.bl k/\Q k H') I4 ok4 r2 r4 (rd2.ext (e3.trans e4)) rd4 q4 fun d' m' v' H' h1 h2 h3 h4=>k d' m' v' H' h1 (e1.trans (e2.trans (e3.trans (e4.trans h2)))) h3 h4) fun d' s5 ⟨z2,H5,I5,r5,k2,e5,q5⟩=>?_;subst e5
  cases r5
  exact wpAny_truthy_bool ⟨H5,I5,q5⟩
@[simp] def rC:D2
 | .dat (.str x),.dat (.str y),m,Q=>Q (.dat (.bool (Txt.contains y x))) m
 | _,_,_,_=>False
theorem Rs:cM X (compareOp .In) rC:=by
 intro pins s σ H Z m x y dx dy v u R Q I ok rx ry r1 r2 h k;unfold rC at h
 split at h
 ·cases r1.str
  cases r2.str
  obtain⟨t,rfl⟩:=rx;obtain⟨t',rfl⟩:=ry;exact PySem.SB.contains (h:=⟨.bl _,H,I,rfl,k _ m _ H h Ext.refl ok .ofBl⟩)
 ·exact h.elim
theorem Ux{x:Str}{i:Int}{t:Tok}(hg:Gl X x)(hm:X.mg x=some (.int i t))(hd:(x==("__debug__" : Str))=false:=by decide):PE X (.Name x pos) (LE X.K (aE (.int i))) :=
 PE.imp (nJ (v:=.int i) hg hm ⟨t,rfl⟩ hd) fun s H Q h=>by
  obtain⟨Z,d,m,R,ok,rs,h,k⟩:=h;exact k _ m _ H h Ext.refl ok (by simp only[RD,RP])
theorem L1{x:Str}{z:Str}{t:Tok}(hg:Gl X x)(hm:X.mg x=some (.str z t))(hd:(x==("__debug__" : Str))=false:=by decide):PE X (.Name x pos) (LE X.K (aE (.str z))) :=
 PE.imp (nJ (v:=.str z) hg hm ⟨t,rfl⟩ hd) fun s H Q h=>by
  obtain⟨Z,d,m,R,ok,rs,h,k⟩:=h;exact k _ m _ H h Ext.refl ok (by simp only[RD,RP])
end
end DL
namespace DL
open PySem PySem.Spec PyProof.Rows L2
@[simp] def kL(m:Mu):D->Option PyData
 | .dat p=>some p
 | .cel c=>match m c with
  | some (.l xs)=>some (.list xs)
  | _=>none
section
variable {K:ac}{Z:Addr->Prop}{m:Mu}{H:Hp}
theorem rD{x:D}{p:PyData}{v:V}(ok:Ok K Z m H)(e:kL m x=some p)(r:RD K Z m H x v):∃ m',RP K Z m' H p v:=by
 cases x with
 | dat q=>cases e;exact⟨m,r⟩
 | cel c =>
  simp only[kL]at e
  split at e
  ·rename_i xs hm
   cases e
   exact⟨_,uK ok hm r⟩
  ·cases e
end
section
variable {X:Cx}
@[simp] def uJ:D2:=fun x y m Q=>∃ p q,kL m x=some p/\kL m y=some q/\p.canLay0=true/\q.canLay0=true/\p.depth<=100/\Q (.dat (.bool (PyData.eqv p q))) m
@[simp] def zH:D2:=fun x y m Q=>∃ p q,kL m x=some p/\kL m y=some q/\p.canLay0=true/\q.canLay0=true/\p.depth<=100/\Q (.dat (.bool (!PyData.eqv p q))) m
theorem Nh(hu:X.A.units+100<cLine):cM X (compareOp .Eq) uJ:=by
 intro pins s σ H Z m x y dx dy v u R Q I ok rx ry r1 r2 h k;obtain⟨p,q,e1,e2,h1,h2,h3,h4⟩:=h;obtain⟨m1,w1⟩:=rD ok e1 r1;obtain⟨m2,w2⟩:=rD ok e2 r2;obtain⟨as,ra⟩:=RP.reads I _ x v w1 rx;obtain⟨bs,rb⟩:=RP.reads I _ y u w2 ry;exact SeqAt.compareEq_reads ra rb h1 h2 (by omega) ⟨.bl _,H,I,rfl,k _ m _ H h4 Ext.refl ok .ofBl⟩
theorem Gu(hu:X.A.units+100<cLine):cM X (compareOp .NotEq) zH:=by
 intro pins s σ H Z m x y dx dy v u R Q I ok rx ry r1 r2 h k;obtain⟨p,q,e1,e2,h1,h2,h3,h4⟩:=h;obtain⟨m1,w1⟩:=rD ok e1 r1;obtain⟨m2,w2⟩:=rD ok e2 r2;obtain⟨as,ra⟩:=RP.reads I _ x v w1 rx;obtain⟨bs,rb⟩:=RP.reads I _ y u w2 ry;exact SeqAt.compareNe_reads ra rb h1 h2 (by omega) ⟨.bl _,H,I,rfl,k _ m _ H h4 Ext.refl ok .ofBl⟩
end
end DL
namespace DL
open PySem PySem.Spec PyProof.Rows L2
theorem Paired.at{α β:Type}{r:α->β->Prop}:∀ {xs:List α} {ys:List β} {i:Nat} {x:α},Paired r xs ys->xs[i]?=some x->∃ y,ys[i]?=some y/\r x y
 | _,_,_,_,.nil,e=>by simp at e
 | _,_,0,x,.cons h _,e=>by
  simp at e;subst e;exact⟨_,rfl,h⟩
 | _,_,i+1,x,.cons _ h,e=>by
  obtain⟨y,h1,h2⟩:=Paired.at (i:=i) h (by simpa using e)
  exact⟨y,by simpa using h1,h2⟩
theorem Paired.len{α β:Type}{r:α->β->Prop}:∀ {xs:List α} {ys:List β},Paired r xs ys->xs.length=ys.length
 | _,_,.nil=>rfl
 | _,_,.cons _ h=>by rw[List.length_cons,List.length_cons,Paired.len h]
section
variable {X:Cx}{o:Expr}{es:List Expr}{fo:DE}{fa:DA}{pos ipos:Pos}{j:Nat}
theorem Ok.ft{K:ac}{Z:Addr->Prop}{m:Mu}{H:Hp}{a:Addr}{xs:List (List bF×PyData)}(ok:Ok K Z m H)(h:m a=some (.ft xs)):∃ ob vs,H a=some (.frz ob (.dT vs))/\RKV K Z m H xs vs:=by
 obtain⟨o,h1,h2⟩:=ok.g a _ h
 cases o with
 | frz ob u=>cases u<;>first | exact⟨_,_,h1,h2⟩ | exact h2.elim
 | _=>exact h2.elim
end
end DL
namespace DL
open PySem PySem.Spec PyProof.Rows L2
def Cp(kas:List (bF×Addr)):List (bF×V):=kas.map fun x=>(x.1,V.ref x.2)
theorem Ok.dl{K:ac}{Z:Addr->Prop}{m:Mu}{H:Hp}{a:Addr}{kas:List (bF×Addr)}(ok:Ok K Z m H)(h:m a=some (.dl kas)):H a=some (.dK (Cp kas)):=by
 obtain⟨o,h1,h2⟩:=ok.g a _ h
 cases o<;>first | (cases (show _=Cp kas from h2);exact h1) | exact h2.elim
end DL
namespace DL
open PySem PySem.Spec PyProof.Rows L2
def hV(n lo st:Nat):Nat:=if lo<n then (n-lo-1) / st+1 else 0
def IH(n lo st:Nat):List Nat:=(List.range (hV n lo st)).map fun k=>lo+k*st
theorem Vals.at{xs:List V}{us:List Value}:∀ {i:Nat} {x:V},Vals xs us->xs[i]?=some x->∃ u,us[i]?=some u/\RelV x u:=fun h e=>h.get e
end DL
namespace DL
open PySem PySem.Spec PyProof.Rows L2
def TSet(P:Program)(w:World)(h:Heap)(a:Addr)(zs:List Str):Prop :=
 ∃ o es ep t,h.get? a=some o/\o.ExactSet/\o.data=.set es ep t/\ElemsOf (dP P w) es.toList/\(∃ vs,StrsAre (es.toList.map (·.2)) vs/\vs.Perm zs)/\zs.Nodup/\es.size<scanBound/\t.fits es.size=true/\t.led=!w.params.followText "set-order"/\(zs≠[]->t.plain=false)
theorem StrsAre.snoc:∀ {l:List Value} {vs:List Str} (z:Str) (tk:Tok),StrsAre l vs->StrsAre (l++[.str z tk]) (vs++[z])
 | _,_,z,tk,.nil=>.cons z tk .nil
 | _,_,z,tk,.cons x t h=>.cons x t (StrsAre.snoc z tk h)
section
variable {P:Program}{w:World}{A:Around}{E:Value->Shared->Prop}{s:Shared}{a:Addr}{zs:List Str}{z:Str}{tk:Tok}
theorem TSet.len{h:Heap}(T:TSet P w h a zs):∃ o es ep t,h.get? a=some o/\o.data=.set es ep t/\es.size=zs.length:=by
 obtain⟨o,es,ep,t,h1,_,h3,_,⟨vs,h5,h6⟩,_⟩:=T;refine⟨o,es,ep,t,h1,h3,?_⟩;have q1:=congrArg List.length h5.strs
 have q2:=h6.length_eq
 simp at q1;omega
end
end DL
namespace DL
open PySem PySem.Spec PyProof.Rows L2
section
variable {P:Program}{w:World}{A:Around}{R:Result->Shared->Prop}{I:Addr}{fp wr:List Addr}{G:Array GenState->Array GenState->Prop}{n:Nat}{Pv:Nat->Value->Prop}{St:Nat->Shared->Prop}
theorem TSet.at{h h':Heap}{a:Addr}{zs:List Str}(T:TSet P w h a zs)(k:∀ o,h.get? a=some o->h'.get? a=some o):TSet P w h' a zs:=by
 obtain⟨o,es,ep,t,ho,rest⟩:=T;exact⟨o,es,ep,t,k o ho,rest⟩
end
end DL
namespace DL
open PySem PySem.Spec PyProof.Rows L2
section
variable {P:Program}{w:World}{A:Around}{E:Value->Shared->Prop}{s:Shared}{S:Addr}{zs:List Str}
theorem TSet.type{h:Heap}(T:TSet P w h S zs):∃ o,h.get? S=some o/\o.cls=.type "set":=let ⟨o,_,_,_,ho,hx,_⟩:=T;⟨o,ho,hx.1⟩
end
end DL
namespace DL
open PySem PySem.Spec PyProof.Rows L2
def xR(z:Str):It:=⟨fun i _=>i<z.cps.size,fun i H v H'=>H'=H/\∃ c,z.cps[i]?=some c/\v=.str ⟨#[c]⟩,fun i _=>i=z.cps.size⟩
theorem Xr{P:Program}{w:World}{K:ac}{tg:Expr}(it:Addr)(z:Str)(t:Tok)(ty:String)(hty:ty="str_ascii_iterator"\/ty="str_iterator"):Turn P w K tg (xR z) [it] it (fun i h=>h.IsStrIter it ty z t i) where
 mem:=by simp
 obj:=fun i h st b hb=>by
  have e:b=it:=by simpa using hb
  subst e;obtain⟨o,e,_,d⟩:=st;exact⟨o,e,fun v q=>by rw[d]at q;cases q⟩
 keep:=fun i h h' st k=>by
  obtain⟨o,e,q⟩:=st;exact⟨o,k it (by simp) o e,q⟩
 item:=by
  intro X hP hw hK hc i pins s σ H E I hf st hg;subst hP hw hK;have hg:i<z.cps.size:=hg
  obtain⟨f0,f1,f2,f3,f4,f5⟩:=hf it (by simp)
  have hx:z.cps[i]?=some z.cps[i]:=Array.getElem?_eq_getElem hg
  have fin:∀ h',h'.IsStrIter it ty z t (i+1)->Heap.SameBut it s.heap h'->∃ u,some (Value.str ⟨#[z.cps[i]]⟩ s.toks)=some u/\wpAny (model X.prog X.w) X.A (letOwnedTupleGo tg (.ref it) u) (fun _ s2=>∃ x H',Inv X pins σ H' s2/\RelV x u/\(xR z).yld i H x H'/\s2.heap.IsStrIter it ty z t (i+1)/\∀ b∈[it],H' b=none) E {s with heap:=h',toks:=s.toks+1}:=fun h' st' sb=>by
   have I1:Inv X pins σ H {s with heap:=h',toks:=s.toks+1}:=I.turned (fun b o hb e=>(sb.2 b hb).trans e) f0 f1 f3 f4 f5
   obtain⟨o,e,c,d⟩:=id st';refine⟨_,rfl,rM (s:={s with heap:=h',toks:=s.toks+1}) e c d (by rcases hty with rfl | rfl<;>decide) ⟨.str ⟨#[z.cps[i]]⟩,H,I1,⟨_,rfl⟩,⟨rfl,_,hx,rfl⟩,st',fun b hb=>(hf b hb).1⟩⟩
  rcases hty with rfl | rfl
  ·exact wpAny_pyNext_ascii_item st hx fun h' st' sb=>fin h' st' sb
  ·exact wpAny_pyNext_wide_item st hx fun h' st' sb=>fin h' st' sb
 done:=by
  intro X hP hw hK hc i pins s σ H E I hf st hg;subst hP hw hK;have hg:i=z.cps.size:=hg
  obtain⟨f0,f1,f2,f3,f4,f5⟩:=hf it (by simp)
  rcases hty with rfl | rfl
  ·exact wpAny_pyNext_ascii_end (I.ok.hd hc) st (by simp[hg]) fun h' eb=>⟨rfl,I.turned (t':=s.toks) (fun b o hb e=>eb b o hb e) f0 f1 f3 f4 f5⟩
  ·exact wpAny_pyNext_wide_end (I.ok.hd hc) st (by simp[hg]) fun h' eb=>⟨rfl,I.turned (t':=s.toks) (fun b o hb e=>eb b o hb e) f0 f1 f3 f4 f5⟩
 self:=fun _ _ _ _ _ st h=>by
  rcases hty with rfl | rfl
  ·exact wpAny_pyIter_striter_ascii st h
  ·exact wpAny_pyIter_striter_wide st h
@[simp] def fE(z:Str):List PyData:=z.cps.toList.map fun c=>.str ⟨#[c]⟩
@[simp] def qY(f:DE):DI:=fun d m Q=>f d m fun x m1=>∃ z:Str,x=.dat (.str z)/\Q ((fE z).map .dat) m1
section
variable {X:Cx}{a:Expr}{tg:Expr}{f:DE}
theorem HH(ha:PE X a (LE X.K f)):PI X tg a (LI X.K (qY f)):=by
 intro pins s σ H R I h;obtain⟨Z,d,m,ZZ,ok,rs,h,k⟩:=h;refine aP (ha pins s σ H (fun x H1=>∃ (m1:Mu) (z:Str),x=.str z/\ZZ ((fE z).map .dat) m1/\Ext X.K Z m H m1 H1/\Ok X.K Z m1 H1) I
  ⟨Z,d,m,_,ok,rs,h,fun x m1 v H1 ⟨z,ex,q⟩ e1 ok1 rd=>by subst ex;exact⟨m1,z,rd.str,q,e1,ok1⟩⟩) fun u s1 ⟨x,H1,I1,r1,m1,z,ex,q,e1,ok1⟩=>?_
 subst ex;obtain⟨t,rfl⟩:=r1;have yl:mE X.K Z m1 H1 ((fE z).map .dat) (xR z):=by
  intro m3 H3 ey;refine⟨fun i x hx=>?_,?_⟩
  ·have lt:i<z.cps.size:=by
    have:=(List.getElem?_eq_some_iff.mp hx).1
    simpa using this
   refine⟨lt,fun v H4 y=>.inl ⟨y.1,?_⟩⟩;obtain⟨_,c,hc,rfl⟩:=y;rw[List.getElem?_map]at hx;unfold fE at hx;rw[List.getElem?_map,Array.getElem?_toList,hc]at hx
   cases hx
   exact .ofStr
  ·show _=z.cps.size
   simp
 have go:∀ (o:Obj) (ty:String),(ty="str_ascii_iterator"\/ty="str_iterator")->(s1.heap.push o).IsStrIter s1.heap.objs.size ty z t 0->xF X pins σ tg R (.ref s1.heap.objs.size) {s1 with heap:=s1.heap.push o}:=fun o ty hty st=>by
  refine⟨s1.heap.objs.size,[s1.heap.objs.size],_,_,H1,rfl,I1.kept (t':=s1.toks) fun b o e=>ag _ e,Xr _ z t ty hty,st,fun b hb=>?_,k _ m1 H1 _ q e1 ok1 yl⟩;have e:b=s1.heap.objs.size:=by simpa using hb
  subst e;exact I1.fpOk (aj _) (I1.hok.fresh (aj _))
 cases ha:z.cps.all (· < 128)
 ·exact wpAny_pyIter_wide ha (go _ _ (.inr rfl) ⟨_,ah _ rfl,rfl,rfl⟩)
 ·exact wpAny_pyIter_ascii ha (go _ _ (.inl rfl) ⟨_,ah _ rfl,rfl,rfl⟩)
end
end DL
namespace DL
open PySem PySem.Spec PyProof.Rows L2
@[simp] def Aj:D2
 | .dat (.str a),.dat (.str b),m,Q=>Q (.dat (.bool (!(b.cps.toList<a.cps.toList)))) m
 | _,_,_,_=>False
section
variable {X:Cx}
theorem P7:cM X (compareOp .LtE) Aj:=by
 intro pins s σ H Z m x y dx dy v u R Q I ok rx ry r1 r2 h k;unfold Aj at h
 split at h
 ·cases r1.str;cases r2.str
  obtain⟨t1,rfl⟩:=rx;obtain⟨t2,rfl⟩:=ry;refine PySem.P.le_str ?_;exact⟨.bl _,H,I,rfl,k _ m _ H h Ext.refl ok .ofBl⟩
 ·exact h.elim
end
end DL
namespace DL
open PySem PySem.Spec PyProof.Rows L2
section
variable {X:Cx}
theorem Wl:OpR X (binaryOp .Add) (fun x y H Q=>∃ a b xs ys,x=.ref a/\y=.ref b/\SqL X.K H a xs/\SqL X.K H b ys/\xs.length+ys.length<=sizeLine/\∀ p,H p=none->X.K.lookup p=none->Q (.ref p) (upd H p (.lst (xs++ys)))):=by
 intro pins s σ H x y v u Q I rx ry h;obtain⟨a,b,xs,ys,rfl,rfl,ha,hb,hz,q⟩:=h
 cases rx
 cases ry
 obtain⟨its,r1,p1,_⟩:=I.list ha;obtain⟨its2,r2,p2,_⟩:=I.list hb;obtain⟨⟨cls,dd,data,sl⟩,ho,hc,n,hd⟩:=id p1.isList;obtain⟨⟨cls2,dd2,data2,sl2⟩,ho2,hc2,n2,hd2⟩:=id p2.isList;simp only at hc hd hc2 hd2;subst hc hd hc2 hd2;have l1:=r1.length
 have l2:=r2.length
 have e:its.toArray++its2.toArray=(its++its2).toArray:=by simp
 have hk:X.K.lookup s.heap.objs.size=none:=by
  cases e:X.K.lookup s.heap.objs.size with
  | none=>rfl
  | some o=>exact absurd (af (I.kIn _ o e)) (Nat.lt_irrefl _)
 refine concat_meets ⟨_,ho,rfl⟩ ⟨_,ho2,rfl⟩ noFill_list_add seq_list_add PySem.F.slot_list_add PySem.F.entry_list_add (PySem.F.args_list_add_2 _ _)
   (list_addW a b its.toArray its2.toArray n n2 dd dd2 sl sl2 (by rw[au,au];omega)) ⟨ho,ho2,?_⟩
 rw[e];exact⟨.ref s.heap.objs.size,_,I.laid (t':=s.toks) (o:=.lst (xs++ys)) (fun b ob q=>ag _ q) (aj _) ⟨by rw[List.length_append];omega,_,0,r1.append r2,ah _ rfl⟩,rfl,q _ (I.hok.fresh (aj _)) hk⟩
end
end DL
namespace DL
open PySem PySem.Spec PyProof.Rows L2
section
variable {K:ac}{Z:Addr->Prop}{m:Mu}{H:Hp}
theorem RD.rw{x:D}{v:V}(h:RD K Z m H x v):RW K Z m H x v:=by
 cases x with
 | dat p=>exact h
 | cel a=>exact h.1
theorem RW.rd{x:D}{v:V}(h:RW K Z m H x v)(hc:∀ a,x=.cel a->(m a).isSome=true):RD K Z m H x v:=by
 cases x with
 | dat p=>exact h
 | cel a=>exact⟨h,hc a rfl⟩
theorem RKW.length{κ:Type}:∀ {fs:List (κ×D)} {vs:List (κ×V)},RKW K Z m H fs vs->vs.length=fs.length
 | [],_,h=>by cases (show _=[] from h);rfl
 | (_,_)::_,_,⟨v,r,h1,_,h3⟩=>by subst h1;rw[List.length_cons,List.length_cons,h3.length]
theorem RKW.look{f:Str}:∀ {fs:List (Str×D)} {vs:List (Str×V)},RKW K Z m H fs vs->(∀ x,fs.lookup f=some x->∃ v,vs.lookup f=some v/\RW K Z m H x v)/\(fs.lookup f=none->vs.lookup f=none)
 | [],_,h=>by cases (show _=[] from h);exact⟨fun x e=>(nomatch e),fun _=>rfl⟩
 | (g,y)::fs,_,⟨v,r,h1,h2,h3⟩=>by
  subst h1;obtain⟨i1,i2⟩:=h3.look (f:=f)
  by_cases e:f=g
  ·have b:(f==g)=true:=beq_iff_eq.mpr e
   simp only[List.lookup,b];exact⟨fun x q=>by cases q;exact⟨v,rfl,h2⟩,fun q=>(nomatch q)⟩
  ·have b:(f==g)=false:=beq_eq_false_iff_ne.mpr e
   simp only[List.lookup,b];exact⟨i1,i2⟩
theorem Ok.o{a:Addr}{N:Str}{fs:List (Str×D)}(ok:Ok K Z m H)(h:m a=some (.o N fs)):∃ C dx vs,H a=some (.ins C dx vs)/\PySem.W.nsIn K mainGlobals N=some (some (.ref C))/\RKW K Z m H fs vs:=by
 obtain⟨o,h1,h2⟩:=ok.g a _ h
 cases o<;>first | exact⟨_,_,_,h1,h2⟩ | exact h2.elim
end
end DL
namespace DL
open PySem PySem.Spec PyProof.Rows L2
section
variable {κ β:Type}[DecidableEq κ]
def kR(kvs:List (κ×β))(k:κ):Option β:=(kvs.find? fun kv=>decide (kv.1=k)).map (·.2)
def qF(kvs:List (κ×β))(k:κ)(v:β):List (κ×β) :=
 if (kvs.any fun kv=>decide (kv.1=k))=true then kvs.map (fun kv=>if kv.1=k then (kv.1,v) else kv) else kvs++[(k,v)]
theorem P5{p:κ×β}{r:List (κ×β)}{k:κ}(e:p.1=k):kR (p::r) k=some p.2:=by simp[kR,List.find?_cons,e]
theorem V4{p:κ×β}{r:List (κ×β)}{k:κ}(e:¬ p.1=k):kR (p::r) k=kR r k:=by simp[kR,List.find?_cons,e]
end
section
variable {κ:Type}[DecidableEq κ]{K:ac}{Z:Addr->Prop}{m:Mu}{H:Hp}
theorem RKW.val{k:κ}:∀ {kvs:List (κ×D)} {vs:List (κ×V)},RKW K Z m H kvs vs->(∀ x,kR kvs k=some x->∃ v,cX vs k=some v/\RW K Z m H x v)/\(kR kvs k).isSome=(cX vs k).isSome
 | [],_,h=>by cases (show _=[] from h);exact⟨fun x e=>(nomatch e),rfl⟩
 | (g,y)::fs,_,⟨v,r,h1,h2,h3⟩=>by
  subst h1;obtain⟨i1,i2⟩:=h3.val (k:=k)
  by_cases e:g=k
  ·rw[P5 (p:=(g,y)) e,nA (p:=(g,v)) e];exact⟨fun x q=>by cases q;exact⟨v,rfl,h2⟩,rfl⟩
  ·rw[V4 (p:=(g,y)) e,mR (p:=(g,v)) e];exact⟨i1,i2⟩
theorem RKW.any{k:κ}:∀ {kvs:List (κ×D)} {vs:List (κ×V)},RKW K Z m H kvs vs->(vs.any fun kv=>decide (kv.1=k))=(kvs.any fun kv=>decide (kv.1=k))
 | [],_,h=>by cases (show _=[] from h);rfl
 | (g,y)::fs,_,⟨v,r,h1,h2,h3⟩=>by subst h1;rw[List.any_cons,List.any_cons,h3.any]
theorem RKW.repl{k:κ}{x:D}{v:V}(hx:RW K Z m H x v):∀ {kvs:List (κ×D)} {vs:List (κ×V)},RKW K Z m H kvs vs->RKW K Z m H (kvs.map fun kv=>if kv.1=k then (kv.1,x) else kv) (vs.map fun kv=>if kv.1=k then (kv.1,v) else kv)
 | [],_,h=>by cases (show _=[] from h);rfl
 | (g,y)::fs,_,⟨w,r,h1,h2,h3⟩=>by
  subst h1;rw[aq,aq]
  by_cases e:g=k
  ·rw[if_pos (show((g,y):κ×D).1=k from e),if_pos (show((g,w):κ×V).1=k from e)];exact⟨v,_,rfl,hx,h3.repl hx⟩
  ·rw[if_neg (show ¬ ((g,y):κ×D).1=k from e),if_neg (show ¬ ((g,w):κ×V).1=k from e)];exact⟨w,_,rfl,h2,h3.repl hx⟩
theorem RKW.snoc{k:κ}{x:D}{v:V}(hx:RW K Z m H x v):∀ {kvs:List (κ×D)} {vs:List (κ×V)},RKW K Z m H kvs vs->RKW K Z m H (kvs++[(k,x)]) (vs++[(k,v)])
 | [],_,h=>by cases (show _=[] from h);exact⟨v,[],rfl,hx,rfl⟩
 | (g,y)::fs,_,⟨w,r,h1,h2,h3⟩=>by subst h1;exact⟨w,_,rfl,h2,h3.snoc hx⟩
theorem RKW.put{k:κ}{x:D}{v:V}{kvs:List (κ×D)}{vs:List (κ×V)}(h:RKW K Z m H kvs vs)(hx:RW K Z m H x v):RKW K Z m H (qF kvs k x) (eG vs k v):=by
 unfold qF eG;rw[h.any]
 split
 ·exact h.repl hx
 ·exact h.snoc hx
theorem Ok.n{a:Addr}{kvs:List (List PyData×D)}(ok:Ok K Z m H)(h:m a=some (.n kvs)):∃ vs,H a=some (.dN K vs)/\RKW K Z m H kvs vs:=by
 obtain⟨o,h1,h2⟩:=ok.g a _ h
 cases o<;>first | (obtain⟨rfl,h2⟩:=h2;exact⟨_,h1,h2⟩) | exact h2.elim
end
section
variable {X:Cx}{pins:List (Addr×Obj)}{σ:L2.St}{H:Hp}{s:Shared}
mutual
theorem NKV.reads(I:Inv X pins σ H s):∀ (p:PyData) (v:V) (u:Value),NKV X.K H p v->RelV v u->∃ as,Reads s.heap u p as
 | .int i,v,u,h,r=>by simp only[NKV]at h;subst h;obtain⟨t,rfl⟩:=r;exact⟨_,.int i t⟩
 | .str x,v,u,h,r=>by simp only[NKV]at h;subst h;obtain⟨t,rfl⟩:=r;exact⟨_,.str x t⟩
 | .tuple xs,v,u,h,r=>by
  simp only[NKV]at h;obtain⟨a,vs,rfl,h2,h3⟩:=h
  cases r
  obtain⟨its,rv,⟨o,e,c,n,d⟩,_⟩:=I.tuple h2;obtain⟨as,q⟩:=NKVs.reads I xs vs its h3 rv;exact⟨_,.tuple e c d (by simpa using q)⟩
 | .none,_,_,h,_ | .bool _,_,_,h,_ | .list _,_,_,h,_ | .dict _,_,_,h,_=>by simp only[NKV]at h
theorem NKVs.reads(I:Inv X pins σ H s):∀ (xs:List PyData) (vs:List V) (us:List Value),NKVs X.K H xs vs->Vals vs us->∃ as,ReadsAll s.heap us xs as
 | [],vs,us,h,r=>by simp only[NKVs]at h;subst h;cases r;exact⟨_,.nil⟩
 | x::xs,vs,us,h,r=>by
  simp only[NKVs]at h;obtain⟨v,w,rfl,h1,h2⟩:=h
  cases r with
  | cons r1 r2 =>
   obtain⟨as,q1⟩:=NKV.reads I x v _ h1 r1;obtain⟨bs,q2⟩:=NKVs.reads I xs w _ h2 r2;exact⟨_,.cons q1 q2⟩
end
abbrev KN(K:ac)(H:Hp):List (List PyData×V)->List (List PyData×Addr×Value)->Prop :=
 Paired fun p q=>p.1=q.1/\(L2.isKs p.1=true/\PyData.depthAll p.1<=6/\NKV K H (.tuple p.1) (.ref q.2.1))/\RelV p.2 q.2.2
theorem KN.val{K:ac}{kvs:List (List PyData×V)}{xs:List (List PyData×Addr×Value)}(r:KN K H kvs xs)(k:List PyData):RelO (cX kvs k) ((atKey xs k).map (·.2)):=by
 induction r with
 | nil=>exact True.intro
 | @cons p q ps qs h t ih =>
  obtain⟨h1,_,h2⟩:=h
  by_cases e:p.1=k
  ·have e':q.1=k:=h1.symm.trans e
   have b:atKey (q::qs) k=some q.2:=by simp[atKey,List.find?_cons,e']
   rw[nA e,b];exact h2
  ·have e':¬ q.1=k:=fun z=>e (h1.trans z)
   have b:atKey (q::qs) k=atKey qs k:=by simp[atKey,List.find?_cons,e']
   rw[mR e,b];exact ih
theorem KN.repl{K:ac}{kvs:List (List PyData×V)}{xs:List (List PyData×Addr×Value)}(r:KN K H kvs xs)(k:List PyData){y:V}{u:Value}(ry:RelV y u) :
  KN K H (kvs.map fun kv=>if kv.1=k then (kv.1,y) else kv) (xs.map (putAt k u)):=by
 induction r with
 | nil=>exact .nil
 | @cons p q ps qs h t ih =>
  rw[aq,aq];refine .cons ?_ ih;obtain⟨h1,h2,h3⟩:=h;unfold putAt
  by_cases e:p.1=k
  ·rw[if_pos e,if_pos (h1.symm.trans e)];exact⟨h1,h2,ry⟩
  ·rw[if_neg e,if_neg (fun z=>e (h1.trans z))];exact⟨h1,h2,h3⟩
theorem KN.put{K:ac}{kvs:List (List PyData×V)}{xs:List (List PyData×Addr×Value)}(r:KN K H kvs xs)(k:List PyData){b:Addr}{y:V}{u:Value}(hb:L2.isKs k=true/\PyData.depthAll k<=6/\NKV K H (.tuple k) (.ref b))(ry:RelV y u) :
  KN K H (eG kvs k y) (storedH xs k b u):=by
 have e:(kvs.any fun kv=>decide (kv.1=k))=(atKey xs k).isSome:=by
  rw[yW,(r.val k).isSome_eq,Option.isSome_map]
 unfold eG storedH;rw[e]
 by_cases q:(atKey xs k).isSome=true
 ·rw[if_pos q,if_pos q];exact r.repl k ry
 ·rw[if_neg q,if_neg q];exact Paired.snoc r ⟨rfl,hb,ry⟩
end
end DL
namespace DL
open PySem PySem.Spec PyProof.Rows L2
def kI(sl:List Int->List Nat)(led:Bool)(zs:List Int):SetTable:={mask:=7,place:=(sl zs).toArray,dummies:=#[],finger:=0,led:=led,moves:=0,plain:=true}
def Gr(zs:List Int)(tks:List Tok):Array (Int×Value):=(List.zipWith (fun z t=>(hashInt z,Value.int z t)) zs tks).toArray
structure SD where
 dom:List Int
 sub:List Int->Prop
 sl:List Int->List Nat
 to:List Int->Int->Nat
 ins:List Int->Int->List Int
 cap:Nat
 nil:sub []
 nil':sl []=[]
 len:∀ zs,sub zs->zs.length<=3/\(∀ led,(kI sl led zs).fits zs.length=true)
 free:∀ led zs,sub zs->∀ z∈dom,z∉zs->zs.length<cap->(kI sl led zs).freeSlot (hashInt z)=some (to zs z,false)/\(kI sl led zs).put (to zs z)=(kI sl led (ins zs z),SetTable.below (sl zs).toArray (to zs z))/\(kI sl led (ins zs z)).fits (zs.length+1)=true /\
  ins zs z=zs.take (SetTable.below (sl zs).toArray (to zs z))++z::zs.drop (SetTable.below (sl zs).toArray (to zs z))/\sub (ins zs z)/\(kI sl led (ins zs z)).tooFull=false
 old:∀ zs,sub zs->∀ z∈zs,ins zs z=zs
 st:∀ zs,sub zs->∀ i j:Nat,((sl zs).toArray)[i]?=some j->SetTable.below (sl zs).toArray (j+1)=i+1
 bel:∀ zs,sub zs->SetTable.below (sl zs).toArray 0=0
def ISetB(B:SD)(P:Program)(w:World)(h:Heap)(a:Addr)(zs:List Int):Prop :=
 ∃ o tks ep,h.get? a=some o/\o.ExactSet/\B.sub zs/\tks.length=zs.length/\o.data=.set (Gr zs tks) ep (kI B.sl (!w.params.followText "set-order") zs)
theorem ISetB.at{B:SD}{P:Program}{w:World}{h h':Heap}{a:Addr}{zs:List Int}(T:ISetB B P w h a zs)(k:∀ o,h.get? a=some o->h'.get? a=some o):ISetB B P w h' a zs:=by
 obtain⟨o,tks,ep,ho,rest⟩:=T;exact⟨o,tks,ep,k o ho,rest⟩
section
variable {P:Program}{w:World}{A:Around}{E:Value->Shared->Prop}{s:Shared}{S:Addr}{zs:List Int}{B:SD}
theorem ISetB.type{h:Heap}(T:ISetB B P w h S zs):∃ o,h.get? S=some o/\o.cls=.type "set":=let ⟨o,_,_,ho,hx,_⟩:=T;⟨o,ho,hx.1⟩
end
def Mn(z:Int):Nat:=if z=-1 then 6 else z.toNat
def Vf:List (List Int):=[[],[0],[1],[-1],[0,1],[0,-1],[1,-1],[0,1,-1]]
theorem st3:∀ zs∈Vf,∀ i:Fin 3,(match ((zs.map Mn).toArray)[i.val]? with | none=>true | some j=>decide (SetTable.below (zs.map Mn).toArray (j+1)=i.val+1))=true:=by decide +kernel
end DL
namespace DL
open PySem PySem.Spec PyProof.Rows L2
section
variable {X:Cx}{elt tg iter:Expr}{ifs:List Expr}{scope:Scope}{NC:List Str}{fi:DI}{g:DG}{t:DT}{f:DE}{pos:Pos}
theorem oE:∀ {vs:List Value} {ys:List Int},IntsAre vs ys->Vals (ys.map V.int) vs
 | _,_,.nil=>.nil
 | _,_,.cons z t h=>.cons ⟨t,rfl⟩ (oE h)
end
end DL
namespace DL
open PySem PySem.Spec PyProof.Rows L2
section
variable {X:Cx}{a:Expr}{f:DE}{pos p2 p3:Pos}
theorem Vals.rel:∀ {xs:List V} {us:List Value},Vals xs us->xs.length=us.length/\∀ (i:Nat) x u,xs[i]?=some x->us[i]?=some u->RelV x u
 | _,_,.nil=>⟨rfl,fun i x u e=>by simp at e⟩
 | _,_,.cons r t=>⟨by simp[(Vals.rel t).1],fun i x u e1 e2=>by
  cases i with
  | zero=>cases e1;cases e2;exact r
  | succ i=>exact(Vals.rel t).2 i x u (by simpa using e1) (by simpa using e2)⟩
theorem RPs.rel{K:ac}{Z:Addr->Prop}{m:Mu}{H:Hp}:∀ {xs:List PyData} {vs:List V},RPs K Z m H xs vs->xs.length=vs.length/\∀ (i:Nat) x u,xs[i]?=some x->vs[i]?=some u->RP K Z m H x u
 | [],vs,h=>by
  cases (show vs=[] from h)
  exact⟨rfl,fun i x u e=>by simp at e⟩
 | p::ps,vs,h=>by
  obtain⟨v,r,rfl,h1,h2⟩:=h;obtain⟨q1,q2⟩:=RPs.rel h2;refine⟨by simp[q1],fun i x u e1 e2=>?_⟩
  cases i with
  | zero=>cases e1;cases e2;exact h1
  | succ i=>exact q2 i x u (by simpa using e1) (by simpa using e2)
end
end DL
namespace DL
open PySem PySem.Spec PyProof.Rows L2
theorem c5:bootBuiltins "any"=some (.builtin "any"):=by decide +kernel
@[simp] def xQ:DC
 | [.dat (.list ps)],m,Q=>∃ bs:List Bool,ps=bs.map .bool/\Q (.dat (.bool (bs.any id))) m
 | _,_,_=>False
theorem X1(bs:List Bool):(List.range bs.length).any (fun i=>(bs[i]?).getD true)=bs.any id:=by
 rw[Bool.eq_iff_iff,List.any_eq_true,List.any_eq_true]
 constructor
 ·rintro⟨i,hi,h⟩;have hi':=List.mem_range.mp hi
  rw[List.getElem?_eq_getElem hi']at h;exact⟨_,List.getElem_mem hi',h⟩
 ·rintro⟨b,hb,h⟩;obtain⟨i,hi,rfl⟩:=List.mem_iff_getElem.mp hb;exact⟨i,List.mem_range.mpr hi,by rw[List.getElem?_eq_getElem hi];exact h⟩
section
variable {X:Cx}
theorem AG(hc:X.calm=true):CallD X (.builtin "any") xQ:=by
 intro pins s σ H Z m xs ds us R Q I ok rv rd h k;unfold xQ at h
 split at h
 ·obtain⟨v,rfl,r1⟩:=rd.one;obtain⟨bs,rfl,hh⟩:=h;simp only[RD,RP]at r1;obtain⟨a,vs,rfl,_,h1,h2⟩:=r1
  cases xZ h2
  obtain⟨u,rfl,ru⟩:=eD rv
  cases ru
  obtain⟨its,r',pl,hz⟩:=I.list h1
  cases wS r'
  have ne:a≠s.heap.objs.size:=by
   obtain⟨o,ho,_⟩:=pl.isList;exact am (af ho)
  refine call_any_walk (wpAny_pyIter_list pl.isList ?_);refine⟨s.heap.objs.size,_,_,_,_,_,fun i=>(bs[i]?).getD true,rfl,Walks.list (A:=X.A.in1) (show X.A.in1.handled=none from I.ok.hd hc) s.heap.objs.size a ne (bs.map Value.bool).toArray,⟨⟨_,ah _ rfl,rfl,rfl⟩,pl.isList.at fun o e=>ag _ e⟩,?_,?_⟩
  ·intro i v s' Q' E' hv hQ;have hv':(bs.map Value.bool)[i]?=some v:=by simpa using hv
   rw[List.getElem?_map]at hv'
   cases eb:bs[i]? with
   | none=>rw[eb]at hv';cases hv'
   | some b =>
    have hQ':Q' ((bs[i]?).getD true) s':=hQ
    rw[eb]at hv' hQ'
    cases hv'
    exact wpAny_truthy_bool hQ'
  ·intro h' tk kp;have e:((bs.map Value.bool).toArray.size)=bs.length:=by simp
   rw[e,X1];refine⟨.bl _,H,I.kept fun b o q=>kp b o ?_ (ag _ q),rfl,k _ m _ H hh Ext.refl ok .ofBl⟩;intro hb;have:b=s.heap.objs.size:=by simpa using hb
   exact absurd (af q) (by rw[this];exact Nat.lt_irrefl _)
 ·exact h.elim
end
end DL
namespace DL
open PySem PySem.Spec PyProof.Rows L2
mutual
@[simp] def qN:PyData->PyData->Bool
 | .int i,.int j=>decide (i=j)
 | .str x,.str y=>decide (x=y)
 | .tuple xs,.tuple ys=>keqs xs ys
 | _,_=>false
@[simp] def keqs:List PyData->List PyData->Bool
 | [],[]=>true
 | x::xs,y::ys=>qN x y&&keqs xs ys
 | _,_=>false
end
def kN{β:Type}(kvs:List (PyData×β))(k:PyData):Option β:=(kvs.find? fun kv=>qN kv.1 k).map (·.2)
theorem Qn{β:Type}{p:PyData×β}{r:List (PyData×β)}{k:PyData}:kN (p::r) k=if qN p.1 k=true then some p.2 else kN r k:=by
 unfold kN;rw[List.find?_cons]
 cases qN p.1 k<;>rfl
section
variable {K:ac}{Z:Addr->Prop}{m:Mu}{H:Hp}
theorem RPd.val{k p:PyData}:∀ {kvs:List (PyData×PyData)} {vs:List (PyData×V)},RPd K Z m H kvs vs->kN kvs k=some p->∃ v,kN vs k=some v/\RP K Z m H p v
 | [],_,_,e=>nomatch e
 | (j,q)::xs,_,h,e=>by
  simp only[RPd]at h;obtain⟨v,r,rfl,h2,h3⟩:=h;rw[Qn]at e ⊢
  split at e
  ·rename_i c;rw[if_pos c]
   cases e
   exact⟨v,rfl,h2⟩
  ·rename_i c;rw[if_neg c];exact RPd.val h3 e
theorem RPd.val_none{k:PyData}:∀ {kvs:List (PyData×PyData)} {vs:List (PyData×V)},RPd K Z m H kvs vs->kN kvs k=none->kN vs k=none
 | [],_,h,_=>by simp only[RPd]at h;subst h;rfl
 | (j,q)::xs,_,h,e=>by
  simp only[RPd]at h;obtain⟨v,r,rfl,h2,h3⟩:=h;rw[Qn]at e ⊢
  split at e
  ·cases e
  ·rename_i c;rw[if_neg c];exact RPd.val_none h3 e
theorem RPd.keys:∀ {kvs:List (PyData×PyData)} {vs:List (PyData×V)},RPd K Z m H kvs vs->vs.map (·.1)=kvs.map (·.1)
 | [],_,h=>by simp only[RPd]at h;subst h;rfl
 | (j,q)::xs,_,h=>by
  simp only[RPd]at h;obtain⟨v,r,rfl,h2,h3⟩:=h;rw[aq,aq,RPd.keys h3]
end
end DL
namespace DL
open PySem PySem.Spec PyProof.Rows L2
section
variable {X:Cx}{pins:List (Addr×Obj)}{σ:L2.St}{H:Hp}{s:Shared}
mutual
theorem NKV.rp{K:ac}{Z:Addr->Prop}{m:Mu}:∀ (p:PyData) (v:V),NKV K H p v->RP K Z m H p v
 | .int _,_,h=>by simp only[NKV]at h;simp only[RP];exact h
 | .str _,_,h=>by simp only[NKV]at h;simp only[RP];exact h
 | .tuple xs,_,h=>by
  simp only[NKV]at h;simp only[RP];obtain⟨a,vs,e,h1,h2⟩:=h;exact⟨a,vs,e,h1,NKVs.rp xs vs h2⟩
 | .none,_,h | .bool _,_,h | .list _,_,h | .dict _,_,h=>by simp only[NKV]at h
theorem NKVs.rp{K:ac}{Z:Addr->Prop}{m:Mu}:∀ (ps:List PyData) (vs:List V),NKVs K H ps vs->RPs K Z m H ps vs
 | [],_,h=>by simp only[NKVs]at h;simp only[RPs];exact h
 | p::ps,_,h=>by
  simp only[NKVs]at h;simp only[RPs];obtain⟨v,r,e,h1,h2⟩:=h;exact⟨v,r,e,NKV.rp p v h1,NKVs.rp ps r h2⟩
end
end
section
variable {X:Cx}{a tg:Expr}{f:DE}
theorem Ok.fd{K:ac}{Z:Addr->Prop}{m:Mu}{H:Hp}{a:Addr}{xs:List (bF×PyData)}(ok:Ok K Z m H)(h:m a=some (.fd xs)):∃ ob vs,H a=some (.frz ob (.dK vs))/\RKV K Z m H xs vs:=by
 obtain⟨o,h1,h2⟩:=ok.g a _ h
 cases o with
 | frz ob u=>cases u<;>first | exact⟨_,_,h1,h2⟩ | exact h2.elim
 | _=>exact h2.elim
end
end DL
namespace DL
open PySem PySem.Spec PyProof.Rows L2
mutual
theorem Kk{h h':Heap}(hk:∀ b o,h.get? b=some o->h'.get? b=some o):∀ (p:PyData) (v:Value) (as:List Addr),L2.isK p=true->Reads h v p as->Reads h' v p as
 | .int _,_,_,_,r=>by cases r;exact .int _ _
 | .str _,_,_,_,r=>by cases r;exact .str _ _
 | .tuple xs,_,_,hi,r=>by
  cases r with
  | tuple h1 h2 h3 h4=>exact .tuple (hk _ _ h1) h2 h3 (readsAll_old hk xs _ _ hi h4)
 | .none,_,_,h,_ | .bool _,_,_,h,_ | .list _,_,_,h,_ | .dict _,_,_,h,_=>by simp[L2.isK]at h
theorem readsAll_old{h h':Heap}(hk:∀ b o,h.get? b=some o->h'.get? b=some o):∀ (ps:List PyData) (vs:List Value) (as:List Addr),L2.isKs ps=true->ReadsAll h vs ps as->ReadsAll h' vs ps as
 | [],_,_,_,r=>by cases r;exact .nil
 | x::xs,_,_,hi,r=>by
  simp only[L2.isKs,Bool.and_eq_true]at hi
  cases r with
  | cons r1 r2=>exact .cons (Kk hk x _ _ hi.1 r1) (readsAll_old hk xs _ _ hi.2 r2)
end
section
variable {prog:Program}{w:World}{A:Around}{E:Value->Shared->Prop}{s:Shared}
theorem X6{h h':Heap}{k:List PyData}{a:Addr}(hk:∀ b o,h.get? b=some o->h'.get? b=some o)(x:(mG prog w).is h k a):(mG prog w).is h' k a:=by
 obtain⟨k1,k2,as,r⟩:=x;exact⟨k1,k2,as,Kk hk _ _ _ k1 r⟩
def Nj(acc r:List (List PyData×Addr×Value)):List (List PyData×Addr×Value):=r.foldl (fun acc kv=>storedH acc kv.1 kv.2.1 kv.2.2) acc
def RawN(prog:Program)(w:World)(hb h:Heap)(d:Addr)(xs:List (List PyData×Addr×Value)):Prop :=
 (∃ o es ep,h.get? d=some o/\o.ExactDict/\o.data=.dict es ep/\es.toList=xs.map (entryOfKey (mG prog w))/\(xs.map (·.1)).Nodup)/\∀ x∈xs,(mG prog w).is hb x.1 x.2.1
theorem RawN.of{hb h:Heap}{d:Addr}{xs:List (List PyData×Addr×Value)}(r:RawN prog w hb h d xs)(hk:∀ b o,hb.get? b=some o->h.get? b=some o):h.DictOfH (mG prog w) d xs:=by
 obtain⟨⟨o,es,ep,h1,h2,h3,h4,h5⟩,h6⟩:=r;exact⟨o,es,ep,h1,h2,h3,h4,fun x hx=>X6 hk (h6 x hx),h5⟩
theorem RawN.at{hb h h':Heap}{d:Addr}{xs:List (List PyData×Addr×Value)}(r:RawN prog w hb h d xs)(hk:∀ o,h.get? d=some o->h'.get? d=some o):RawN prog w hb h' d xs:=by
 obtain⟨⟨o,es,ep,h1,rest⟩,h6⟩:=r;exact⟨⟨o,es,ep,hk _ h1,rest⟩,h6⟩
end
section
variable {K:ac}{Z:Addr->Prop}{m:Mu}{H:Hp}
def Se(acc:List (List PyData×D))(r:List (List PyData×PyData)):List (List PyData×D):=r.foldl (fun acc kv=>qF acc kv.1 (.dat kv.2)) acc
def pP(acc:List (List PyData×V))(r:List (List PyData×V)):List (List PyData×V):=r.foldl (fun acc kv=>eG acc kv.1 kv.2) acc
abbrev R0(kvs:List (List PyData×PyData)):List (List PyData×D):=kvs.map fun kv=>(kv.1,D.dat kv.2)
theorem RKW.puts:∀ {r:List (List PyData×PyData)} {ws:List (List PyData×V)} {acc:List (List PyData×D)} {aw:List (List PyData×V)},RKW K Z m H acc aw->RKW K Z m H (R0 r) ws->RKW K Z m H (Se acc r) (pP aw ws)
 | [],ws,acc,aw,ha,hr=>by
  cases (show ws=[] from hr)
  exact ha
 | (k,p)::r,_,acc,aw,ha,⟨v,ws,h1,h2,h3⟩=>by
  subst h1;show RKW K Z m H (Se (qF acc k (.dat p)) r) (pP (eG aw k v) ws)
  exact RKW.puts (ha.put h2) h3
theorem KN.puts{ws:List (List PyData×V)}{xs:List (List PyData×Addr×Value)}(t:KN K H ws xs):∀ {aw:List (List PyData×V)} {ax:List (List PyData×Addr×Value)},KN K H aw ax->KN K H (pP aw ws) (Nj ax xs):=by
 induction t with
 | nil=>exact fun ha=>ha
 | @cons p q ps qs h t ih =>
  intro aw ax ha;obtain⟨h1,h2,h3⟩:=h;have:=KN.put ha p.1 (b:=q.2.1) h2 h3
  show KN K H (pP (eG aw p.1 p.2) ps) (Nj (storedH ax q.1 q.2.1 q.2.2) qs)
  rw[<- h1];exact ih this
end
end DL
namespace DL
open PySem PySem.Spec PyProof.Rows L2
def hZ(z:Int):Nat:=z.toNat%8
def vP(r:Nat):Nat:=(5*r+1)%8
def sl2:List Int->List Nat
 | [a,b]=>if hZ a≠hZ b then [hZ a,hZ b] else if hZ a<vP (hZ a) then [hZ a,vP (hZ a)] else [vP (hZ a),hZ a]
 | zs=>zs.map hZ
def ok2(a b:Int):Bool:=decide (a≠b)&&(match sl2 [a,b] with | [i,j]=>decide (i<j) | _=>false)
end DL
namespace DL
open PySem PySem.W PyProof.Rows
section
variable {α β:Type}{n:Nat}{lt:Nat->Nat->Bool}
structure Ord (lt:Nat->Nat->Bool):Prop where
 irr:∀ a,lt a a=false
 tr:∀ {a b c},lt a b=true->lt b c=true->lt a c=true
 neg:∀ {a b c},lt a c=true->lt a b=true\/lt b c=true
theorem Ord.le_tr(O:Ord lt){a b c:Nat}(h1:lt b a=false)(h2:lt c b=false):lt c a=false:=by
 cases e:lt c a with
 | false=>rfl
 | true=>rcases O.neg (b:=b) e with h | h<;>simp_all
def Srt(lt:Nat->Nat->Bool)(p:Array Nat)(k:Nat):Prop:=∀ i j,i<j->j<k->lt (p.getD j 0) (p.getD i 0)=false
def EqR(lt:Nat->Nat->Bool)(p:Array Nat)(m q:Nat):Prop:=∀ i j,m-(q+1)<=i->i<m->m-(q+1)<=j->j<m->lt (p.getD i 0) (p.getD j 0)=false
def Pm(n:Nat)(p:Array Nat):Prop:=p.toList.Perm (List.range n)
theorem Pm.size{p:Array Nat}(h:Pm n p):p.size=n:=by have:=h.length_eq;simpa using this
theorem Pm.at{p:Array Nat}(h:Pm n p)(hn:1<=n)(i:Nat):p.getD i 0<n:=by
 by_cases hi:i<p.size
 ·have:p.getD i 0∈p.toList:=by
   rw[Array.getD,dif_pos hi];exact Array.getElem_mem_toList hi
  exact List.mem_range.mp (h.mem_iff.mp this)
 ·rw[Array.getD,dif_neg hi];omega
variable (O:Ord lt)
include O
theorem Srt.snoc{p:Array Nat}{a:Nat}(h:Srt lt p a)(h1:1<=a)(hl:lt (p.getD a 0) (p.getD (a-1) 0)=false):Srt lt p (a+1):=by
 intro i j hi hj
 by_cases e:j<a
 ·exact h i j hi e
 ·obtain rfl:j=a:=by omega
  by_cases e2:i=j-1
  ·subst e2;exact hl
  ·exact O.le_tr (h i (j-1) (by omega) (by omega)) hl
theorem EqR.one{p:Array Nat}{m:Nat}:EqR lt p m 0:=by
 intro i j h1 h2 h3 h4;obtain rfl:i=j:=by omega
 exact O.irr _
end
end DL
namespace DL
open PySem PySem.Spec PyProof.Rows L2
def Ax(name:Str)(F:Str->Str->Str):Prop:=∀ {prog:Program} {w:World} {A:Around} {E:Value->Shared->Prop} {s:Shared} {x:Str} {t:Tok} {pos:Pos} {a:Sem Value} {Q:Value->Shared->Prop},
   wpAny (model prog w) A a (fun v s₁=>∃ y u,v=.str y u/\∀ t' k,Q (.str (F x y) t') {s₁ with toks:=k}) E s->x.length<=sizeLine->MethodOnS prog w A E name (.str x t) pos [(false,a)] Q s
theorem Vs:Ax "removeprefix" Txt.removeprefix:=fun h hx=>SB.removeprefix h hx
@[simp] def tJ(F:Str->Str->Str)(f g:DE):DE:=fun d m Q=>f d m fun x m1=>∃ z:Str,x=.dat (.str z)/\z.length<=sizeLine/\g d m1 fun y m2=>∃ z2:Str,y=.dat (.str z2)/\Q (.dat (.str (F z z2))) m2
section
variable {X:Cx}{o e:Expr}{f g:DE}{apos cpos:Pos}
theorem Z0{name:Str}{F:Str->Str->Str}(hM:Ax name F)(ho:PE X o (LE X.K f))(he:PE X e (LE X.K g))(hbase:attributeBase o name X.env (eval o X.env)=eval o X.env:=by rfl)
  (hs:starEach [e] X.env=[(false,eval e X.env)]:=by rfl) (hline:(apos.endLine==cpos.line)=true:=by rfl):PE X (.Call (.Attribute o name apos) [e] [] cpos) (LE X.K (tJ F f g)):=by
 intro pins s σ H Q I h;obtain⟨Z,d,m,R,ok,rs,h,k⟩:=h;refine Call_method1 hbase hs hline (aP (ho pins s σ H (fun v H1=>∃ z:Str,v=.str z/\z.length<=sizeLine/\LE X.K g σ H1 fun v2 H2=>∃ y:Str,v2=.str y/\Q (.str (F z y)) H2) I ⟨Z,d,m,_,ok,rs,h,fun x m1 v H1 ⟨z,ex,hz,hq⟩ e1 ok1 r1=>?_⟩) fun v s1 ⟨x,H1,I1,rx,z,ex,hz,q1⟩=>?_)
 ·subst ex
  cases r1.str
  refine⟨z,rfl,hz,Z,d,m1,_,ok1,rs.ext e1,hq,fun y m2 v2 H2 ⟨yy,ey,q⟩ e2 ok2 r2=>?_⟩;subst ey
  cases r2.str
  exact⟨yy,rfl,k _ m2 _ H2 q (e1.trans e2) ok2 .ofStr⟩
 ·subst ex;obtain⟨t,rfl⟩:=rx;refine hM (aP (he pins s1 σ H1 _ I1 q1) fun v2 s2 ⟨x2,H2,I2,rx2,y,ey,q2⟩=>?_) hz;subst ey;obtain⟨u,rfl⟩:=rx2;exact⟨y,u,rfl,fun t' k'=>⟨.str _,H2,I2.tok _,⟨_,rfl⟩,q2⟩⟩
end
theorem EJ(x y:Str)(t u:Tok)(hy:(y.length==0)=false)(hsz:x.length<=sizeLine):Meets (Builtin.«str.partition» ⟨[.str x t,.str y u],[]⟩) (fun _ R s =>
  ∀ t1 t2 t3 k,R (.ok (.ret (.ref s.heap.objs.size))) {s with toks:=k,heap:=s.heap.push {cls:=.type "tuple",data:=.seq [.str (Txt.partition x y).1 t1,.str (Txt.partition x y).2.1 t2,.str (Txt.partition x y).2.2 t3].toArray}}):=by
 obtain⟨raising,ht⟩:=partition_tree x y t u;refine .of_wp fun prog w A R s h=>?_;rw[ht,hy];unfold Txt.partition at h;simp only[Bool.false_eq_true,if_false]
 revert h
 cases Builtin.Str.occurrences x y 0 x.length 1 with
 | nil=>exact fun h=>ad (wpAny_rule (ad (wpAny_mkStr (ad (wpAny_newTuple (ae ⟨_,rfl,h _ _ _ _⟩) (by show 3<=sizeLine;decide))) (by decide))))
 | cons i r=>exact fun h=>ad (wpAny_mkStr (ad (wpAny_mkStr (ad (wpAny_newTuple (ae ⟨_,rfl,h _ _ _ _⟩) (by show 3<=sizeLine;decide))) (Nat.le_trans (strSub_length_le ..) hsz))) (Nat.le_trans (strSub_length_le ..) hsz))
section
variable {X:Cx}{o e:Expr}{f g:DE}{apos cpos:Pos}
theorem Ye{prog:Program}{w:World}{A:Around}{E:Value->Shared->Prop}{s:Shared}{x:Str}{t:Tok}{pos:Pos}{a:Sem Value}{Q:Value->Shared->Prop}(hx:x.length<=sizeLine)
  (h:wpAny (model prog w) A a (fun v s₁=>∃ y u,v=.str y u/\(y.length==0)=false/\∀ t1 t2 t3 k,Q (.ref s₁.heap.objs.size) {s₁ with toks:=k,heap:=s₁.heap.push {cls:=.type "tuple",data:=.seq [.str (Txt.partition x y).1 t1,.str (Txt.partition x y).2.1 t2,.str (Txt.partition x y).2.2 t3].toArray}}) E s) :
  MethodOnS prog w A E "partition" (.str x t) pos [(false,a)] Q s :=
 ⟨"str",_,PySem.F.plainAttrs_str,PySem.F.slot_str_partition,PySem.F.type_str_partition,typeIs_str _ _ _,(fun _ e=>nomatch e),method1_meets PySem.F.slot_str_partition PySem.F.entry_str_partition (aP h fun v s1 ⟨y,u,ev,hy,q⟩=>by
  subst ev;exact⟨typeIs_str _ _ _,PySem.F.args_str_partition_2 _ _,_,EJ x y t u hy hx,q⟩)⟩
@[simp] def Ak(f g:DE):DE:=fun d m Q=>f d m fun x m1=>∃ z:Str,x=.dat (.str z)/\z.length<=sizeLine/\g d m1 fun y m2=>∃ z2:Str,y=.dat (.str z2)/\(z2.length==0)=false/\Q (.dat (.tuple [.str (Txt.partition z z2).1,.str (Txt.partition z z2).2.1,.str (Txt.partition z z2).2.2])) m2
theorem X4(ho:PE X o (LE X.K f))(he:PE X e (LE X.K g))(hbase:attributeBase o "partition" X.env (eval o X.env)=eval o X.env:=by rfl)
  (hs:starEach [e] X.env=[(false,eval e X.env)]:=by rfl) (hline:(apos.endLine==cpos.line)=true:=by rfl):PE X (.Call (.Attribute o "partition" apos) [e] [] cpos) (LE X.K (Ak f g)):=by
 intro pins s σ H Q I h;obtain⟨Z,d,m,R,ok,rs,h,k⟩:=h;refine Call_method1 hbase hs hline (aP (ho pins s σ H (fun v H1=>∃ z:Str,v=.str z/\z.length<=sizeLine/\LE X.K g σ H1 fun v2 H2=>∃ y:Str,v2=.str y/\(y.length==0)=false/\∀ p,H2 p=none->Q (.ref p) (upd H2 p (.tup [.str (Txt.partition z y).1,.str (Txt.partition z y).2.1,.str (Txt.partition z y).2.2]))) I ⟨Z,d,m,_,ok,rs,h,fun x m1 v H1 ⟨z,ex,hz,hq⟩ e1 ok1 r1=>?_⟩) fun v s1 ⟨x,H1,I1,rx,z,ex,hz,q1⟩=>?_)
 ·subst ex
  cases r1.str
  refine⟨z,rfl,hz,Z,d,m1,_,ok1,rs.ext e1,hq,fun y m2 v2 H2 ⟨yy,ey,hy,q⟩ e2 ok2 r2=>?_⟩;subst ey
  cases r2.str
  refine⟨yy,rfl,hy,fun p hp=>?_⟩;have sm:Same H2 (upd H2 p (.tup [.str (Txt.partition z yy).1,.str (Txt.partition z yy).2.1,.str (Txt.partition z yy).2.2])):=dM hp
  refine k _ m2 _ _ q ((e1.trans e2).trans (ok2.ext sm)) (ok2.grow sm) ?_;simp only[RD,RP];refine⟨p,_,rfl,.inl (.inl dS),?_⟩;simp only[RPs,RP];exact⟨_,_,rfl,rfl,_,_,rfl,rfl,_,_,rfl,rfl,rfl⟩
 ·subst ex;obtain⟨t,rfl⟩:=rx;refine Ye hz (aP (he pins s1 σ H1 _ I1 q1) fun v2 s2 ⟨x2,H2,I2,rx2,y,ey,hy,q2⟩=>?_);subst ey;obtain⟨u,rfl⟩:=rx2;refine⟨y,u,rfl,hy,fun t1 t2 t3 k'=>⟨.ref s2.heap.objs.size,_,I2.laid (t':=k') (fun b u e=>ag _ e) (aj _) ?_,rfl,q2 _ I2.fresh⟩⟩;exact⟨⟨by show 3<=sizeLine;decide,NoD.new _ _ _⟩,_,.cons ⟨_,rfl⟩ (.cons ⟨_,rfl⟩ (.cons ⟨_,rfl⟩ .nil)),⟨_,ah _ rfl,rfl,_,rfl⟩⟩
theorem w5{prog:Program}{w:World}{A:Around}{E:Value->Shared->Prop}{s:Shared}{x:Str}{t:Tok}{pos:Pos}{a:Sem Value}{Q:Value->Shared->Prop}(hx:x.length<=1048576)
  (h:wpAny (model prog w) A a (fun v s₁=>∃ y u,v=.str y u/\(y.length==0)=false/\∀ l k,l.map (·.1)=Txt.split x y->Q (.ref s₁.heap.objs.size) {s₁ with toks:=k,heap:=s₁.heap.push {cls:=.type "list",data:=.seq (strValues l).toArray}}) E s) :
  MethodOnS prog w A E "split" (.str x t) pos [(false,a)] Q s:=by
 refine⟨"str",_,PySem.F.plainAttrs_str,PySem.F.slot_str_split,PySem.F.type_str_split,typeIs_str _ _ _,(fun _ e=>nomatch e),method1_meets PySem.F.slot_str_split PySem.F.entry_str_split (aP h fun v s1 ⟨y,u,ev,hy,q⟩=>?_)⟩;subst ev;refine⟨typeIs_str _ _ _,PySem.F.args_str_split_2 _ _,?_⟩;have hn:(Builtin.Str.partsBetween x (Builtin.Str.occurrences x y 0 x.length (x.length+1)) y.length).length<=sizeLine:=by
  have:=StrLaws.occ_length_le_len x y 0 x.length (x.length+1)
  unfold Builtin.Str.partsBetween;simp only[ar,List.length_zip,List.length_cons,List.length_append,List.length_nil];exact Nat.le_trans (Nat.min_le_left _ _) (Nat.le_trans (by omega:_<=1048578) (by decide))
 cases c1:(decide (x.length<y.length)||decide (Builtin.Str.strKind x<Builtin.Str.strKind y)) with
 | true=>exact⟨_,meets_str_split_cannot_occur x y t u c1,q [(x,t)] _ (by unfold Txt.split;rw[if_pos c1];rfl)⟩
 | false =>
  cases c2:(Builtin.Str.occurrences x y 0 x.length (x.length+1)).isEmpty with
  | true=>exact⟨_,meets_str_split_not_found x y t u c1 hy c2,q [(x,t)] _ (by unfold Txt.split;rw[if_neg (by rw[c1];decide),if_pos c2];rfl)⟩
  | false =>
   refine⟨_,meets_str_split_sep x y t u c1 hy c2 (Nat.le_trans hx (by decide)) hn,?_⟩
   have q':=q (numbered s1.toks (Builtin.Str.partsBetween x (Builtin.Str.occurrences x y 0 x.length (x.length+1)) y.length)) (s1.toks+(Builtin.Str.partsBetween x (Builtin.Str.occurrences x y 0 x.length (x.length+1)) y.length).length) (by rw[numbered_texts];unfold Txt.split;rw[if_neg (by rw[c1];decide),if_neg (by rw[c2];decide)])
   rw[<- strsFrom_eq]at q';exact q'
theorem Pn:∀ l:List (Str×Tok),Vals ((l.map (·.1)).map V.str) (strValues l)
 | []=>.nil
 | (x,t)::r=>.cons ⟨t,rfl⟩ (Pn r)
theorem Fc{K:ac}{Z:Addr->Prop}{m:Mu}{H:Hp}:∀ zs:List Str,RPs K Z m H (zs.map PyData.str) (zs.map V.str)
 | []=>by simp only[List.map_nil,RPs]
 | z::zs=>by
  simp only[aq,RPs,RP];exact⟨_,_,rfl,rfl,Fc zs⟩
@[simp] def pB(f g:DE):DE:=fun d m Q=>f d m fun x m1=>∃ z:Str,x=.dat (.str z)/\z.length<=1048576/\g d m1 fun y m2=>∃ z2:Str,y=.dat (.str z2)/\(z2.length==0)=false/\(Txt.split z z2).length<=sizeLine/\Q (.dat (.list ((Txt.split z z2).map .str))) m2
theorem L8(ho:PE X o (LE X.K f))(he:PE X e (LE X.K g))(hbase:attributeBase o "split" X.env (eval o X.env)=eval o X.env:=by rfl)
  (hs:starEach [e] X.env=[(false,eval e X.env)]:=by rfl) (hline:(apos.endLine==cpos.line)=true:=by rfl):PE X (.Call (.Attribute o "split" apos) [e] [] cpos) (LE X.K (pB f g)):=by
 intro pins s σ H Q I h;obtain⟨Z,d,m,R,ok,rs,h,k⟩:=h;refine Call_method1 hbase hs hline (aP (ho pins s σ H (fun v H1=>∃ z:Str,v=.str z/\z.length<=1048576/\LE X.K g σ H1 fun v2 H2=>∃ y:Str,v2=.str y/\(y.length==0)=false/\(Txt.split z y).length<=sizeLine/\∀ p,H2 p=none->Q (.ref p) (upd H2 p (.lst ((Txt.split z y).map V.str)))) I ⟨Z,d,m,_,ok,rs,h,fun x m1 v H1 ⟨z,ex,hz,hq⟩ e1 ok1 r1=>?_⟩) fun v s1 ⟨x,H1,I1,rx,z,ex,hz,q1⟩=>?_)
 ·subst ex
  cases r1.str
  refine⟨z,rfl,hz,Z,d,m1,_,ok1,rs.ext e1,hq,fun y m2 v2 H2 ⟨yy,ey,hy,hl,q⟩ e2 ok2 r2=>?_⟩;subst ey
  cases r2.str
  refine⟨yy,rfl,hy,hl,fun p hp=>?_⟩;have sm:Same H2 (upd H2 p (.lst ((Txt.split z yy).map V.str))):=dM hp
  refine k _ m2 _ _ q ((e1.trans e2).trans (ok2.ext sm)) (ok2.grow sm) ?_;simp only[RD,RP];exact⟨p,_,rfl,fH ok2 hp,.inl (.inl dS),Fc _⟩
 ·subst ex;obtain⟨t,rfl⟩:=rx;refine w5 hz (aP (he pins s1 σ H1 _ I1 q1) fun v2 s2 ⟨x2,H2,I2,rx2,y,ey,hy,hl,q2⟩=>?_);subst ey;obtain⟨u,rfl⟩:=rx2;refine⟨y,u,rfl,hy,fun l k' hl'=>⟨.ref s2.heap.objs.size,_,I2.lnew (t':=k') (ys:=(Txt.split z y).map V.str) (its:=strValues l) (by rw[<- hl'];exact Pn l) (by rw[ar];exact hl),rfl,q2 _ I2.fresh⟩⟩
end
@[simp] def pE:DC
 | [.dat (.int i)],m,Q=>Q (.dat (.int i)) m
 | [.dat (.bool b)],m,Q=>Q (.dat (.int (if b then 1 else 0))) m
 | [.dat (.str z)],m,Q=>z.length<=640/\∃ n,PySem.intText? z=some n/\Q (.dat (.int n)) m
 | _,_,_=>False
theorem Rb{X:Cx}:CallD X (.type "int") pE:=by
 intro pins s σ H Z m xs ds us R Q I ok rv rd h k;unfold pE at h
 split at h
 ·obtain⟨v,rfl,r1⟩:=rd.one
  cases r1.int
  exact oH pins s σ H _ us Q I rv (.inl ⟨_,rfl,k _ m _ H h Ext.refl ok .ofInt⟩)
 ·obtain⟨v,rfl,r1⟩:=rd.one
  cases r1.bl
  exact oH pins s σ H _ us Q I rv (.inr ⟨_,rfl,k _ m _ H h Ext.refl ok .ofInt⟩)
 ·obtain⟨v,rfl,r1⟩:=rd.one
  cases r1.str
  obtain⟨hz,n,hn,q⟩:=h;obtain⟨u,rfl,t,rfl⟩:=eD rv;exact PySem.W.KIN.call_text hn hz ⟨.int n,H,I.tok _,⟨_,rfl⟩,k _ m _ H q Ext.refl ok .ofInt⟩
 ·exact h.elim
@[simp] def fN(f:DE):DE:=fun d m Q=>f d m fun x m1=>(∃ i:Int,x=.dat (.int i)/\i.natAbs.log2<1920/\Q (.dat (.str (toString i))) m1)\/(∃ z:Str,x=.dat (.str z)/\z.length<=sizeLine/\Q (.dat (.str z)) m1)
@[simp] def gV:Str->List DE->DE
 | acc,[]=>fun _ m Q=>Q (.dat (.str acc)) m
 | acc,f::fs=>fun d m Q=>f d m fun x m1=>∃ z:Str,x=.dat (.str z)/\(acc++z).length<=sizeLine/\gV (acc++z) fs d m1 Q
section
variable {X:Cx}{e:Expr}{f:DE}{pos:Pos}
theorem Vt(he:PE X e (LE X.K f)):PE X (.FormattedValue e (-1) none pos) (LE X.K (fN f)):=by
 intro pins s σ H Q I h;obtain⟨Z,d,m,R,ok,rs,h,k⟩:=h;refine wpAny_FormattedValue_plain (aP (he pins s σ H (fun v H1=>(∃ i:Int,v=.int i/\i.natAbs.log2<1920/\Q (.str (toString i)) H1)\/(∃ z:Str,v=.str z/\z.length<=sizeLine/\Q (.str z) H1)) I ⟨Z,d,m,_,ok,rs,h,fun x m1 v H1 hx e1 ok1 r1=>?_⟩) fun v s1 ⟨x,H1,I1,rx,hx⟩=>?_)
 ·rcases hx with⟨i,rfl,hi,q⟩ | ⟨z,rfl,hz,q⟩
  ·cases r1.int
   exact .inl ⟨i,rfl,hi,k _ m1 _ H1 q e1 ok1 .ofStr⟩
  ·cases r1.str
   exact .inr ⟨z,rfl,hz,k _ m1 _ H1 q e1 ok1 .ofStr⟩
 ·rcases hx with⟨i,rfl,hi,q⟩ | ⟨z,rfl,hz,q⟩
  ·obtain⟨t,rfl⟩:=rx;exact wpAny_formatField_int hi ⟨.str _,H1,I1.tok _,⟨_,rfl⟩,q⟩
  ·obtain⟨t,rfl⟩:=rx;exact wpAny_formatField_str ⟨.str z,H1,I1,⟨_,rfl⟩,q⟩ ⟨.str z,H1,I1.tok _,⟨_,rfl⟩,q⟩ hz
inductive PJ (X:Cx):List Expr->List DE->Prop
 | nil:PJ X [] []
 | cons {e:Expr} {f:DE} {es:List Expr} {fs:List DE} (h:PE X e (LE X.K f)) (r:PJ X es fs):PJ X (e::es) (f::fs)
theorem BM:PJ X [] []:=.nil
theorem D6{es:List Expr}{fs:List DE}(h:PE X e (LE X.K f))(r:PJ X es fs):PJ X (e::es) (f::fs):=.cons h r
theorem C6{es:List Expr}{fs:List DE}(h:PJ X es fs):∀ {acc:Str} {pins:List (Addr×Obj)} {s:Shared} {σ:L2.St} {H:Hp} {Q:VK},Inv X pins σ H s->LE X.K (gV acc fs) σ H Q->acc.length<=sizeLine ->
  Joins (model X.prog X.w) X.A X.xe (evalEach es X.env) acc (fun out s1=>∃ H1,Inv X pins σ H1 s1/\out.length<=sizeLine/\Q (.str out) H1) s:=by
 induction h with
 | nil =>
  intro acc pins s σ H Q I h hz;obtain⟨Z,d,m,R,ok,rs,h,k⟩:=h;exact⟨H,I,hz,k (.dat (.str acc)) m (.str acc) H h Ext.refl ok .ofStr⟩
 | cons he r ih =>
  rename_i e f es fs;intro acc pins s σ H Q I h hz;obtain⟨Z,d,m,R,ok,rs,h,k⟩:=h;show wpAny _ _ (eval e X.env) _ _ _
  refine aP (he pins s σ H (fun v H1=>∃ z:Str,v=.str z/\(acc++z).length<=sizeLine/\LE X.K (gV (acc++z) fs) σ H1 Q) I ⟨Z,d,m,_,ok,rs,h,fun x m1 v H1 ⟨z,ex,hl,q⟩ e1 ok1 r1=>?_⟩) fun v s1 ⟨x,H1,I1,rx,z,ex,hl,q1⟩=>?_
  ·subst ex
   cases r1.str
   exact⟨z,rfl,hl,Z,d,m1,R,ok1,rs.ext e1,q,fun y m2 v2 H2 q2 e2 ok2 r2=>k y m2 v2 H2 q2 (e1.trans e2) ok2 r2⟩
  ·subst ex;obtain⟨t,rfl⟩:=rx;exact⟨z,t,rfl,hl,ih I1 q1 hl⟩
theorem Og{M:Model}{A:Around}{E:Value->Shared->Prop}{Q R:Str->Shared->Prop}(h:∀ x s,Q x s->R x s):∀ (ps:List (Sem Value)) (acc:Str) (s:Shared),Joins M A E ps acc Q s->Joins M A E ps acc R s
 | [],acc,s,j=>h acc s j
 | p::ps,acc,s,j=>aP j fun v s1 ⟨y,t,e,hl,q⟩=>⟨y,t,e,hl,Og h ps _ s1 q⟩
theorem j8{e2:Expr}{es:List Expr}{fs:List DE}(h:PJ X (e::e2::es) fs):PE X (.JoinedStr (e::e2::es) pos) (LE X.K (gV Str.empty fs)):=fun pins s σ H Q I q =>
 wpAny_JoinedStr (Og (fun out s1 ⟨H1,I1,hz,q1⟩=>⟨hz,.str out,H1,I1.tok _,⟨_,rfl⟩,q1⟩) _ _ _ (C6 h I q (by decide)))
theorem BY(h:PE X e (LE X.K f)):PE X (.JoinedStr [e] pos) (LE X.K f):=fun pins s σ H Q I q=>wpAny_JoinedStr_one (h pins s σ H Q I q)
end
end DL
namespace DL
open PySem PySem.Spec PyProof.Rows L2
section
variable {X:Cx}{st:Stmt}{o e:Expr}{f g:DE}{p apos cpos:Pos}
@[simp] def eU:DS:=fun _ _ _=>False
theorem DN:PS X st (LS X.K eU):=by
 intro pins s σ H Q I h;obtain⟨Z,d,m,R,ok,rs,h,k⟩:=h;exact h.elim
def K5(K:ac):V->List V->Hp->VK->Prop:=fun x xs H Q=>∃ (z:Str) (a:Addr) (zs:List Str),x=.str z/\xs=[.ref a]/\SqT K H a (zs.map V.str)/\z.length<=16/\(zs.map (·.length)).sum+zs.length<=1048576/\Q (.str (Txt.join z zs)) H
theorem EK:MtR X "str.join" (K5 X.K):=by
 intro pins s σ H x xs v us Q I rx rs ⟨z,a,zs,e1,e2,hq,h1,h2,q⟩;subst e1 e2;obtain⟨t,rfl⟩:=rx;obtain⟨u,rfl,ru⟩:=eD rs
 cases ru
 obtain⟨its,r',pl,hz⟩:=I.tuple hq;exact join_tupleW pl (pS r') h1 h2 fun t' k=>⟨.str _,H,I.tok _,⟨_,rfl⟩,q⟩
@[simp] def yD(z:Str)(g:DE):DE:=fun d m Q=>g d m fun y m1=>∃ zs:List Str,y=.dat (.tuple (zs.map .str))/\z.length<=16/\(zs.map (·.length)).sum+zs.length<=1048576/\Q (.dat (.str (Txt.join z zs))) m1
theorem Xc{z:Str}{jc:Nat}(he:PE X e (LE X.K g))
  (hbase:attributeBase (.Constant (.str z) jc p) "join" X.env (eval (.Constant (.str z) jc p) X.env)=eval (.Constant (.str z) jc p) X.env:=by rfl)
  (hfew:((backTo cpos (starEach [e] X.env)).all (fun x=>!x.1)&&(backToKw cpos (keywordEach [] X.env)).all (fun x=>x.1.isSome)&&decide ([e].length+([]:List Keyword).length+(if ([]:List Keyword).isEmpty then 0 else 1)<30))=true:=by rfl)
  (hline:(apos.endLine==cpos.line)=true:=by rfl) (hs:starEach [e] X.env=(false,eval e X.env)::starEach [] X.env:=by rfl):PE X (.Call (.Attribute (.Constant (.str z) jc p) "join" apos) [e] [] cpos) (LE X.K (yD z g)) :=
 PE.imp (wZ (T:="str") (id:="str.join") (name:="join") PySem.F.plainAttrs_str PySem.F.slot_str_join PySem.F.type_str_join EK zC (gU he iV hs) hbase hfew hline hs rfl) fun s H Q h=>by
  obtain⟨Z,d,m,R,ok,rs,h,k⟩:=h;refine⟨rfl,?_⟩;refine⟨Z,d,m,_,ok,rs,h,fun y m1 v H1 ⟨zs,ey,h1,h2,q⟩ e1 ok1 rd=>?_⟩;subst ey;simp only[RD,RP]at rd;obtain⟨a,vs,rfl,hq,hr⟩:=rd
  cases fX hr
  exact⟨z,a,zs,rfl,rfl,hq,h1,h2,k _ m1 _ H1 q e1 ok1 .ofStr⟩
@[simp] def yQ(f:DE):DE:=fun d m Q=>f d m fun x m1=>∃ c xs,x=.cel c/\m1 c=some (.l xs)/\Q (.dat .none) (bW m1 c (.l []))
theorem O7(ho:PE X o (LE X.K f))(hbase:attributeBase o "clear" X.env (eval o X.env)=eval o X.env:=by rfl)(hline:(apos.endLine==cpos.line)=true:=by rfl) :
  PE X (.Call (.Attribute o "clear" apos) [] [] cpos) (LE X.K (yQ f)) :=
 PE.imp (D5 (T:="list") (id:="list.clear") (name:="clear") PySem.F.plainAttrs_list PySem.F.slot_list_clear PySem.F.type_list_clear Vh ho hbase hline) fun s H Q h=>by
  obtain⟨Z,d,m,R,ok,rs,h,k⟩:=h;refine⟨Z,d,m,_,ok,rs,h,fun x m1 v H1 ⟨c,xs,ex,hx,q⟩ e1 ok1 rd=>?_⟩;subst ex;obtain⟨rfl,hc⟩:=rd;obtain⟨vs0,g0,_⟩:=ok1.l hx;refine⟨.inl ⟨rfl,vs0,.inl (.inl g0)⟩,c,vs0,rfl,rfl,g0,?_⟩;refine k (.dat .none) (bW m1 c (.l [])) .non (upd H1 c (.lst [])) q (e1.trans (Ext.put ok1 hx g0)) (ok1.put hx g0 ?_) (by simp only[RD,RP])
  simp only[RC,RPs]
end
end DL
namespace DL
open PySem PySem.Spec PyProof.Rows L2
section
variable {X:Cx}{e:Expr}{f g:DE}
@[simp] def pR(f g:DE):DE:=fun d m Q=>f d m Q\/g d m Q
theorem j2(hf:PE X e (LE X.K f))(hg:PE X e (LE X.K g)):PE X e (LE X.K (pR f g)):=by
 intro pins s σ H Q I h;obtain⟨Z,d,m,R,ok,rs,h,k⟩:=h;rcases h with h | h
 ·exact hf pins s σ H Q I ⟨Z,d,m,R,ok,rs,h,k⟩
 ·exact hg pins s σ H Q I ⟨Z,d,m,R,ok,rs,h,k⟩
mutual
def fF:PyData->Bool
 | .tuple xs=>nlPs xs
 | .list _=>false
 | .dict _=>false
 | _=>true
def nlPs:List PyData->Bool
 | []=>true
 | x::xs=>fF x&&nlPs xs
end
mutual
theorem RP.nl{K:ac}{Z Z':Addr->Prop}{m m':Mu}{H:Hp}:∀ (p:PyData) (v:V),fF p=true->RP K Z m H p v->RP K Z' m' H p v
 | .none,v,_,h=>by simpa only[RP] using h
 | .bool _,v,_,h=>by simpa only[RP] using h
 | .int _,v,_,h=>by simpa only[RP] using h
 | .str _,v,_,h=>by simpa only[RP] using h
 | .tuple xs,v,n,h=>by
  simp only[RP]at h ⊢;obtain⟨a,vs,h1,h2,h3⟩:=h;exact⟨a,vs,h1,h2,RPs.nl xs vs (by simpa only[fF] using n) h3⟩
 | .list _,v,n,h=>by simp[fF]at n
 | .dict _,v,n,h=>by simp[fF]at n
theorem RPs.nl{K:ac}{Z Z':Addr->Prop}{m m':Mu}{H:Hp}:∀ (xs:List PyData) (vs:List V),nlPs xs=true->RPs K Z m H xs vs->RPs K Z' m' H xs vs
 | [],vs,_,h=>by simpa only[RPs] using h
 | x::xs,vs,n,h=>by
  simp only[nlPs,Bool.and_eq_true]at n;simp only[RPs]at h ⊢;obtain⟨v,r,h1,h2,h3⟩:=h;exact⟨v,r,h1,RP.nl x v n.1 h2,RPs.nl xs r n.2 h3⟩
end
@[simp] def c6:Option D->Option D
 | some (.cel _)=>none
 | x=>x
def nF(d:bS):bS:=d.map c6
@[simp] def mM(i:Nat)(f:DE):DE:=fun d m Q=>∃ a xs,d[i]?=some (some (.cel a))/\m a=some (.l xs)/\f ((nF d).set i (some (.dat (.list xs)))) (fun _=>none) fun x _=>∃ p,x=.dat p/\fF p=true/\Q x m
theorem g9{i:Nat}(he:PE X e (LE X.K f)):PE X e (LE X.K (mM i f)):=by
 intro pins s σ H Q I h;obtain⟨Z,d,m,R,ok,rs,⟨a,xs,ha,hm,h⟩,k⟩:=h;obtain⟨vs,g1,g2⟩:=ok.l hm;have nz:¬ Z a:=fun z=>by have:=(ok.z a z).1;rw[hm]at this;cases this
 let Y:Addr->Prop:=fun b=>Z b\/(b≠a/\(m b).isSome=true)
 have nY:¬ Y a:=fun z=>z.elim nz fun z=>z.1 rfl
 have nl:∀ b,(m b=none/\¬ Z b)->((fun _=>none:Mu) b=none/\¬ Y b):=fun b q=>⟨rfl,fun z=>z.elim q.2 fun z=>by rw[q.1]at z;cases z.2⟩
 have inn:∀ b (ws:List V),(m b=none/\¬ Z b)->SqL X.K H b ws->((fun _=>none:Mu) b=none/\¬ Y b)/\SqL X.K H b ws:=fun b ws q1 q2=>⟨nl b q1,q2⟩
 have okY:Ok X.K Y (fun _=>none) H:=⟨fun b c q=>(nomatch q),fun b q=>⟨rfl,by
  rcases q with q | ⟨_,q⟩
  ·exact(ok.z b q).2
  ·cases hb:m b with
   | none=>rw[hb]at q;cases q
   | some c =>
    obtain⟨o,q1,_⟩:=ok.g b c hb;rw[q1];exact fun z=>(nomatch z)⟩⟩
 refine he pins s σ H Q I ⟨Y,(nF d).set i (some (.dat (.list xs))),fun _=>none,_,okY,?_,h,fun x m' v H' ⟨p,ex,np,q⟩ e1 ok1 rx=>?_⟩
 ·obtain⟨hl,hr⟩:=rs;refine⟨by rw[List.length_set];unfold nF;rw[ar];exact hl,fun j x hj=>?_⟩
  by_cases e:j=i
  ·subst e;obtain⟨v,h1,h2⟩:=hr j _ ha;have hlt:j<d.length:=(List.getElem?_eq_some_iff.mp ha).1
   rw[List.getElem?_set_self (by unfold nF;rw[ar];exact hlt)]at hj
   cases hj
   refine⟨v,h1,?_⟩;obtain⟨rfl,_⟩:=h2;simp only[RD,RP];exact⟨a,vs,rfl,⟨trivial,nY⟩,.inl (.inl g1),RPs.tr (fun _ _ q=>q) inn xs vs g2⟩
  ·rw[List.getElem?_set_ne (fun z=>e z.symm)]at hj;unfold nF at hj;rw[List.getElem?_map]at hj
   cases hd:d[j]? with
   | none=>rw[hd]at hj;cases hj
   | some o =>
    rw[hd]at hj
    cases o with
    | none=>cases hj
    | some y =>
     cases y with
     | cel b=>cases hj
     | dat p =>
      cases hj
      obtain⟨v,h1,h2⟩:=hr j _ hd;exact⟨v,h1,RP.tr (fun _ _ q=>q) inn p v h2⟩
 ·subst ex;have out:∀ b (ws:List V),(m b=none/\¬ Z b)->SqL X.K H b ws->(m b=none/\¬ Z b)/\SqL X.K H' b ws:=fun b ws q1 q2=>⟨q1,(e1.l b ws (nl b q1) q2).2⟩
  refine k _ m v H' q ⟨e1.t,fun b ws h1 h2=>⟨h1.1,(out b ws h1 h2).2⟩,fun b hb=>e1.z b (.inl hb),fun _ h=>h,e1.fz,fun _ _=>rfl,fun b ws h1 h2=>e1.ll b ws (nl b h1) h2⟩ ⟨fun b c hb=>?_,fun b hb=>⟨(ok.z b hb).1,by rw[e1.z b (.inl hb)];exact(ok.z b hb).2⟩⟩ (RP.nl p v np rx)
  obtain⟨o,q1,q2⟩:=ok.g b c hb;refine⟨o,?_,q2.lift fun p v q=>RP.tr e1.t out p v q e1.fz⟩
  by_cases eb:b=a
  ·subst eb;rw[g1]at q1
   cases q1
   exact e1.ll b vs ⟨rfl,nY⟩ g1
  ·rw[e1.z b (.inr ⟨eb,by rw[hb];rfl⟩)]
   exact q1
@[simp] def vD:D2
 | .dat (.list a),.dat (.list b),m,Q=>a.length+b.length<=sizeLine/\∀ p,m p=none->Q (.cel p) (bW m p (.l (a++b)))
 | _,_,_,_=>False
theorem CL:cM X (binaryOp .Add) vD:=by
 intro pins s σ H Z m x y dx dy v u R Q I ok rx ry r1 r2 h k;unfold vD at h
 split at h
 ·obtain⟨hz,hq⟩:=h;simp only[RD,RP]at r1 r2;obtain⟨q1,vs,rfl,_,g0,g3⟩:=r1;obtain⟨q,ws,rfl,_,g1,g2⟩:=r2;have l1:=g3.length
  have l2:=g2.length
  refine Wl pins s σ H _ _ v u Q I rx ry ⟨q1,q,vs,ws,rfl,rfl,g0,g1,by omega,fun t ht hk=>?_⟩
  refine k _ _ _ _ (hq t (fH ok ht).1) (Ext.cell ok ht hk) (ok.cell ht hk (show RPs _ _ _ _ _ _ from g3.append g2)) ⟨rfl,?_⟩
  rw[cO];rfl
 ·exact h.elim
theorem Bu:CallR X (.type "list") (fun xs H Q=>∃ p ys,xs=[.ref p]/\SqL X.K H p ys/\∀ l,H l=none->X.K.lookup l=none->Q (.ref l) (upd H l (.lst ys))):=by
 intro pins s σ H xs us Q I r h;obtain⟨p,ys,rfl,hq,q⟩:=h;obtain⟨u,rfl,rx⟩:=eD r
 cases rx
 obtain⟨its,r',pl,hz⟩:=I.list hq;have hlen:=r'.length
 obtain⟨o,ho,hc,n,hd⟩:=pl.isList;have hk:X.K.lookup s.heap.objs.size=none:=by
  cases e:X.K.lookup s.heap.objs.size with
  | none=>rfl
  | some o=>exact absurd (af (I.kIn _ o e)) (Nat.lt_irrefl _)
 refine call_list_seq p (.inl rfl) ho hc hd (fun h' c' kp e=>?_) (by simp only[au]<;>omega)
 exact⟨.ref s.heap.objs.size,_,I.laid (t':=s.toks) kp (aj _) (show ObjOk X.prog X.w _ h' _ (.lst ys) from⟨hz,its,c',r',e⟩),rfl,q _ I.fresh hk⟩
@[simp] def sR:DC
 | [.cel c],m,Q=>∃ xs,m c=some (.l xs)/\∀ p,m p=none->Q (.cel p) (bW m p (.l xs))
 | [.dat (.list xs)],m,Q=>∀ p,m p=none->Q (.cel p) (bW m p (.l xs))
 | _,_,_=>False
theorem J4:CallD X (.type "list") sR:=by
 intro pins s σ H Z m xs ds us R Q I ok rv rd h k;unfold sR at h
 split at h
 ·obtain⟨v,rfl,r1⟩:=rd.one;obtain⟨rfl,_⟩:=r1;obtain⟨ys,hm,q⟩:=h;obtain⟨vs,h1,h2⟩:=ok.l hm;refine Bu pins s σ H _ us Q I rv ⟨_,vs,rfl,.inl (.inl h1),fun l hl hk=>?_⟩;refine k _ _ _ _ (q l (fH ok hl).1) (Ext.cell ok hl hk) (ok.cell hl hk (show RPs _ _ _ _ _ _ from h2)) ⟨rfl,?_⟩
  rw[cO];rfl
 ·obtain⟨v,rfl,r1⟩:=rd.one;simp only[RD,RP]at r1;obtain⟨a,vs,rfl,_,h1,h2⟩:=r1;refine Bu pins s σ H _ us Q I rv ⟨_,vs,rfl,h1,fun l hl hk=>?_⟩;refine k _ _ _ _ (h l (fH ok hl).1) (Ext.cell ok hl hk) (ok.cell hl hk (show RPs _ _ _ _ _ _ from h2)) ⟨rfl,?_⟩
  rw[cO];rfl
 ·exact h.elim
end
end DL
namespace DL
open PySem PySem.Spec PyProof.Rows L2
structure QE (X:Cx) (e:Expr) (t:TE):Prop where
 pe:PE X e t
structure QA (X:Cx) (e:List Expr) (t:TA):Prop where
 pe:PA X e t
structure QT (X:Cx) (e:Expr) (t:TT):Prop where
 pe:PT X e t
structure QW (X:Cx) (e:Expr) (t:TT):Prop where
 pe:PW X e t
structure QS (X:Cx) (e:Stmt) (t:TS):Prop where
 pe:PS X e t
structure QSs (X:Cx) (e:List Stmt) (t:TS):Prop where
 pe:PSs X e t
structure QG (X:Cx) (e:Expr) (t:TG):Prop where
 pe:PG X e t
structure QGs (X:Cx) (e:List Expr) (t:iF):Prop where
 pe:PGs X e t
structure QO (X:Cx) (e:Option Expr) (t:TO):Prop where
 pe:PO X e t
structure QF (X:Cx) (e:List Expr) (t:TT):Prop where
 pe:PF X e t
structure QJ (X:Cx) (e:List Expr) (t:List DE):Prop where
 pe:PJ X e t
structure QI (X:Cx) (tg e:Expr) (t:TI):Prop where
 pe:PI X tg e t
theorem QW.pt{X:Cx}{e:Expr}{t:TT}(h:QW X e t):QT X e t:=⟨h.pe.pt⟩
section
variable {X:Cx}{pos:Pos}
theorem aB(i:Nat){x:Str}(hN:X.N[i]?=some x:=by rfl)(hv:iQ X.env.scope x:=by first | exact Or.inl rfl | exact Or.inr (Or.inl rfl) | exact Or.inr (Or.inr rfl))(hd:(x==("__debug__" : Str))=false:=by decide)(hcd:(x==("__classdict__" : Str))=false:=by decide):QE X (.Name x pos) (LE X.K (aA i)):=⟨FS (i:=i) (hN:=hN) (hv:=hv) (hd:=hd) (hcd:=hcd)⟩
end
section
variable {X:Cx}{pos:Pos}
theorem aK{i:Int}{j:Nat}:QE X (.Constant (.int i) j pos) (LE X.K (aE (.int i))):=⟨le_int ⟩
end
section
variable {X:Cx}{pos:Pos}
theorem iO{b:Bool}{j:Nat}:QE X (.Constant (.bool b) j pos) (LE X.K (aE (.bool b))):=⟨Xa ⟩
end
section
variable {X:Cx}{pos:Pos}
theorem kK{j:Nat}:QE X (.Constant .none j pos) (LE X.K (aE .none)):=⟨AZ ⟩
end
section
variable {X:Cx}{pos:Pos}
theorem bH{x:Str}{j:Nat}:QE X (.Constant (.str x) j pos) (LE X.K (aE (.str x))):=⟨le_str ⟩
end
section
variable {X:Cx}{a b c:Expr}{f g:DE}{pos:Pos}
theorem bK{op:Operator}{r:D2}(ho:cM X (binaryOp op) r)(ha:QE X a (LE X.K f))(hb:QE X b (LE X.K g)):QE X (.BinOp a op b pos) (LE X.K (aF r f g)):=⟨AX (ho:=ho) (ha:=ha.pe) (hb:=hb.pe)⟩
end
section
variable {X:Cx}{a b c:Expr}{f g:DE}{pos:Pos}
theorem iT{op:CmpOp}{r:D2}(ho:cM X (compareOp op) r)(ha:QE X a (LE X.K f))(hb:QE X b (LE X.K g))(hm:behindInMarks op b=false:=by exact rT _):QE X (.Compare a [op] [b] pos) (LE X.K (aF r f g)):=⟨Wo (ho:=ho) (ha:=ha.pe) (hb:=hb.pe) (hm:=hm)⟩
end
section
variable {X:Cx}{a b c:Expr}{f g:DE}{pos:Pos}
theorem bP{op:CmpOp}{r:D2}(ho:cM X (compareOp op) r)(ha:QE X a (LE X.K f))(hb:QE X b (LE X.K g))(hm:behindInMarks op b=false:=by exact rT _):QT X (.Compare a [op] [b] pos) (LT X.K (bG (aF r f g))):=⟨x6 (ho:=ho) (ha:=ha.pe) (hb:=hb.pe) (hm:=hm)⟩
end
section
variable {X:Cx}{a b c:Expr}{f g:DE}{pos:Pos}
theorem fK(h:QE X a (LE X.K f))(he:∀ whole,isTrue a X.env whole=(do let v <- whole;standAt a.pos;holding [v] (truthy v)):=by intro _;rfl):QT X a (LT X.K (bG f)):=⟨HR (h:=h.pe) (he:=he)⟩
end
section
variable {X:Cx}{a b c:Expr}{rest:List Expr}{f g:DE}{t u:DT}{pos:Pos}
theorem lC(ha:QT X a (LT X.K t)):QW X (.BoolOp .And [a] pos) (LT X.K t):=⟨Yx (ha:=ha.pe)⟩
end
section
variable {X:Cx}{a b c:Expr}{rest:List Expr}{f g:DE}{t u:DT}{pos:Pos}
theorem gG(ha:QT X a (LT X.K t)):QW X (.BoolOp .Or [a] pos) (LT X.K t):=⟨c9 (ha:=ha.pe)⟩
end
section
variable {X:Cx}{a b c:Expr}{rest:List Expr}{f g:DE}{t u:DT}{pos:Pos}
theorem lS(ha:QT X a (LT X.K t))(hb:QW X (.BoolOp .And (b::rest) pos) (LT X.K u)):QW X (.BoolOp .And (a::b::rest) pos) (LT X.K (jC t u)):=⟨S0 (ha:=ha.pe) (hb:=hb.pe)⟩
end
section
variable {X:Cx}{a b c:Expr}{rest:List Expr}{f g:DE}{t u:DT}{pos:Pos}
theorem fG(ha:QT X a (LT X.K t))(hb:QW X (.BoolOp .Or (b::rest) pos) (LT X.K u)):QW X (.BoolOp .Or (a::b::rest) pos) (LT X.K (eA t u)):=⟨W9 (ha:=ha.pe) (hb:=hb.pe)⟩
end
section
variable {X:Cx}{a b c:Expr}{rest:List Expr}{f g:DE}{t u:DT}{pos:Pos}
theorem jQ(ha:QT X a (LT X.K t)):QT X (.UnaryOp .Not a pos) (LT X.K (iE t)):=⟨BS (ha:=ha.pe)⟩
end
section
variable {X:Cx}{a b c:Expr}{rest:List Expr}{f g:DE}{t u:DT}{pos:Pos}
theorem qU{op:BoolOp}(h:QE X a (LE X.K f)):QE X (.BoolOp op [a] pos) (LE X.K f):=⟨BZ (h:=h.pe)⟩
end
section
variable {X:Cx}{a b c:Expr}{rest:List Expr}{f g:DE}{t u:DT}{pos:Pos}
theorem qC(ha:QE X a (LE X.K f))(hb:QE X (.BoolOp .And (b::rest) pos) (LE X.K g)):QE X (.BoolOp .And (a::b::rest) pos) (LE X.K (lH f g)):=⟨V9 (ha:=ha.pe) (hb:=hb.pe)⟩
end
section
variable {X:Cx}{a b c:Expr}{rest:List Expr}{f g:DE}{t u:DT}{pos:Pos}
theorem FV(ha:QE X a (LE X.K f)):QE X (.UnaryOp .Not a pos) (LE X.K (vJ f)):=⟨HV (ha:=ha.pe)⟩
end
section
variable {X:Cx}{a b c:Expr}{rest:List Expr}{f g:DE}{t u:DT}{pos:Pos}
theorem jP(hc:QT X c (LT X.K t))(ha:QE X a (LE X.K f))(hb:QE X b (LE X.K g)):QE X (.IfExp c a b pos) (LE X.K (iC t f g)):=⟨G7 (hc:=hc.pe) (ha:=ha.pe) (hb:=hb.pe)⟩
end
section
variable {X:Cx}{e:Expr}{es:List Expr}{f:DE}{g:DA}{pos:Pos}
theorem aJ  : QA X [] (LA X.K aI):=⟨Go ⟩
end
section
variable {X:Cx}{e:Expr}{es:List Expr}{f:DE}{g:DA}{pos:Pos}
theorem aD(ha:QE X e (LE X.K f))(hr:QA X es (LA X.K g))(hs:starEach (e::es) X.env=(false,eval e X.env)::starEach es X.env:=by rfl):QA X (e::es) (LA X.K (aC f g)):=⟨Su (ha:=ha.pe) (hr:=hr.pe) (hs:=hs)⟩
end
section
variable {X:Cx}{e:Expr}{es:List Expr}{f:DE}{g:DA}{pos:Pos}
theorem dI{j:Nat}(h:QA X es (LA X.K g)):QE X (.Tuple es j pos) (LE X.K (cY g)):=⟨FA (h:=h.pe)⟩
end
section
variable {X:Cx}{e:Expr}{es:List Expr}{f:DE}{g:DA}{pos:Pos}
theorem dZ(h:QA X es (LA X.K g)):QE X (.List es pos) (LE X.K (dD g)):=⟨d9 (h:=h.pe)⟩
end
section
variable {X:Cx}{e:Expr}{es:List Expr}{f:DE}{g:DA}{pos:Pos}
theorem lX(h:QA X es (LA X.K g)):QE X (.List es pos) (LE X.K (jO g)):=⟨w6 (h:=h.pe)⟩
end
section
variable {X:Cx}{a b c e:Expr}{es:List Expr}{f g:DE}{ga:DA}{pos p2 p:Pos}
theorem oA(ha:QE X a (LE X.K f)):QE X (.UnaryOp .USub a pos) (LE X.K (jG f)):=⟨AR (ha:=ha.pe)⟩
end
section
variable {X:Cx}{a b c e:Expr}{es:List Expr}{f g:DE}{ga:DA}{pos p2 p:Pos}
theorem aO(ha:QE X a (LE X.K f))(hb:QE X b (LE X.K g))(hs:uN b:=by exact fun _ _=>rfl):QE X (.Subscript a b pos) (LE X.K (aF aN f g)):=⟨GS (ha:=ha.pe) (hb:=hb.pe) (hs:=hs)⟩
end
section
variable {X:Cx}{a b c e:Expr}{es:List Expr}{f g:DE}{ga:DA}{pos p2 p:Pos}
theorem lN  : QO X none (LO X.K jV):=⟨AQ ⟩
end
section
variable {X:Cx}{a b c e:Expr}{es:List Expr}{f g:DE}{ga:DA}{pos p2 p:Pos}
theorem lT(ha:QE X a (LE X.K f)):QO X (some a) (LO X.K (jS f)):=⟨Xu (ha:=ha.pe)⟩
end
section
variable {X:Cx}{a b c e:Expr}{es:List Expr}{f g:DE}{ga:DA}{pos p2 p:Pos}
theorem cA{x:Str}{id:String}{r:DC}(hc:CallD X (.builtin id) r)(hg:Gl X x)(hm:X.mg x=none)(hv:bootBuiltins x=some (.builtin id))(ha:QA X (e::es) (LA X.K ga))(hn:x≠"__name__":=by decide)(hdb:(x==("__debug__" : Str))=false:=by decide)(he:starEach (e::es) X.env=(false,eval e X.env)::starEach es X.env:=by rfl)(hpl:(backTo pos (starEach es X.env)).any (·.1)=false:=by rfl):QE X (.Call (.Name x p) (e::es) [] pos) (LE X.K (bM r ga)):=⟨K0 (hc:=hc) (hg:=hg) (hm:=hm) (hv:=hv) (ha:=ha.pe) (hn:=hn) (hdb:=hdb) (he:=he) (hpl:=hpl)⟩
end
section
variable {X:Cx}{a b c e:Expr}{es:List Expr}{f g:DE}{ga:DA}{pos p2 p:Pos}
theorem eN{x:Str}{T:String}{r:DC}(hc:CallD X (.type T) r)(hg:Gl X x)(hm:X.mg x=none)(hv:bootBuiltins x=some (.type T))(ha:QA X (e::es) (LA X.K ga))(hn:x≠"__name__":=by decide)(hdb:(x==("__debug__" : Str))=false:=by decide)(he:starEach (e::es) X.env=(false,eval e X.env)::starEach es X.env:=by rfl)(hpl:(backTo pos (starEach es X.env)).any (·.1)=false:=by rfl):QE X (.Call (.Name x p) (e::es) [] pos) (LE X.K (bM r ga)):=⟨Q9 (hc:=hc) (hg:=hg) (hm:=hm) (hv:=hv) (ha:=ha.pe) (hn:=hn) (hdb:=hdb) (he:=he) (hpl:=hpl)⟩
end
section
variable {X:Cx}{st:Stmt}{rest body orelse:List Stmt}{t u b:DS}{e c tg iter:Expr}{f:DE}{tc:DT}{pos:Pos}
theorem aM  : QSs X [] (LS X.K aL):=⟨Vr ⟩
end
section
variable {X:Cx}{st:Stmt}{rest body orelse:List Stmt}{t u b:DS}{e c tg iter:Expr}{f:DE}{tc:DT}{pos:Pos}
theorem aH(h1:QS X st (LS X.K t))(h2:QSs X rest (LS X.K u)):QSs X (st::rest) (LS X.K (aG t u)):=⟨v8 (h1:=h1.pe) (h2:=h2.pe)⟩
end
section
variable {X:Cx}{st:Stmt}{rest body orelse:List Stmt}{t u b:DS}{e c tg iter:Expr}{f:DE}{tc:DT}{pos:Pos}
theorem iK(he:QE X e (LE X.K f))(hs:swapsWith e none pos.line X.env=pure false:=by rfl):QS X (.Expr e pos) (LS X.K (gX f)):=⟨CT (he:=he.pe) (hs:=hs)⟩
end
section
variable {X:Cx}{st:Stmt}{rest body orelse:List Stmt}{t u b:DS}{e c tg iter:Expr}{f:DE}{tc:DT}{pos:Pos}
theorem bO(he:QE X e (LE X.K f)):QS X (.Return (some e) pos) (LS X.K (bN f)):=⟨Wr (he:=he.pe)⟩
end
section
variable {X:Cx}{st:Stmt}{rest body orelse:List Stmt}{t u b:DS}{e c tg iter:Expr}{f:DE}{tc:DT}{pos:Pos}
theorem bX(hc:QT X c (LT X.K tc))(h1:QSs X body (LS X.K t))(h2:QSs X orelse (LS X.K u)):QS X (.If c body orelse pos) (LS X.K (bU tc t u)):=⟨j6 (hc:=hc.pe) (h1:=h1.pe) (h2:=h2.pe)⟩
end
section
variable {X:Cx}{st:Stmt}{rest body orelse:List Stmt}{t u b:DS}{e c tg iter:Expr}{f:DE}{tc:DT}{pos:Pos}
theorem bJ(i:Nat){x:Str}{pos':Pos}(hN:X.N.Nodup)(he:QE X e (LE X.K f))(hi:X.N[i]?=some x:=by rfl)(hx:hG X.env.scope x:=by first | exact Or.inl rfl | exact Or.inr rfl)(hs:swapsWith e (some (.Name x pos')) pos.line X.env=pure false:=by rfl)(hf:X.fn x=true\/X.env.scope.names.lookup x=some .local:=by first | exact .inl rfl | exact .inr rfl):QS X (.Assign [.Name x pos'] e pos) (LS X.K (bI i f)):=⟨J9 (i:=i) (hN:=hN) (he:=he.pe) (hi:=hi) (hx:=hx) (hs:=hs) (hf:=hf)⟩
end
section
variable {X:Cx}{st:Stmt}{rest body orelse:List Stmt}{t u b:DS}{e c tg iter:Expr}{f:DE}{tc:DT}{pos:Pos}
theorem bZ(i:Nat){x:Str}(hN:X.N.Nodup)(hi:X.N[i]?=some x:=by rfl)(hx:hG X.env.scope x:=by first | exact Or.inl rfl | exact Or.inr rfl)(hf:X.fn x=true\/X.env.scope.names.lookup x=some .local:=by first | exact .inl rfl | exact .inr rfl):QG X (.Name x pos) (LG X.K (gN i)):=⟨FW (i:=i) (hN:=hN) (hi:=hi) (hx:=hx) (hf:=hf)⟩
end
section
variable {X:Cx}{st:Stmt}{rest body orelse:List Stmt}{t u b:DS}{e c tg iter:Expr}{f:DE}{tc:DT}{pos:Pos}
theorem fY  : QGs X [] (jU X.K dF):=⟨Zj ⟩
end
section
variable {X:Cx}{st:Stmt}{rest body orelse:List Stmt}{t u b:DS}{e c tg iter:Expr}{f:DE}{tc:DT}{pos:Pos}
theorem cW{es:List Expr}{g:DG}{r:iZ}(h1:QG X e (LG X.K g))(h2:QGs X es (jU X.K r))(hs:(assignEach (e::es) X.env).map (·.2)=assign e X.env::(assignEach es X.env).map (·.2):=by rfl):QGs X (e::es) (jU X.K (bV g r)):=⟨CQ (h1:=h1.pe) (h2:=h2.pe) (hs:=hs)⟩
end
section
variable {X:Cx}{st:Stmt}{rest body orelse:List Stmt}{t u b:DS}{e c tg iter:Expr}{f:DE}{tc:DT}{pos:Pos}
theorem gC{es:List Expr}{j n:Nat}{g:iZ}(hc:X.calm=true)(h:QGs X es (jU X.K g))(hn:(assignEach es X.env).length=n:=by rfl)(hst:(assignEach es X.env).findIdx? (·.1)=none:=by rfl):QG X (.Tuple es j pos) (LG X.K (gT n g)):=⟨Uh (hc:=hc) (h:=h.pe) (hn:=hn) (hst:=hst)⟩
end
section
variable {X:Cx}{st:Stmt}{rest body orelse:List Stmt}{t u b:DS}{e c tg iter:Expr}{f:DE}{tc:DT}{pos:Pos}
theorem lI{g:DG}(he:QE X e (LE X.K f))(hg:QG X tg (LG X.K g))(hs:swapsWithSole [tg] e pos.line X.env=pure false:=by rfl)(hw:swappedStores [tg] e X.env=pure none:=by rfl)(h1:(assignEach [tg] X.env).map (·.2)=[assign tg X.env]:=by rfl):QS X (.Assign [tg] e pos) (LS X.K (jT f g)):=⟨Xd (he:=he.pe) (hg:=hg.pe) (hs:=hs) (hw:=hw) (h1:=h1)⟩
end
section
variable {X:Cx}{st:Stmt}{rest body orelse:List Stmt}{t u b:DS}{e c tg iter:Expr}{f:DE}{tc:DT}{pos:Pos}
theorem GM(i j:Nat){x y:Str}{a b:Expr}{g:DA}{px py pt:Pos}{kt k2 pt2}(hc:X.calm=true)(hN:X.N.Nodup)(ha:QA X [a,b] (LA X.K g))(hi:X.N[i]?=some x:=by rfl)(hj:X.N[j]?=some y:=by rfl)(hij:i≠j:=by decide)(hx:X.env.scope.names.lookup x=some .local:=by rfl)(hy:X.env.scope.names.lookup y=some .local:=by rfl)(hw:swappedStores [.Tuple [.Name x px,.Name y py] kt pt] (.Tuple [a,b] k2 pt2) X.env=pure (some [x,y]):=by rfl)(hs:swapsWithSole [.Tuple [.Name x px,.Name y py] kt pt] (.Tuple [a,b] k2 pt2) pos.line X.env=pure false:=by rfl):QS X (.Assign [.Tuple [.Name x px,.Name y py] kt pt] (.Tuple [a,b] k2 pt2) pos) (LS X.K (yM i j g)):=⟨K9 (i:=i) (j:=j) (hc:=hc) (hN:=hN) (ha:=ha.pe) (hi:=hi) (hj:=hj) (hij:=hij) (hx:=hx) (hy:=hy) (hw:=hw) (hs:=hs)⟩
end
section
variable {X:Cx}{st:Stmt}{rest body orelse:List Stmt}{t u b:DS}{e c tg iter:Expr}{f:DE}{tc:DT}{pos:Pos}
theorem Kv{o i:Expr}{fo fi:DE}{tpos:Pos}(he:QE X e (LE X.K f))(ho:QE X o (LE X.K fo))(hi:QE X i (LE X.K fi))(ha:∀ v,assign (.Subscript o i tpos) X.env v=(do
   let ov <- holding [v] (eval o X.env)
   let iv <- holding [v,ov] (eval i X.env)
   standAt tpos
   holding [v,ov,iv] (setItem ov iv v)
   release [v,ov,iv] []):=by intro _;rfl) (hs:swapsWithSole [.Subscript o i tpos] e pos.line X.env=pure false:=by rfl) (hw:swappedStores [.Subscript o i tpos] e X.env=pure none:=by rfl) (h1:(assignEach [.Subscript o i tpos] X.env).map (·.2)=[assign (.Subscript o i tpos) X.env]:=by rfl):QS X (.Assign [.Subscript o i tpos] e pos) (LS X.K (sB fo fi f)):=⟨GN (he:=he.pe) (ho:=ho.pe) (hi:=hi.pe) (ha:=ha) (hs:=hs) (hw:=hw) (h1:=h1)⟩
end
section
variable {X:Cx}{st:Stmt}{rest body orelse:List Stmt}{t u b:DS}{e c tg iter:Expr}{f:DE}{tc:DT}{pos:Pos}
theorem Rh(hp:PassesOwn (model X.prog X.w) X.A X.env X.xe)(hc:QT X c (LT X.K tc))(hb:QSs X body (LS X.K b)):QS X (.While c body [] pos) (LS X.K (qA tc b)):=⟨Y3 (hp:=hp) (hc:=hc.pe) (hb:=hb.pe)⟩
end
section
variable {X:Cx}{st:Stmt}{rest body orelse:List Stmt}{t u b:DS}{e c tg iter:Expr}{f:DE}{tc:DT}{pos:Pos}
theorem gJ(ha:QE X e (LE X.K f)):QI X tg e (LI X.K (eZ f)):=⟨Yd (ha:=ha.pe)⟩
end
section
variable {X:Cx}{st:Stmt}{rest body orelse:List Stmt}{t u b:DS}{e c tg iter:Expr}{f:DE}{tc:DT}{pos:Pos}
theorem gZ{p:Pos}(hg:Gl X "range")(hm:X.mg "range"=none)(ha:QE X e (LE X.K f))(hs:starEach [e] X.env=[(false,eval e X.env)]:=by rfl):QI X tg (.Call (.Name "range" p) [e] [] pos) (LI X.K (fD f)):=⟨EU (hg:=hg) (hm:=hm) (ha:=ha.pe) (hs:=hs)⟩
end
section
variable {X:Cx}{st:Stmt}{rest body orelse:List Stmt}{t u b:DS}{e c tg iter:Expr}{f:DE}{tc:DT}{pos:Pos}
theorem jM{fi:DI}{g:DG}(hp:PassesOwn (model X.prog X.w) X.A X.env X.xe)(hc:X.calm=true)(hi:QI X tg iter (LI X.K fi))(hg:QG X tg (LG X.K g))(hb:QSs X body (LS X.K b))(hs:∀ x,foldedSetIterable iter X.env x=pure x:=by intro _;rfl):QS X (.For tg iter body [] pos) (LS X.K (iG fi g b)):=⟨EF (hp:=hp) (hc:=hc) (hi:=hi.pe) (hg:=hg.pe) (hb:=hb.pe) (hs:=hs)⟩
end
section
variable {X:Cx}{a e:Expr}{es:List Expr}{f:DE}{ga:DA}{pos p p1 p2 p3 p4:Pos}
theorem jY{T:Str}{c:String}(hg:Gl X "isinstance")(hm:X.mg "isinstance"=none)(hgT:Gl X T)(hmT:X.mg T=none)(hv:bootBuiltins T=some (.type c))(hc:c="int"\/c="bool"\/c="str"\/c="tuple"\/c="list")(ha:QE X a (LE X.K f))(hn:T≠"__name__":=by decide)(hd:(T==("__debug__" : Str))=false:=by decide)(he:starEach [a,.Name T p2] X.env=(false,eval a X.env)::starEach [.Name T p2] X.env:=by rfl):QE X (.Call (.Name "isinstance" p1) [a,.Name T p2] [] pos) (LE X.K (iH f c)):=⟨Q2 (hg:=hg) (hm:=hm) (hgT:=hgT) (hmT:=hmT) (hv:=hv) (hc:=hc) (ha:=ha.pe) (hn:=hn) (hd:=hd) (he:=he)⟩
end
section
variable {X:Cx}{a e:Expr}{es:List Expr}{f:DE}{ga:DA}{pos p p1 p2 p3 p4:Pos}
theorem BF{k n:Nat}{fa:Addr}{fd:FuncData}{ps:List Str}{sp:DC}{x:Str}(F:FnOk X.prog X.w X.K X.mg X.base eV k fa fd ps (LSp X.K n sp))(hr:Room k X.A)(hm:X.mg x=some (.ref fa))(hk:PySem.W.keepIn X.K (.ref fa)=true)(hb:Binds X.K fd ps [])(hx:X.xe=fun _ _=>False)(ha:QA X (e::es) (LA X.K ga))(hg:Gl X x:=by rfl)(hdb:(x==("__debug__" : Str))=false:=by decide)(he:starEach (e::es) X.env=(false,eval e X.env)::starEach es X.env:=by rfl)(hpl:(backTo pos (starEach es X.env)).any (·.1)=false:=by rfl):QE X (.Call (.Name x p) (e::es) [] pos) (LE X.K (aQ n sp ga)):=⟨C8 (F:=F) (hr:=hr) (hm:=hm) (hk:=hk) (hb:=hb) (hx:=hx) (ha:=ha.pe) (hg:=hg) (hdb:=hdb) (he:=he) (hpl:=hpl)⟩
end
section
theorem eS{Y:Cx}:QF Y [] (LT Y.K cV):=⟨W8 ⟩
end
section
theorem Dw{Y:Cx}{c:Expr}{t:TT}(h:QT Y c t):QF Y [c] t:=⟨HM (h:=h.pe)⟩
end
section
variable {X:Cx}{a e o:Expr}{es:List Expr}{f g:DE}{ga:DA}{pos p p1 p2:Pos}
theorem K4{x:Str}{c:Addr}{zs:List Str}(hg:Gl X x)(hm:X.mg x=some (.ref c))(hk:KT X.K c zs)(hd:(x==("__debug__" : Str))=false:=by decide):QE X (.Name x pos) (LE X.K (aE (.tuple (zs.map .str)))):=⟨G0 (hg:=hg) (hm:=hm) (hk:=hk) (hd:=hd)⟩
end
section
variable {X:Cx}{tg iter elt:Expr}{ifs:List Expr}{scope:Scope}{fi:DI}{g:DG}{t:DT}{f:DE}{pos:Pos}
theorem gM(NC:List Str)(src:List (Option Nat))(hc:X.calm=true)(hi:QI X tg iter (LI X.K fi))(hg:∀ cl C s2 H2 pins fp,QG (bQ X scope cl C NC s2 H2 pins fp) tg (LG X.K g))(ht:∀ cl C s2 H2 pins fp,QF (bQ X scope cl C NC s2 H2 pins fp) ifs (LT X.K t))(he:∀ cl C s2 H2 pins fp,QE (bQ X scope cl C NC s2 H2 pins fp) elt (LE X.K f))(hkind:scope.kind=.function:=by rfl)(hB:chkB scope X.env=true:=by rfl)(hS:chkS X.N scope X.env NC src=true:=by rfl)(hs:∀ x,foldedSetIterable iter X.env x=pure x:=by intro _;rfl):QE X (.ListComp elt [⟨tg,iter,ifs,0⟩] scope pos) (LE X.K (dR src fi g t f)):=⟨Xq (NC:=NC) (src:=src) (hc:=hc) (hi:=hi.pe) (hg:=fun cl C s2 H2 pins fp=>(hg cl C s2 H2 pins fp).pe) (ht:=fun cl C s2 H2 pins fp=>(ht cl C s2 H2 pins fp).pe) (he:=fun cl C s2 H2 pins fp=>(he cl C s2 H2 pins fp).pe) (hkind:=hkind) (hB:=hB) (hS:=hS) (hs:=hs)⟩
end
section
variable {X:Cx}{tg iter elt:Expr}{ifs:List Expr}{scope:Scope}{fi:DI}{g:DG}{t:DT}{f:DE}{pos:Pos}
theorem nM(i:Nat){y:Str}{py spos:Pos}(NC:List Str)(src:List (Option Nat))(hc:X.calm=true)(hN:X.N.Nodup)(hi:QI X tg iter (LI X.K fi))(hg:∀ cl C s2 H2 pins fp,QG (bQ X scope cl C NC s2 H2 pins fp) tg (LG X.K g))(ht:∀ cl C s2 H2 pins fp,QF (bQ X scope cl C NC s2 H2 pins fp) ifs (LT X.K t))(he:∀ cl C s2 H2 pins fp,QE (bQ X scope cl C NC s2 H2 pins fp) elt (LE X.K f))(hkind:scope.kind=.function:=by rfl)(hB:chkB scope X.env=true:=by rfl)(hS:chkS X.N scope X.env NC src=true:=by rfl)(hi2:X.N[i]?=some y:=by rfl)(hx:hG X.env.scope y:=by first | exact Or.inl rfl | exact Or.inr rfl)(hf:X.fn y=true\/X.env.scope.names.lookup y=some .local:=by first | exact .inl rfl | exact .inr rfl)(hsw:swapsWith (.ListComp elt [⟨tg,iter,ifs,0⟩] scope pos) (some (.Name y py)) spos.line X.env=pure true:=by rfl)(hs:∀ x,foldedSetIterable iter X.env x=pure x:=by intro _;rfl):QS X (.Assign [.Name y py] (.ListComp elt [⟨tg,iter,ifs,0⟩] scope pos) spos) (LS X.K (bI i (dR src fi g t f))):=⟨IE (i:=i) (NC:=NC) (src:=src) (hc:=hc) (hN:=hN) (hi:=hi.pe) (hg:=fun cl C s2 H2 pins fp=>(hg cl C s2 H2 pins fp).pe) (ht:=fun cl C s2 H2 pins fp=>(ht cl C s2 H2 pins fp).pe) (he:=fun cl C s2 H2 pins fp=>(he cl C s2 H2 pins fp).pe) (hkind:=hkind) (hB:=hB) (hS:=hS) (hi2:=hi2) (hx:=hx) (hf:=hf) (hsw:=hsw) (hs:=hs)⟩
end
section
variable {X:Cx}{a e o:Expr}{es:List Expr}{f g:DE}{ga:DA}{pos p p1 p2:Pos}
theorem tR{z:Str}{jc:Nat}{apos cpos:Pos}(he:QE X e (LE X.K g))(hbase:attributeBase (.Constant (.str z) jc p) "join" X.env (eval (.Constant (.str z) jc p) X.env)=eval (.Constant (.str z) jc p) X.env:=by rfl)(hfew:((backTo cpos (starEach [e] X.env)).all (fun x=>!x.1)&&(backToKw cpos (keywordEach [] X.env)).all (fun x=>x.1.isSome)&&decide ([e].length+([]:List Keyword).length+(if ([]:List Keyword).isEmpty then 0 else 1)<30))=true:=by rfl)(hline:(apos.endLine==cpos.line)=true:=by rfl)(hs:starEach [e] X.env=(false,eval e X.env)::starEach [] X.env:=by rfl):QE X (.Call (.Attribute (.Constant (.str z) jc p) "join" apos) [e] [] cpos) (LE X.K (nO z g)):=⟨N0 (he:=he.pe) (hbase:=hbase) (hfew:=hfew) (hline:=hline) (hs:=hs)⟩
end
section
variable {X:Cx}{a e o:Expr}{es:List Expr}{f g:DE}{ga:DA}{pos p p1 p2:Pos}
theorem kQ{apos cpos:Pos}(ho:QE X o (LE X.K f))(he:QE X e (LE X.K g))(hbase:attributeBase o "append" X.env (eval o X.env)=eval o X.env:=by rfl)(hfew:((backTo cpos (starEach [e] X.env)).all (fun x=>!x.1)&&(backToKw cpos (keywordEach [] X.env)).all (fun x=>x.1.isSome)&&decide ([e].length+([]:List Keyword).length+(if ([]:List Keyword).isEmpty then 0 else 1)<30))=true:=by rfl)(hline:(apos.endLine==cpos.line)=true:=by rfl)(hs:starEach [e] X.env=(false,eval e X.env)::starEach [] X.env:=by rfl):QE X (.Call (.Attribute o "append" apos) [e] [] cpos) (LE X.K (iL f g)):=⟨X5 (ho:=ho.pe) (he:=he.pe) (hbase:=hbase) (hfew:=hfew) (hline:=hline) (hs:=hs)⟩
end
section
variable {X:Cx}{a e o:Expr}{es:List Expr}{f g:DE}{ga:DA}{pos p p1 p2:Pos}
theorem pU{lo hi:Option Expr}{tl th:DO}(ha:QE X a (LE X.K f))(hl:QO X lo (LO X.K tl))(hu:QO X hi (LO X.K th)):QE X (.Subscript a (.Slice lo hi none p2) pos) (LE X.K (mI f tl th)):=⟨w9 (ha:=ha.pe) (hl:=hl.pe) (hu:=hu.pe)⟩
end
section
variable {X:Cx}{o i e:Expr}{fo fi f:DE}{pos tpos:Pos}
theorem pO(hu:X.A.units+100<cLine)(ho:QE X o (LE X.K fo))(hi:QE X i (LE X.K fi))(hs:lV i:=by exact fun _ _=>rfl):QE X (.Subscript o i pos) (LE X.K (lQ fo fi)):=⟨Wz (hu:=hu) (ho:=ho.pe) (hi:=hi.pe) (hs:=hs)⟩
end
section
variable {X:Cx}{i e g:Expr}{fi f fg:DE}{p pos apos cpos:Pos}
theorem Zq{x:Str}{c:Addr}{kvs:List (Str×PyData)}(hg:Gl X x)(hm:X.mg x=some (.ref c))(hk:KD X.K X.w c kvs)(hi:QE X i (LE X.K fi))(hd:(x==("__debug__" : Str))=false:=by decide)(hs:lV i:=by exact fun _ _=>rfl):QE X (.Subscript (.Name x p) i pos) (LE X.K (nT kvs fi)):=⟨H0 (hg:=hg) (hm:=hm) (hk:=hk) (hi:=hi.pe) (hd:=hd) (hs:=hs)⟩
end
section
variable {X:Cx}{e g:Expr}{f fg:DE}{tg:Expr}{pos:Pos}
theorem BJ{p:Pos}(hg:Gl X "range")(hm:X.mg "range"=none)(ha:QE X e (LE X.K f))(hb:QE X g (LE X.K fg))(hs:starEach [e,g] X.env=[(false,eval e X.env),(false,eval g X.env)]:=by rfl)(hs2:starEach [g] X.env=[(false,eval g X.env)]:=by rfl):QI X tg (.Call (.Name "range" p) [e,g] [] pos) (LI X.K (wR f fg)):=⟨v6 (hg:=hg) (hm:=hm) (ha:=ha.pe) (hb:=hb.pe) (hs:=hs) (hs2:=hs2)⟩
end
section
variable {X:Cx}{e:Expr}{f:DE}{pos p:Pos}
theorem zS(hc:X.calm=true)(hg:Gl X "dict")(hm:X.mg "dict"=none)(he:QE X e (LE X.K f))(hs:starEach [e] X.env=[(false,eval e X.env)]:=by rfl):QE X (.Call (.Name "dict" p) [e] [] pos) (LE X.K (nU f)):=⟨z4 (hc:=hc) (hg:=hg) (hm:=hm) (he:=he.pe) (hs:=hs)⟩
end
section
variable {X:Cx}{tg iter tg2 iter2 elt:Expr}{ifs ifs2:List Expr}{scope:Scope}{NC:List Str}{fi fi2:DI}{g g2:DG}{t t2:DT}{f:DE}{pos:Pos}
theorem Zz(NC:List Str)(src:List (Option Nat))(hc:X.calm=true)(hi:QI X tg iter (LI X.K fi))(hg:∀ cl C s2 H2 pins fp,QG (bQ X scope cl C NC s2 H2 pins fp) tg (LG X.K g))(ht:∀ cl C s2 H2 pins fp,QF (bQ X scope cl C NC s2 H2 pins fp) ifs (LT X.K t))(hi2:∀ cl C s2 H2 pins fp,QI (bQ X scope cl C NC s2 H2 pins fp) tg2 iter2 (LI X.K fi2))(hg2:∀ cl C s2 H2 pins fp,QG (bQ X scope cl C NC s2 H2 pins fp) tg2 (LG X.K g2))(ht2:∀ cl C s2 H2 pins fp,QF (bQ X scope cl C NC s2 H2 pins fp) ifs2 (LT X.K t2))(he:∀ cl C s2 H2 pins fp,QE (bQ X scope cl C NC s2 H2 pins fp) elt (LE X.K f))(hkind:scope.kind=.function:=by rfl)(hB:chkB scope X.env=true:=by rfl)(hS:chkS X.N scope X.env NC src=true:=by rfl)(hs2:∀ cl C x,foldedSetIterable iter2 (compEnvC scope cl C X.env) x=pure x:=by intro _ _ _;rfl)(hs:∀ x,foldedSetIterable iter X.env x=pure x:=by intro _;rfl):QE X (.ListComp elt [⟨tg,iter,ifs,0⟩,⟨tg2,iter2,ifs2,0⟩] scope pos) (LE X.K (qO src fi g t fi2 g2 t2 f)):=⟨K7 (NC:=NC) (src:=src) (hc:=hc) (hi:=hi.pe) (hg:=fun cl C s2 H2 pins fp=>(hg cl C s2 H2 pins fp).pe) (ht:=fun cl C s2 H2 pins fp=>(ht cl C s2 H2 pins fp).pe) (hi2:=fun cl C s2 H2 pins fp=>(hi2 cl C s2 H2 pins fp).pe) (hg2:=fun cl C s2 H2 pins fp=>(hg2 cl C s2 H2 pins fp).pe) (ht2:=fun cl C s2 H2 pins fp=>(ht2 cl C s2 H2 pins fp).pe) (he:=fun cl C s2 H2 pins fp=>(he cl C s2 H2 pins fp).pe) (hkind:=hkind) (hB:=hB) (hS:=hS) (hs2:=hs2) (hs:=hs)⟩
end
section
variable {X:Cx}{e g:Expr}{fi fg:DE}{p apos cpos:Pos}
theorem CB{x:Str}{c:Addr}{kvs:List (List Str×PyData)}(hu:X.A.units+100<cLine)(hg:Gl X x)(hm:X.mg x=some (.ref c))(hk:pV X.K X.w c kvs)(he:QE X e (LE X.K fi))(hf:QE X g (LE X.K fg))(hd:(x==("__debug__" : Str))=false:=by decide)(hbase:attributeBase (.Name x p) "get" X.env (eval (.Name x p) X.env)=eval (.Name x p) X.env:=by rfl)(hfew:((backTo cpos (starEach [e,g] X.env)).all (fun x=>!x.1)&&(backToKw cpos (keywordEach [] X.env)).all (fun x=>x.1.isSome)&&decide (([e,g]:List Expr).length+([]:List Keyword).length+(if ([]:List Keyword).isEmpty then 0 else 1)<30))=true:=by rfl)(hline:(apos.endLine==cpos.line)=true:=by rfl)(hs:backTo cpos (starEach [e,g] X.env)=[(false,eval e X.env),(false,eval g X.env)]:=by rfl):QE X (.Call (.Attribute (.Name x p) "get" apos) [e,g] [] cpos) (LE X.K (qD kvs fi fg)):=⟨FI (hu:=hu) (hg:=hg) (hm:=hm) (hk:=hk) (he:=he.pe) (hf:=hf.pe) (hd:=hd) (hbase:=hbase) (hfew:=hfew) (hline:=hline) (hs:=hs)⟩
end
section
variable {X:Cx}{o e:Expr}{f g:DE}{apos cpos:Pos}
theorem Vn(ho:QE X o (LE X.K f))(he:QE X e (LE X.K g))(hbase:attributeBase o "index" X.env (eval o X.env)=eval o X.env:=by rfl)(hfew:((backTo cpos (starEach [e] X.env)).all (fun x=>!x.1)&&(backToKw cpos (keywordEach [] X.env)).all (fun x=>x.1.isSome)&&decide ([e].length+([]:List Keyword).length+(if ([]:List Keyword).isEmpty then 0 else 1)<30))=true:=by rfl)(hline:(apos.endLine==cpos.line)=true:=by rfl)(hs:backTo cpos (starEach [e] X.env)=[(false,eval e X.env)]:=by rfl):QE X (.Call (.Attribute o "index" apos) [e] [] cpos) (LE X.K (uC f g)):=⟨B2 (ho:=ho.pe) (he:=he.pe) (hbase:=hbase) (hfew:=hfew) (hline:=hline) (hs:=hs)⟩
end
section
variable {X:Cx}{a:Expr}{f:DE}{pos p2:Pos}
theorem Fv{lo hi:Option Expr}{tl th:DO}(ha:QE X a (LE X.K f))(hl:QO X lo (LO X.K tl))(hu:QO X hi (LO X.K th)):QE X (.Subscript a (.Slice lo hi none p2) pos) (LE X.K (qK f tl th)):=⟨W4 (ha:=ha.pe) (hl:=hl.pe) (hu:=hu.pe)⟩
end
section
variable {X:Cx}{a:Expr}{elts:List Expr}{j:Nat}{f:DE}{pos p p2:Pos}
theorem Zx(hg:Gl X "enumerate")(hm:X.mg "enumerate"=none)(ha:QE X a (LE X.K f))(hs:starEach [a] X.env=[(false,eval a X.env)]:=by rfl):QI X (.Tuple elts j p2) (.Call (.Name "enumerate" p) [a] [] pos) (LI X.K (Av f)):=⟨Wh (hg:=hg) (hm:=hm) (ha:=ha.pe) (hs:=hs)⟩
end
section
variable {X:Cx}{e:Expr}{f:DE}{pos p:Pos}
theorem Fa(hc:X.calm=true)(hg:Gl X "dict")(hm:X.mg "dict"=none)(he:QE X e (LE X.K f))(hs:starEach [e] X.env=[(false,eval e X.env)]:=by rfl):QE X (.Call (.Name "dict" p) [e] [] pos) (LE X.K (sD f)):=⟨U7 (hc:=hc) (hg:=hg) (hm:=hm) (he:=he.pe) (hs:=hs)⟩
end
section
variable {X:Cx}{e:Expr}{f:DE}
theorem GK(he:QE X e (LE X.K f)):QE X e (LE X.K (yP f)):=⟨DZ (he:=he.pe)⟩
end
section
variable {X:Cx}{a b c:Expr}{f g h:DE}{pos:Pos}
theorem Wi{op op':CmpOp}{r r':D2}(ho:cM X (compareOp op) r)(ho':cM X (compareOp op') r')(ha:QE X a (LE X.K f))(hb:QE X b (LE X.K g))(hc:QE X c (LE X.K h))(hm:lastMarks [op,op'] [b,c]=false:=by with_unfolding_all rfl):QE X (.Compare a [op,op'] [b,c] pos) (LE X.K (lZ r r' f g h)):=⟨DW (ho:=ho) (ho':=ho') (ha:=ha.pe) (hb:=hb.pe) (hc:=hc.pe) (hm:=hm)⟩
end
section
variable {X:Cx}{a b c:Expr}{f g h:DE}{pos:Pos}
theorem f9{op op':CmpOp}{r r':D2}(ho:cM X (compareOp op) r)(ho':cM X (compareOp op') r')(ha:QE X a (LE X.K f))(hb:QE X b (LE X.K g))(hc:QE X c (LE X.K h))(hm:lastMarks [op,op'] [b,c]=false:=by with_unfolding_all rfl):QT X (.Compare a [op,op'] [b,c] pos) (LT X.K (bG (lZ r r' f g h))):=⟨rL (ho:=ho) (ho':=ho') (ha:=ha.pe) (hb:=hb.pe) (hc:=hc.pe) (hm:=hm)⟩
end
section
variable {X:Cx}{a b c:Expr}{f g h:DE}{pos:Pos}
theorem pZ{x:Str}{i:Int}{t:Tok}(hg:Gl X x)(hm:X.mg x=some (.int i t))(hd:(x==("__debug__" : Str))=false:=by decide):QE X (.Name x pos) (LE X.K (aE (.int i))):=⟨Ux (hg:=hg) (hm:=hm) (hd:=hd)⟩
end
section
variable {X:Cx}{a b c:Expr}{f g h:DE}{pos:Pos}
theorem Jw{x:Str}{z:Str}{t:Tok}(hg:Gl X x)(hm:X.mg x=some (.str z t))(hd:(x==("__debug__" : Str))=false:=by decide):QE X (.Name x pos) (LE X.K (aE (.str z))):=⟨L1 (hg:=hg) (hm:=hm) (hd:=hd)⟩
end
section
variable {X:Cx}{a:Expr}{tg:Expr}{f:DE}
theorem Sm(ha:QE X a (LE X.K f)):QI X tg a (LI X.K (qY f)):=⟨HH (ha:=ha.pe)⟩
end
section
variable {X:Cx}{o e:Expr}{f g:DE}{apos cpos:Pos}
theorem GF{name:Str}{F:Str->Str->Str}(hM:Ax name F)(ho:QE X o (LE X.K f))(he:QE X e (LE X.K g))(hbase:attributeBase o name X.env (eval o X.env)=eval o X.env:=by rfl)(hs:starEach [e] X.env=[(false,eval e X.env)]:=by rfl)(hline:(apos.endLine==cpos.line)=true:=by rfl):QE X (.Call (.Attribute o name apos) [e] [] cpos) (LE X.K (tJ F f g)):=⟨Z0 (hM:=hM) (ho:=ho.pe) (he:=he.pe) (hbase:=hbase) (hs:=hs) (hline:=hline)⟩
end
section
variable {X:Cx}{o e:Expr}{f g:DE}{apos cpos:Pos}
theorem T9(ho:QE X o (LE X.K f))(he:QE X e (LE X.K g))(hbase:attributeBase o "partition" X.env (eval o X.env)=eval o X.env:=by rfl)(hs:starEach [e] X.env=[(false,eval e X.env)]:=by rfl)(hline:(apos.endLine==cpos.line)=true:=by rfl):QE X (.Call (.Attribute o "partition" apos) [e] [] cpos) (LE X.K (Ak f g)):=⟨X4 (ho:=ho.pe) (he:=he.pe) (hbase:=hbase) (hs:=hs) (hline:=hline)⟩
end
section
variable {X:Cx}{o e:Expr}{f g:DE}{apos cpos:Pos}
theorem Dm(ho:QE X o (LE X.K f))(he:QE X e (LE X.K g))(hbase:attributeBase o "split" X.env (eval o X.env)=eval o X.env:=by rfl)(hs:starEach [e] X.env=[(false,eval e X.env)]:=by rfl)(hline:(apos.endLine==cpos.line)=true:=by rfl):QE X (.Call (.Attribute o "split" apos) [e] [] cpos) (LE X.K (pB f g)):=⟨L8 (ho:=ho.pe) (he:=he.pe) (hbase:=hbase) (hs:=hs) (hline:=hline)⟩
end
section
variable {X:Cx}{e:Expr}{f:DE}{pos:Pos}
theorem gP(he:QE X e (LE X.K f)):QE X (.FormattedValue e (-1) none pos) (LE X.K (fN f)):=⟨Vt (he:=he.pe)⟩
end
section
variable {X:Cx}{e:Expr}{f:DE}{pos:Pos}
theorem lR  : QJ X [] []:=⟨BM ⟩
end
section
variable {X:Cx}{e:Expr}{f:DE}{pos:Pos}
theorem eK{es:List Expr}{fs:List DE}(h:QE X e (LE X.K f))(r:QJ X es fs):QJ X (e::es) (f::fs):=⟨D6 (h:=h.pe) (r:=r.pe)⟩
end
section
variable {X:Cx}{e:Expr}{f:DE}{pos:Pos}
theorem lM{e2:Expr}{es:List Expr}{fs:List DE}(h:QJ X (e::e2::es) fs):QE X (.JoinedStr (e::e2::es) pos) (LE X.K (gV Str.empty fs)):=⟨j8 (h:=h.pe)⟩
end
section
variable {X:Cx}{e:Expr}{f:DE}{pos:Pos}
theorem O0(h:QE X e (LE X.K f)):QE X (.JoinedStr [e] pos) (LE X.K f):=⟨BY (h:=h.pe)⟩
end
section
variable {X:Cx}{st:Stmt}{o e:Expr}{f g:DE}{p apos cpos:Pos}
theorem fJ  : QS X st (LS X.K eU):=⟨DN ⟩
end
section
variable {X:Cx}{st:Stmt}{o e:Expr}{f g:DE}{p apos cpos:Pos}
theorem EH{z:Str}{jc:Nat}(he:QE X e (LE X.K g))(hbase:attributeBase (.Constant (.str z) jc p) "join" X.env (eval (.Constant (.str z) jc p) X.env)=eval (.Constant (.str z) jc p) X.env:=by rfl)(hfew:((backTo cpos (starEach [e] X.env)).all (fun x=>!x.1)&&(backToKw cpos (keywordEach [] X.env)).all (fun x=>x.1.isSome)&&decide ([e].length+([]:List Keyword).length+(if ([]:List Keyword).isEmpty then 0 else 1)<30))=true:=by rfl)(hline:(apos.endLine==cpos.line)=true:=by rfl)(hs:starEach [e] X.env=(false,eval e X.env)::starEach [] X.env:=by rfl):QE X (.Call (.Attribute (.Constant (.str z) jc p) "join" apos) [e] [] cpos) (LE X.K (yD z g)):=⟨Xc (he:=he.pe) (hbase:=hbase) (hfew:=hfew) (hline:=hline) (hs:=hs)⟩
end
section
variable {X:Cx}{st:Stmt}{o e:Expr}{f g:DE}{p apos cpos:Pos}
theorem AN(ho:QE X o (LE X.K f))(hbase:attributeBase o "clear" X.env (eval o X.env)=eval o X.env:=by rfl)(hline:(apos.endLine==cpos.line)=true:=by rfl):QE X (.Call (.Attribute o "clear" apos) [] [] cpos) (LE X.K (yQ f)):=⟨O7 (ho:=ho.pe) (hbase:=hbase) (hline:=hline)⟩
end
section
variable {X:Cx}{e:Expr}{f g:DE}
theorem Mr(hf:QE X e (LE X.K f))(hg:QE X e (LE X.K g)):QE X e (LE X.K (pR f g)):=⟨j2 (hf:=hf.pe) (hg:=hg.pe)⟩
end
section
variable {X:Cx}{e:Expr}{f g:DE}
theorem uD{i:Nat}(he:QE X e (LE X.K f)):QE X e (LE X.K (mM i f)):=⟨g9 (he:=he.pe)⟩
end
section
variable {P:Program}{w:World}{K:ac}{mg:Str->Option Value}{base:Heap}
theorem DQ{x qual:Str}{st:Stmt}{fa:Addr}{fd:FuncData}{N ps:List Str}{k:Nat}{sp:DC}{body:DS}(F:Fun K x qual st fa fd)(S:FnScope N ps (eF st))
  (hb:∀ (cdv:Value) (A:Around) (outer:List Env) (s:Shared) (H:Hp) (E:XK),Room k (A.deeper (envOfC qual (eF st) s.heap.objs.size fa cdv))->QSs (iI eV P w K mg base N qual (eF st) fa cdv A outer s H E).nox (hU st) (LS K body))
  (hv:∀ ds m R,ds.length=ps.length->sp ds m R->body {nx:=fun _ m=>R (.dat .none) m,rt:=R} (bY N ds) m):FnOk P w K mg base eV (k+1) fa fd ps (LSp K ps.length sp):=N9 F S (fun cdv A outer s H E hr=>(hb cdv A outer s H E hr).pe) hv
end
end DL
namespace DL
open PySem PySem.Spec PyProof.Rows L2
section
variable {P:Program}{w:World}{K:ac}{mg:Str->Option Value}{base:Heap}
def Df(K:ac)(mg:Str->Option Value)(nm:Str)(st:Stmt)(a:Addr):Prop:=∃ fd,Fun K nm nm st a fd/\mg nm=some (.ref a)
structure Cal (P:Program) (w:World) (K:ac) (mg:Str->Option Value) (base:Heap) (nm:Str) (st:Stmt) (a:Addr) (ps:List Str) (k:Nat) (sp:DC):Prop where
 ex:∃ fd,Fun K nm nm st a fd/\Binds K fd ps []/\mg nm=some (.ref a)/\FnOk P w K mg base eV k a fd ps (LSp K ps.length sp)
abbrev Io(ps N:List Str)(sp:DC)(b:DS):Prop:=∀ ds m R,ds.length=ps.length->sp ds m R->b {nx:=fun _ m=>R (.dat .none) m,rt:=R} (bY N ds) m
abbrev xW(nm:Str)(st:Stmt)(ps:List Str):Prop:=∀ (kV doc pm:Value) (an:Option Addr) (cdv ct:Value) (us:List Value),us.length=ps.length->bindArgs (PySem.W.fnOf nm nm (mB st) (hU st) (eF st) .none kV doc pm an cdv ct) ⟨us,[]⟩=pure (ps.zip us)
theorem P1{nm:Str}{st:Stmt}{a:Addr}{N ps:List Str}{k:Nat}{sp:DC}{body:DS}(D:Df K mg nm st a)(hb:xW nm st ps)(S:FnScope N ps (eF st))
  (hq:∀ (cdv:Value) (A:Around) (outer:List Env) (s:Shared) (H:Hp) (E:XK),Room k (A.deeper (envOfC nm (eF st) s.heap.objs.size a cdv))->N.Nodup->QSs (iI eV P w K mg base N nm (eF st) a cdv A outer s H E).nox (hU st) (LS K body))
  (hv:Io ps N sp body):Cal P w K mg base nm st a ps (k+1) sp:=by
 obtain⟨fd,F,M⟩:=D;exact⟨⟨fd,F,F.binds hb,M,DQ F S (fun cdv A outer s H E hr=>hq cdv A outer s H E hr S.nd) hv⟩⟩
theorem V5{fd:FuncData}{ps:List Str}(h:bindArgs fd {pos:=[]}=pure (ps.zip [])):∀ us:List Value,us.length=0->bindArgs fd {pos:=us}=pure (ps.zip us)
 | [],_=>h
theorem Mc{fd:FuncData}{ps:List Str}(h:∀ a0,bindArgs fd {pos:=[a0]}=pure (ps.zip [a0])):∀ us:List Value,us.length=1->bindArgs fd {pos:=us}=pure (ps.zip us)
 | [a0],_=>h a0
theorem EX{fd:FuncData}{ps:List Str}(h:∀ a0 a1,bindArgs fd {pos:=[a0,a1]}=pure (ps.zip [a0,a1])):∀ us:List Value,us.length=2->bindArgs fd {pos:=us}=pure (ps.zip us)
 | [a0,a1],_=>h a0 a1
theorem W5{fd:FuncData}{ps:List Str}(h:∀ a0 a1 a2,bindArgs fd {pos:=[a0,a1,a2]}=pure (ps.zip [a0,a1,a2])):∀ us:List Value,us.length=3->bindArgs fd {pos:=us}=pure (ps.zip us)
 | [a0,a1,a2],_=>h a0 a1 a2
theorem C4{fd:FuncData}{ps:List Str}(h:∀ a0 a1 a2 a3,bindArgs fd {pos:=[a0,a1,a2,a3]}=pure (ps.zip [a0,a1,a2,a3])):∀ us:List Value,us.length=4->bindArgs fd {pos:=us}=pure (ps.zip us)
 | [a0,a1,a2,a3],_=>h a0 a1 a2 a3
theorem c8{fd:FuncData}{ps:List Str}(h:∀ a0 a1 a2 a3 a4,bindArgs fd {pos:=[a0,a1,a2,a3,a4]}=pure (ps.zip [a0,a1,a2,a3,a4])):∀ us:List Value,us.length=5->bindArgs fd {pos:=us}=pure (ps.zip us)
 | [a0,a1,a2,a3,a4],_=>h a0 a1 a2 a3 a4
theorem AK{fd:FuncData}{ps:List Str}(h:∀ a0 a1 a2 a3 a4 a5,bindArgs fd {pos:=[a0,a1,a2,a3,a4,a5]}=pure (ps.zip [a0,a1,a2,a3,a4,a5])):∀ us:List Value,us.length=6->bindArgs fd {pos:=us}=pure (ps.zip us)
 | [a0,a1,a2,a3,a4,a5],_=>h a0 a1 a2 a3 a4 a5
theorem cD(P:Program)(w:World)(K:ac)(mg:Str->Option Value)(base:Heap)(k:Nat)(N:List Str)(body:DS){nm:Str}{st:Stmt}{a:Addr}{ps:List Str}{sp:DC}(D:Df K mg nm st a)(hv:Io ps N sp body)
  (hq:∀ (cdv:Value) (A:Around) (outer:List Env) (s:Shared) (H:Hp) (E:XK),Room k (A.deeper (envOfC nm (eF st) s.heap.objs.size a cdv))->N.Nodup->QSs (iI eV P w K mg base N nm (eF st) a cdv A outer s H E).nox (hU st) (LS K body))
  (hb:xW nm st ps:=by first | exact fun _ _ _ _ _ _=>Mc (by intros;rfl) | exact fun _ _ _ _ _ _=>EX (by intros;rfl) | exact fun _ _ _ _ _ _=>W5 (by intros;rfl) | exact fun _ _ _ _ _ _=>C4 (by intros;rfl) | exact fun _ _ _ _ _ _=>c8 (by intros;rfl) | exact fun _ _ _ _ _ _=>AK (by intros;rfl) | exact fun _ _ _ _ _ _=>V5 (by intros;rfl))
  (S:FnScope N ps (eF st):=by exact⟨rfl,rfl,rfl,by decide +kernel,rfl,by decide +kernel,by decide +kernel⟩):Cal P w K mg base nm st a ps (k+1) sp:=P1 D hb S hq hv
end
section
variable {X:Cx}{pos p:Pos}{nm:Str}{st:Stmt}{a:Addr}{ps:List Str}{k:Nat}{sp:DC}
theorem BE{n:Nat}{e:Expr}{es:List Expr}{ga:DA}(C:Cal X.prog X.w X.K X.mg X.base nm st a ps k sp)(hr:Room k X.A)(hx:X.xe=fun _ _=>False)(ha:QA X (e::es) (LA X.K ga))(hg:Gl X nm:=by rfl)(hdb:(nm==("__debug__" : Str))=false:=by decide)(he:starEach (e::es) X.env=(false,eval e X.env)::starEach es X.env:=by rfl)(hpl:(backTo pos (starEach es X.env)).any (·.1)=false:=by rfl)(hn:ps.length=n:=by rfl) :
  QE X (.Call (.Name nm p) (e::es) [] pos) (LE X.K (aQ n sp ga)):=by
 subst hn;obtain⟨fd,F,B,M,C⟩:=C.ex;exact BF C hr M F.kp B hx ha hg hdb he hpl
theorem bD{j n:Nat}{e:Expr}{es:List Expr}{ga:DA}(C:Cal X.prog X.w X.K X.mg X.base nm st a ps k sp)(hr:Room j X.A)(ha:QA X (e::es) (LA X.K ga))(hk:k<=j:=by decide)(hx:X.xe=fun _ _=>False:=by rfl)(hg:Gl X nm:=by rfl)(hdb:(nm==("__debug__" : Str))=false:=by decide)(he:starEach (e::es) X.env=(false,eval e X.env)::starEach es X.env:=by rfl)(hpl:(backTo pos (starEach es X.env)).any (·.1)=false:=by rfl)(hn:ps.length=n:=by rfl) :
  QE X (.Call (.Name nm p) (e::es) [] pos) (LE X.K (aQ n sp ga)):=BE C (hr.mono hk) hx ha hg hdb he hpl hn
end
section
variable {K:ac}{h:Heap}{mg:Str->Option Value}
def Ed(K:ac)(d:Str×Stmt×Addr):Prop:=PySem.W.nsIn K mainGlobals d.1=some (some (.ref d.2.2))/\∃ fd,Fun K d.1 d.1 d.2.1 d.2.2 fd
theorem di{nm:Str}{st:Stmt}{f:Addr}{oc:Value}{od an:Option Addr}{osl:Array (Option Value)}{kV doc pm cdv ct:Value}(n:PySem.W.nsIn K mainGlobals nm=some (some (.ref f)))(l:K.lookup f=some ⟨oc,od,.func (PySem.W.fnOf nm nm (mB st) (hU st) (eF st) .none kV doc pm an cdv ct),osl⟩)
  (c:PySem.W.codeIn K cdv nm=true) (k:PySem.W.keepIn K (.ref f)=true):Ed K (nm,st,f):=⟨n,_,Wg l c k⟩
def Ct(K:ac):List (Str×Stmt×Addr)->Prop
 | []=>True
 | d::r=>Ed K d/\Ct K r
theorem dfs_of(X:K.In h)(G:h.Ns mainGlobals mg):∀ (l:List (Str×Stmt×Addr)),Ct K l->∀ (i:Nat) (nm:Str) (st:Stmt) (a:Addr),l[i]?=some (nm,st,a)->Df K mg nm st a
 | [],_,i,nm,st,a,e=>by simp at e
 | d::r,⟨⟨n,fd,F⟩,_⟩,0,nm,st,a,e=>by
  simp at e;subst e;exact⟨fd,F,PySem.W.mg_of X G n⟩
 | d::r,⟨_,h⟩,i+1,nm,st,a,e=>dfs_of X G r h i nm st a (by simpa using e)
def Rc(K:ac):List Str->Prop
 | []=>True
 | x::r=>PySem.W.nsIn K mainGlobals x=some none/\Rc K r
theorem nos_of(X:K.In h)(G:h.Ns mainGlobals mg):∀ (l:List Str),Rc K l->∀ (i:Nat) (x:Str),l[i]?=some x->mg x=none
 | [],_,i,x,e=>by simp at e
 | d::r,⟨n,_⟩,0,x,e=>by
  simp at e;subst e;exact PySem.W.mg_none_of X G n
 | d::r,⟨_,h⟩,i+1,x,e=>nos_of X G r h i x (by simpa using e)
theorem HF{P:Program}{w:World}{st:Stmt}{a fa:Addr}{y:Str}{k:Nat}{sp:DC}(D:Df K mg "law" st a)(hfa:mg "law"=some (.ref fa))(hb:xW "law" st [y])(C:∀ base:Heap,Cal P w K mg base "law" st a [y] k sp) :
  ∃ fd:FuncData,(∀ (s:Shared) (v:Value),BindsTo s fd ⟨[v],[]⟩ [(y,v)])/\∀ base:Heap,K.In base->base.Ns mainGlobals mg->FnOk P w K mg base eV k fa fd [y] (LSp K 1 sp):=by
 obtain⟨fd,F,M⟩:=D;have e:=hfa.symm.trans M
 cases e
 have B:∀ (s:Shared) (v:Value),BindsTo s fd ⟨[v],[]⟩ [(y,v)]:=fun s v=>by
  obtain⟨oc,od,kV,doc,pm,an,cdv,ct,osl,rfl,lk,hcd⟩:=F.ex;exact .of_eq (hb kV doc pm an cdv ct [v] rfl)
 refine⟨fd,B,fun base _ _=>?_⟩;obtain⟨fd',F',_,_,C⟩:=(C base).ex;obtain⟨oc,od,kV,doc,pm,an,cdv,ct,osl,rfl,lk,hcd⟩:=F.ex;obtain⟨oc',od',kV',doc',pm',an',cdv',ct',osl',rfl,lk',hcd'⟩:=F'.ex;rw[lk]at lk'
 cases lk'
 exact C
end
end DL
set_option maxHeartbeats 1000000
namespace K01
open PySem PySem.Spec PyProof.Rows L2 DL
theorem Ka(a b:Int):Int.gcd b (a.fmod b)=Int.gcd a b:=by
 have h:a.fmod b=a-b*a.fdiv b:=by
  have:=Int.mul_fdiv_add_fmod a b
  omega
 rw[h];have h2:a-b*a.fdiv b=a+b*(-(a.fdiv b)):=by rw[Int.mul_neg];omega
 rw[h2,Int.gcd_add_mul_left_right,Int.gcd_comm]
theorem Ia(a b:Int)(h:b≠0):(a.fmod b).natAbs<b.natAbs:=by
 rcases Int.lt_or_gt_of_ne h with h | h
 ·have h1:=Int.neg_fmod_neg a b
  have h2:=Int.fmod_lt_of_pos (-a) (show 0 < -b by omega)
  have h3:=Int.fmod_nonneg_of_pos (-a) (show 0 < -b by omega)
  omega
 ·have h2:=Int.fmod_lt_of_pos a h
  have h3:=Int.fmod_nonneg_of_pos a h
  omega
theorem log2_lt{n k:Nat}(h:n<2^k)(hk:0<k):n.log2<k:=by
 by_cases hn:n=0
 ·subst hn;simpa using hk
 ·exact(Nat.log2_lt hn).mpr h
def Bd(n:Nat)(i:Int):Prop:=i.natAbs<2^n
theorem Bd.mono{m n:Nat}{i:Int}(h:Bd m i)(hl:m<=n):Bd n i:=ai h (Nat.pow_le_pow_right (by decide) hl)
theorem Bd.mul{m n:Nat}{i j:Int}(h:Bd m i)(g:Bd n j):Bd (m+n) (i*j):=by
 unfold Bd at *;rw[Int.natAbs_mul,Nat.pow_add];exact Nat.mul_lt_mul'' h g
theorem Bd.add{n:Nat}{i j:Int}(h:Bd n i)(g:Bd n j):Bd (n+1) (i+j):=by
 unfold Bd at *;have:=Int.natAbs_add_le i j
 rw[Nat.pow_succ];omega
theorem Bd.neg{n:Nat}{i:Int}(h:Bd n i):Bd n (-i):=by
 unfold Bd at *;rw[Int.natAbs_neg];exact h
theorem Bd.sub{n:Nat}{i j:Int}(h:Bd n i)(g:Bd n j):Bd (n+1) (i-j):=by
 rw[Int.sub_eq_add_neg];exact h.add g.neg
theorem Bd.log{n:Nat}{i:Int}(h:Bd n i)(hn:0<n):i.natAbs.log2<n:=log2_lt h hn
theorem Bd.mulOk{m n:Nat}{i j:Int}(h:Bd m i)(g:Bd n j)(hm:m+n<=134217728):IntMulOk i j :=
 IntMulOk.of_le (intBits_le_iff.mpr h) (intBits_le_iff.mpr g) hm
def fr(t b:Int):PyData:=.tuple [.int (t / (Int.gcd t b:Int)),.int (b / (Int.gcd t b:Int))]
theorem yF{t b:Int}(h:b≠0):(0:Int)<(Int.gcd t b:Int):=by
 have:=Int.gcd_pos_of_ne_zero_right t h
 omega
theorem Hg{x g:Int}(hg:0<g)(hd:g∣x):0<x / g↔0<x:=by
 obtain⟨y,rfl⟩:=hd;rw[Int.mul_ediv_cancel_left _ (by omega)]
 constructor
 ·intro h;exact Int.mul_pos hg h
 ·intro h;exact Int.pos_of_mul_pos_right h hg
end K01
namespace K01
open PySem PySem.Spec PyProof.Rows L2 DL
def Sv(B w e:Nat)(p:PyData):Prop:=p.showable=true/\p.leavesShort B=true/\p.weight<=w/\p.depth<=e
theorem Sv.mono{B w e w' e':Nat}{p:PyData}(h:Sv B w e p)(h1:w<=w')(h2:e<=e'):Sv B w' e' p:=⟨h.1,h.2.1,Nat.le_trans h.2.2.1 h1,Nat.le_trans h.2.2.2 h2⟩
end K01
namespace K17
open PySem PySem.Spec PyProof.Rows L2 DL K01
def a8(xs:List PyData):Prop:=∃ a b c d:Int,xs=[.int a,.int b,.int c,.int d]
def Feeds(m:Mu)(a:Addr):Prop:=∃ xs,m a=some (.l xs)/\a8 xs
def Kp(a:Addr)(m m':Mu):Prop:=∀ c,c≠a->(m c).isSome=true->m' c=m c
def Kn(m m':Mu):Prop:=∀ c,(m c).isSome=true->m' c=m c
abbrev I(i:Int):D:=.dat (.int i)
abbrev fq(x:Int×Int):PyData:=.tuple [.int x.1,.int x.2]
def kP:List Str:=["ahead","meets","overlaps","begins","within","ends","same","ended","holds","begun","lapped","met","behind"]
def kd(k:Bool):Str:=if k then "stretch" else "point"
def WS:Bool->Bool->List Str
 | true,true=>kP
 | false,false=>["ahead","same","behind"]
 | false,true=>["ahead","begins","within","ends","behind"]
 | true,false=>["ahead","ended","holds","begun","behind"]
def kH(x:Int):Int:=(if 0<x then 1 else 0)-(if x<0 then 1 else 0)
def eM(x y:Int×Int):Int:=kH (x.1*y.2-y.1*x.2)
def row(i j:Int):Str:=if i<0 then (if j<0 then "overlaps" else if j=0 then "ended" else "holds") else if i=0 then (if j<0 then "begins" else if j=0 then "same" else "begun") else (if j<0 then "within" else if j=0 then "ends" else "lapped")
def wc(both:Bool)(s1 s2 s3 s4:Int):Str:=if s1<0 then "ahead" else if 0<s2 then "behind" else if both=true/\s1=0 then "meets" else if both=true/\s2=0 then "met" else row s3 s4
def wd(both:Bool)(a0 a1 b0 b1:Int×Int):Str:=wc both (eM a1 b0) (eM a0 b1) (eM a0 b0) (eM a1 b1)
structure Tm (p:PyData) (k:Bool) (x y:Int×Int):Prop where
 eq:p=if k then .tuple [fq x,fq y] else fq x
 px:0<x.2
 py:0<y.2
 st:k=true->x.1*y.2<y.1*x.2
 pt:k=false->y=x
 b1:Bd 800 x.1
 b2:Bd 800 x.2
 b3:Bd 800 y.1
 b4:Bd 800 y.2
abbrev jI(k l:Bool):PyData:=.tuple [.str (kd k),.str (kd l)]
def Ap:DC:=fun ds m R=>∃ a b:Int,ds=[I a,I b]/\R (I (Int.gcd a b)) m
def xV:DC:=fun ds m R=>∃ k l,ds=[.dat (jI k l)]/\R (.dat (.tuple ((WS k l).map .str))) m
def wX:DC:=fun ds m R=>∃ (ns:List Int) (k:Int),ds=[.dat (.list (ns.map .int)),I k]/\ns.length<=63/\0<=k/\k<=1000/\∀ a m',Feeds m' a->R (.cel a) m'
def cK:DC:=fun ds m R=>∃ (a:Addr) (n:Int),ds=[.cel a,I n]/\0<n/\Bd 2000 n/\Feeds m a/\∀ (r:Int) m',0<=r->r<n->Feeds m' a->Kp a m m'->R (I r) m'
def iN:DC:=fun ds m R=>∃ t b:Int,ds=[I t,I b]/\0<b/\Bd 2000 b/\R (.dat (fr t b)) m
def Zs:DC:=fun ds m R=>∃ x y:Int×Int,ds=[.dat (fq x),.dat (fq y)]/\Bd 2000 x.1/\Bd 2000 x.2/\Bd 2000 y.1/\Bd 2000 y.2/\R (I (eM x y)) m
def U4:DC:=fun ds m R=>∃ p q k l a0 a1 b0 b1,ds=[.dat p,.dat q]/\Tm p k a0 a1/\Tm q l b0 b1/\R (.dat (.str (wd (k&&l) a0 a1 b0 b1))) m
def iR:DC:=Zs
def Ar:DC:=U4
abbrev TH(ts:List (Str×Bool)):PyData:=.tuple (ts.map fun t=>.tuple [.str t.1,.str (kd t.2)])
def TmAll:List (Str×Bool)->List PyData->Prop
 | [],[]=>True
 | t::ts,p::ps=>(∃ x y,Tm p t.2 x y)/\TmAll ts ps
 | _,_=>False
def kD:PyData->Bool×(Int×Int)×(Int×Int)
 | .tuple [.tuple [.int a,.int b],.tuple [.int c,.int d]]=>(true,(a,b),(c,d))
 | .tuple [.int a,.int b]=>(false,(a,b),(a,b))
 | _=>(false,(0,1),(0,1))
def jR(n:Nat)(p:PyData):Prop:=Bd n (kD p).2.1.1/\Bd n (kD p).2.1.2/\Bd n (kD p).2.2.1/\Bd n (kD p).2.2.2
def eO(z:Str):Prop:=(∀ c∈z.cps.toList,97<=c/\c<=122)/\1<=z.length/\z.length<=8
structure Nm (zs:List Str):Prop where
 nd:zs.Nodup
 le:zs.length<=6
 gd:∀ z∈zs,eO z
 up:zs.Pairwise fun a b=>a.cps.toList<b.cps.toList
def rA:DC:=fun ds m R=>∃ (a:Addr) (k:Bool) (base hV bottom:Int),ds=[.cel a,.dat (.str (kd k)),I base,I hV,I bottom]/\2<=hV/\hV<=9/\-1000<=base/\base<=1000000/\1<=bottom/\bottom<=1000000/\Feeds m a /\
 ∀ p x y m',Tm p k x y->jR 60 p->Feeds m' a->R (.dat p) m'
def Ag:DC:=fun ds m R=>∃ (a:Addr) (n:Int),ds=[.cel a,I n]/\1<=n/\n<=6/\Feeds m a/\∀ (zs:List Str) m',(zs.length:Int)=n->Nm zs->Feeds m' a->R (.dat (.list (zs.map .str))) m'
def vR:DC:=fun ds m R=>∃ (a:Addr) (n:Int),ds=[.cel a,I n]/\1<=n/\n<=6/\Feeds m a/\∀ (ks:List Bool) m',(ks.length:Int)=n->Feeds m' a->R (.dat (.tuple (ks.map fun k=>.str (kd k)))) m'
def zI:DC:=fun ds m R=>∃ (a:Addr) (n:Int),ds=[.cel a,I n]/\1<=n/\n<=6/\Feeds m a/\∀ (ts:List (Str×Bool)) m',1<=ts.length->Nm (ts.map (·.1))->Feeds m' a->R (.dat (TH ts)) m'
def As:DC:=fun ds m R=>∃ (a:Addr) (ts:List (Str×Bool)),ds=[.cel a,.dat (TH ts)]/\ts.length<=6/\Feeds m a/\∀ (ps:List PyData) m',TmAll ts ps->(∀ p∈ps,jR 60 p)->Feeds m' a->R (.dat (.tuple ps)) m'
def FN(ns:List Str)(ps:List PyData)(z:Str):PyData:=ps.getD (ns.idxOf z) .none
abbrev FT(ts:List (Str×Bool))(ps:List PyData)(z:Str):PyData:=FN (ts.map (·.1)) ps z
abbrev cG(x:Str×Bool):PyData:=.tuple [.str x.1,.int (if x.2 then 1 else 0)]
def gO(ts:List (Str×Bool))(ps:List PyData)(x:Str×Bool):Int×Int:=if x.2 then (kD (FT ts ps x.1)).2.2 else (kD (FT ts ps x.1)).2.1
def bT:List (Str×Bool)->List (Str×Bool)
 | []=>[]
 | t::ts=>(t.1,false)::((if t.2 then [(t.1,true)] else [])++bT ts)
inductive Say where
 | may (a b:Str) (ws:List Str)
 | gap (x y:Str×Bool) (n:Int×Int) (s:Bool)
def cL:Say->PyData
 | .may a b ws=>.tuple [.str "may",.str a,.str b,.tuple (ws.map .str)]
 | .gap x y n s=>.tuple [.str "gap",cG x,cG y,fq n,.bool s]
def cS(ts:List (Str×Bool))(a:Str):Bool:=((ts.find? fun t=>decide (t.1=a)).map (·.2)).getD false
structure NumOk (n:Int×Int):Prop where
 pos:1<=n.2
 le:n.2<=999999
 lo:-999999<=n.1
 hi:n.1<=999999
 gcd:Int.gcd n.1 n.2=1
def dB(ts:List (Str×Bool)):Say->Prop
 | .may a b ws=>a∈ts.map (·.1)/\b∈ts.map (·.1)/\a≠b/\ws≠[]/\List.Sublist ws (WS (cS ts a) (cS ts b))
 | .gap x y n s=>x∈bT ts/\y∈bT ts/\x≠y/\NumOk n
abbrev TK(ts:List (Str×Bool))(ss:List Say):PyData:=.tuple [TH ts,.tuple (ss.map cL)]
def nE:DC:=fun ds m R=>∃ k l,ds=[.dat (jI k l)]/\R (.dat (.list ((WS k l).map .str))) m
def Ab:DC:=fun ds m R=>∃ a k l,ds=[.cel a,.dat (jI k l)]/\Feeds m a/\∀ zs m',List.Sublist zs (WS k l)->Feeds m' a->Kp a m m'->R (.dat (.tuple (zs.map .str))) m'
def rF:DC:=fun ds m R=>∃ ts:List (Str×Bool),ds=[.dat (TH ts)]/\ts.length<=6/\∀ c m',m c=none->Kn m m'->m' c=some (.l ((bT ts).map cG))->R (.cel c) m'
def nK:DC:=fun ds m R=>∃ ts ps x,ds=[.dat (TH ts),.dat (.tuple ps),.dat (cG x)]/\Nm (ts.map (·.1))/\TmAll ts ps/\x.1∈ts.map (·.1)/\R (.dat (fq (gO ts ps x))) m
def wQ:DC:=fun ds m R=>∃ (a:Addr) (ts:List (Str×Bool)) (ps:List PyData),ds=[.cel a,.dat (TH ts),.dat (.tuple ps)]/\Nm (ts.map (·.1))/\TmAll ts ps/\2<=ts.length/\Feeds m a/\∀ s m',dB ts s->Feeds m' a->Kp a m m'->R (.dat (cL s)) m'
def pY:DC:=fun ds m R=>∃ (a:Addr) (ts:List (Str×Bool)) (ps:List PyData),ds=[.cel a,.dat (TH ts),.dat (.tuple ps)]/\Nm (ts.map (·.1))/\TmAll ts ps/\(∀ p∈ps,jR 60 p)/\2<=(bT ts).length/\Feeds m a/\∀ s m',dB ts s->Feeds m' a->Kp a m m'->R (.dat (cL s)) m'
def uR:DC:=fun ds m R=>∃ (a:Addr) (ts:List (Str×Bool)) (ps:List PyData) (n:Int),ds=[.cel a,.dat (TH ts),.dat (.tuple ps),I n]/\Nm (ts.map (·.1))/\TmAll ts ps/\(∀ p∈ps,jR 60 p)/\0<=n/\n<=24/\Feeds m a/\∀ ss m',ss.length<=24->(∀ s∈ss,dB ts s)->Feeds m' a->R (.dat (TK ts ss)) m'
abbrev mN(ts:List (Str×Bool)):PyData:=.list (ts.map fun t=>.tuple [.str t.1,.str (kd t.2)])
def gY(p:PyData)(ts:List (Str×Bool)):Prop:=p=TH ts\/p=mN ts
abbrev sI(i:Int):Str:=Str.ofString (toString i)
def dH(n:Int×Int):Str:=if 1<n.2 then sI n.1++"/"++sI n.2 else sI n.1
def dX(ts:List (Str×Bool))(x:Str×Bool):Str:=if cS ts x.1 then x.1++(if x.2 then ".end" else ".begin" : Str) else x.1
def cU(ts:List (Str×Bool)):Say->List Str
 | .may a b ws=>"may" :: a::b::ws
 | .gap x y n s=>"gap" :: dX ts x::dX ts y::dH n::(if s then ["strict"] else [])
def eJ(ts:List (Str×Bool))(s:Say):Str:=Txt.join " " (cU ts s)
def fU(t:Str×Bool):Str:=Txt.join " " [kd t.2,t.1]
def dL(ts:List (Str×Bool))(ss:List Say):List Str:=ts.map fU++ss.map (eJ ts)
abbrev sL(zs:List Str):PyData:=.list (zs.map .str)
def mW(z:Str):Bool:=z.cps.toList.all fun c=>decide (48<=c/\c<=57)
def pQ:DC:=fun ds m R=>∃ i:Int,ds=[I i]/\R (.dat (.bool true)) m
def rB:DC:=fun ds m R=>∃ n,ds=[.dat (fq n)]/\NumOk n/\R (.dat (.bool true)) m
def zJ:DC:=fun ds m R=>∃ z,ds=[.dat (.str z)]/\eO z/\R (.dat (.bool true)) m
def qS:DC:=fun ds m R=>∃ p ts,ds=[.dat p]/\gY p ts/\ts.length<=6/\R (.dat (sL (ts.map (·.1)))) m
def sK:DC:=fun ds m R=>∃ p ts a b,ds=[.dat p,.dat (.str a),.dat (.str b)]/\gY p ts/\Nm (ts.map (·.1))/\a∈ts.map (·.1)/\b∈ts.map (·.1)/\∀ m',Kn m m'->R (.dat (jI (cS ts a) (cS ts b))) m'
def xJ:DC:=fun ds m R=>∃ p ts,ds=[.dat p]/\gY p ts/\ts.length<=6/\R (.dat (.list ((bT ts).map cG))) m
def qI:DC:=fun ds m R=>∃ n,ds=[.dat (fq n)]/\NumOk n/\R (.dat (.str (dH n))) m
def mC:DC:=fun ds m R=>∃ z,ds=[.dat (.str z),I 6]/\z.length<=100/\R (.dat (.bool (decide (1<=z.length)&&(decide (z.length<=6)&&mW z)))) m
def uU:DC:=fun ds m R=>∃ n,ds=[.dat (.str (dH n)),I 6]/\NumOk n/\R (.dat (fq n)) m
def mP:DC:=fun ds m R=>∃ p ts x,ds=[.dat p,.dat (cG x)]/\gY p ts/\Nm (ts.map (·.1))/\x∈bT ts/\∀ m',Kn m m'->R (.dat (.str (dX ts x))) m'
def pL:DC:=fun ds m R=>∃ p ts x,ds=[.dat p,.dat (.str (dX ts x))]/\gY p ts/\Nm (ts.map (·.1))/\x∈bT ts/\∀ m',Kn m m'->R (.dat (cG x)) m'
def oB:DC:=fun ds m R=>∃ ts s,ds=[.dat (TH ts),.dat (cL s)]/\Nm (ts.map (·.1))/\dB ts s/\∀ m',Kn m m'->R (.dat (.str (eJ ts s))) m'
def qZ:DC:=fun ds m R=>∃ ts ss,ds=[.dat (TK ts ss)]/\Nm (ts.map (·.1))/\ss.length<=24/\(∀ s∈ss,dB ts s)/\∀ c m',m c=none->Kn m m'->m' c=some (.l ((dL ts ss).map .str))->R (.cel c) m'
def iW:DC:=fun ds m R=>∃ (ws:List Str) (i:Nat) (k:Int) (z:Str),ds=[.dat (sL ws),I i,I k]/\ws[i]?=some z/\ws.length<=100/\R (.dat (.str z)) m
def mL:DC:=fun ds m R=>∃ p ts,∃ (ws:List Str) (i:Nat) (k:Int) (z:Str),ds=[.dat p,.dat (sL ws),I i,I k]/\gY p ts/\Nm (ts.map (·.1))/\ws[i]?=some z/\ws.length<=100/\z∈ts.map (·.1)/\R (.dat (.str z)) m
def xT:DC:=fun ds m R=>∃ p ts a b ws,∃ (k:Int),ds=[.dat p,.dat (sL (cU ts (.may a b ws))),I k]/\gY p ts/\Nm (ts.map (·.1))/\dB ts (.may a b ws)/\∀ m',Kn m m'->R (.dat (cL (.may a b ws))) m'
def Af:DC:=fun ds m R=>∃ p ts x y n s,∃ (k:Int),ds=[.dat p,.dat (sL (cU ts (.gap x y n s))),I k]/\gY p ts/\Nm (ts.map (·.1))/\dB ts (.gap x y n s)/\∀ m',Kn m m'->R (.dat (cL (.gap x y n s))) m'
def oW:DC:=fun ds m R=>∃ p ts s,∃ (k:Int),ds=[.dat p,.dat (sL (cU ts s)),I k]/\gY p ts/\Nm (ts.map (·.1))/\dB ts s/\∀ m',Kn m m'->R (.dat (cL s)) m'
def yH:DC:=fun ds m R=>∃ ts s,ds=[.dat (TH ts),.dat (.str (eJ ts s))]/\Nm (ts.map (·.1))/\dB ts s/\∀ m',Kn m m'->R (.dat (cL s)) m'
def wL:DC:=fun ds m R=>∃ ts,∃ (t:Str×Bool) (k:Int),ds=[.dat (mN ts),.dat (sL [kd t.2,t.1]),I k]/\Nm ((ts++[t]).map (·.1))/\R (.dat (.tuple [.str t.1,.str (kd t.2)])) m
def pG:DC:=fun ds m R=>∃ ts ss,ds=[.dat (sL (dL ts ss))]/\Nm (ts.map (·.1))/\1<=ts.length/\ss.length<=24/\(∀ s∈ss,dB ts s)/\∀ m',Kn m m'->R (.dat (TK ts ss)) m'
def qE:DC:=fun ds m R=>∃ ts x,ds=[.dat (TH ts),.dat (cG x)]/\Nm (ts.map (·.1))/\x∈bT ts/\∀ m',Kn m m'->R (.dat (.str (dX ts x))) m'
def zX:DC:=oB
def tU:DC:=fun ds m R=>∃ ts ss,ds=[.dat (TK ts ss)]/\Nm (ts.map (·.1))/\ss.length<=24/\(∀ s∈ss,dB ts s)/\∀ m',Kn m m'->R (.dat (sL (dL ts ss))) m'
def nN:DC:=fun ds m R=>∃ ns:List Int,ds=[.dat (.list (ns.map .int))]/\ns.length<=63/\∀ m',R (.dat (.bool true)) m'
end K17
namespace K17
open PySem PySem.Spec PyProof.Rows L2 DL
-- ranks: is_whole 1,common 1,is_fraction 2,words_of 1,is_name 1,names_of 1,kinds_of 1,ends_of 1,shown_number 1,are_figures 1,read_number 3,shown_end 1,read_end 2,shown_saying 2,shown_talk 3,word_at 1,read_name 2,read_may 3,read_gap 4,read_words 5,read_saying 6,read_thing 2,read_talk 6,_law_feed 1,_law_draw 1,_law_fraction 1,_law_stand 1,_law_word 2,_law_words 1,_law_names 2,_law_kinds 2,_law_things 3,_law_may 2,_law_times 2,_law_telling 3,_law_all_ends 1,_law_time 1,_law_may_saying 3,_law_gap_saying 2,_law_talk 4,_law_end_text 1,_law_row_text 2,_law_rows 3,law 7
def cE(i:Nat):Stmt:=PySem.Challenge.pw_whens_k17_talks_shown_and_read.main.body.getD i (.Pass ⟨0,0,0,0⟩)
abbrev lE:List (Str×PyData):=[("point",.int (1)),("stretch",.int (2))]
abbrev wT:List (List Str×PyData):=[(["point","point"],.tuple (List.map PyData.str ["ahead","same","behind"])),(["point","stretch"],.tuple (List.map PyData.str ["ahead","begins","within","ends","behind"])),(["stretch","point"],.tuple (List.map PyData.str ["ahead","ended","holds","begun","behind"]))]
abbrev Tl:Stmt:=cE 4
abbrev Bk:List Str:=["thing"]
abbrev Qa:List Str:=["thing"]
def uY:DS:=(aG (bN (lH (iH (aA 0) "int") (vJ (iH (aA 0) "bool")))) aL)
abbrev Ik:Stmt:=cE 5
abbrev Op:List Str:=["one","other"]
abbrev Nf:List Str:=["one","other"]
def Pz:DS:=(aG (yM 0 1 (aC (aA 1) (aC (aF fS (aA 0) (aA 1)) aI))) aL)
def Cs:DS:=(aG (bN (bM nD (aC (aA 0) aI))) aL)
def uZ:DS:=(aG (qA (bG (aF fQ (aA 1) (aE (.int 0)))) Pz) Cs)
abbrev Ja:Stmt:=cE 6
abbrev Nb:List Str:=["thing","top","bottom"]
abbrev Fn:List Str:=["thing"]
def Hi:DS:=(aG (bN (lH (aF qH (aA 2) (aE (.int 1))) (aF cJ (aQ 2 Ap (aC (aA 1) (aC (aA 2) aI))) (aE (.int 1))))) aL)
def Ey:DS:=(aG (bU (eA (iE (bG (aQ 1 pQ (aC (aA 1) aI)))) (iE (bG (aQ 1 pQ (aC (aA 2) aI))))) (aG (bN (aE (.bool false))) aL) aL) Hi)
def Ta:DS:=(aG (jT (aA 0) (gT 2 (bV (gN 1) (bV (gN 2) dF)))) Ey)
def wG:DS:=(aG (bU (eA (iE (bG (iH (aA 0) "tuple"))) (bG (aF fQ (bM dA (aC (aA 0) aI)) (aE (.int 2))))) (aG (bN (aE (.bool false))) aL) aL) Ta)
abbrev Mk:Stmt:=cE 11
abbrev Ti:List Str:=["kinds"]
abbrev Fi:List Str:=["kinds"]
def yS:DS:=(aG (bN (qD wT (aA 0) (aE (.tuple (List.map PyData.str ["ahead","meets","overlaps","begins","within","ends","same","ended","holds","begun","lapped","met","behind"]))))) aL)
abbrev Sg:Stmt:=cE 16
abbrev Bg:List Str:=["thing"]
abbrev Kr:List Str:=["thing"]
theorem j9:List.Nodup (["sign"]:List Str):=by decide +kernel
def Ji:DS:=(aG (bN (bM oD (aC (dR [none] (qY (aA 0)) (gN 0) cV (aF rC (aA 0) (aE (.str "abcdefghijklmnopqrstuvwxyz")))) aI))) aL)
def uT:DS:=(aG (bU (eA (iE (bG (iH (aA 0) "str"))) (iE (bG (lZ kU kU (aE (.int 1)) (bM dA (aC (aA 0) aI)) (aE (.int 8)))))) (aG (bN (aE (.bool false))) aL) aL) Ji)
abbrev Es:Stmt:=cE 17
abbrev Pg:List Str:=["things"]
abbrev Te:List Str:=["things"]
theorem Hv:List.Nodup (["name","kind"]:List Str):=by decide +kernel
def yO:DS:=(aG (bN (dR [none,none] (eZ (aA 0)) (gT 2 (bV (gN 0) (bV (gN 1) dF))) cV (aA 0))) aL)
abbrev Ng:Stmt:=cE 18
abbrev Sr:List Str:=["things","a","b","kinds"]
abbrev Kt:List Str:=["things","a","b"]
def vC:DS:=(aG (bN (cY (aC (lQ (aA 3) (aA 1)) (aC (lQ (aA 3) (aA 2)) aI)))) aL)
def xG:DS:=(aG (bI 3 (pR (nU (aA 0)) (sD (aA 0)))) vC)
abbrev Pl:Stmt:=cE 19
abbrev Ov:List Str:=["things"]
abbrev Bx:List Str:=["things"]
theorem uV:List.Nodup (["name","kind","number"]:List Str):=by decide +kernel
def zN:DS:=(aG (bN (qO [none,none,none] (eZ (aA 0)) (gT 2 (bV (gN 0) (bV (gN 1) dF))) cV (fD (nT lE (aA 1))) (gN 2) cV (cY (aC (aA 0) (aC (aA 2) aI))))) aL)
abbrev Cz:Stmt:=cE 24
abbrev Km:List Str:=["number","top","bottom"]
abbrev Kg:List Str:=["number"]
def Dn:DS:=(aG (bN (iC (bG (aF fA (aA 2) (aE (.int 1)))) (gV Str.empty [(fN (aA 1)),(aE (.str "/")),(fN (aA 2))]) (fN (aA 1)))) aL)
def wU:DS:=(aG (jT (aA 0) (gT 2 (bV (gN 1) (bV (gN 2) dF)))) Dn)
abbrev Gf:Stmt:=cE 25
abbrev Rl:List Str:=["text","most"]
abbrev Kf:List Str:=["text","most"]
theorem L7:List.Nodup (["sign"]:List Str):=by decide +kernel
def zM:DS:=(aG (bN (lH (lZ kU kU (aE (.int 1)) (bM dA (aC (aA 0) aI)) (aA 1)) (bM oD (aC (dR [none] (qY (aA 0)) (gN 0) cV (aF rC (aA 0) (aE (.str "0123456789")))) aI)))) aL)
abbrev Jk:Stmt:=cE 26
abbrev Ru:List Str:=["text","most","top","slash","bottom","number"]
abbrev Lm:List Str:=["text","most"]
def Rx:DS:=(aG (bN (iC (jC (bG (aQ 1 rB (aC (aA 5) aI))) (bG (aF cJ (aQ 1 qI (aC (aA 5) aI)) (aA 0)))) (aA 5) (aE .none))) aL)
def mV:DS:=(aG (bI 5 (cY (aC (bM pE (aC (aA 2) aI)) (aC (iC (bG (aF fQ (aA 3) (aE (.str "")))) (bM pE (aC (aA 4) aI)) (aE (.int 1))) aI)))) Rx)
def mO:DS:=(aG (bU (eA (iE (bG (aQ 2 mC (aC (tJ Txt.removeprefix (aA 2) (aE (.str "-"))) (aC (aA 1) aI))))) (jC (bG (aF fQ (aA 3) (aE (.str "")))) (iE (bG (aQ 2 mC (aC (aA 4) (aC (aA 1) aI))))))) (aG (bN (aE .none)) aL) aL) mV)
def Iz:DS:=(aG (jT (Ak (aA 0) (aE (.str "/"))) (gT 3 (bV (gN 2) (bV (gN 3) (bV (gN 4) dF))))) mO)
abbrev Qu:Stmt:=cE 27
abbrev Ra:List Str:=["things","end","name","number"]
abbrev Kw:List Str:=["things","end"]
def nB:DS:=(aG (bN (iC (bG (aF cJ (aA 3) (aE (.int 1)))) (gV Str.empty [(fN (aA 2)),(aE (.str ".end"))]) (gV Str.empty [(fN (aA 2)),(aE (.str ".begin"))]))) aL)
def Gw:DS:=(aG (bU (bG (aF cJ (lQ (pR (nU (aA 0)) (sD (aA 0))) (aA 2)) (aE (.str "point")))) (aG (bN (aA 2)) aL) aL) nB)
def tQ:DS:=(aG (jT (aA 1) (gT 2 (bV (gN 2) (bV (gN 3) dF)))) Gw)
abbrev Bi:Stmt:=cE 28
abbrev Cl:List Str:=["things","text","end"]
abbrev Lg:List Str:=["things","text"]
def uW:DS:=(aG (bU (bG (aF cJ (aQ 2 mP (aC (aA 0) (aC (aA 2) aI))) (aA 1))) (aG (bN (aA 2)) aL) aL) aL)
def R7:DS:=(aG (bN (aE .none)) aL)
def xN:DS:=(aG (iG (eZ (aQ 1 xJ (aC (aA 0) aI))) (gN 2) uW) R7)
abbrev Ec:Stmt:=cE 29
abbrev To:List Str:=["things","saying","word","x","y","number","strict","text"]
abbrev Jf:List Str:=["things","saying"]
def n8:DS:=(aG (bN (iC (bG (aA 6)) (gV Str.empty [(fN (aA 7)),(aE (.str " strict"))]) (aA 7))) aL)
def On:DS:=(aG (bI 7 (gV Str.empty [(fN (aA 2)),(aE (.str " ")),(fN (aQ 2 mP (aC (aA 0) (aC (aA 3) aI)))),(aE (.str " ")),(fN (aQ 2 mP (aC (aA 0) (aC (aA 4) aI)))),(aE (.str " ")),(fN (aQ 1 qI (aC (aA 5) aI)))])) n8)
def Mv:DS:=(aG (jT (aA 1) (gT 5 (bV (gN 2) (bV (gN 3) (bV (gN 4) (bV (gN 5) (bV (gN 6) dF))))))) On)
def qL:DS:=(aG (bU (bG (aF cJ (aF aN (aA 1) (aE (.int 0))) (aE (.str "may")))) (aG (bN (yD " " (aF cF (mI (aA 1) jV (jS (aE (.int 3)))) (aF aN (aA 1) (aE (.int 3)))))) aL) aL) Mv)
abbrev Mg:Stmt:=cE 30
abbrev Dl:List Str:=["talk","things","sayings"]
abbrev Gn:List Str:=["talk"]
theorem Sz:List.Nodup (["name","kind"]:List Str):=by decide +kernel
theorem P2:List.Nodup (["saying","things"]:List Str):=by decide +kernel
def Hq:DS:=(aG (bN (aF vD (dR [none,none] (eZ (aA 1)) (gT 2 (bV (gN 0) (bV (gN 1) dF))) cV (gV Str.empty [(fN (aA 1)),(aE (.str " ")),(fN (aA 0))])) (dR [none,some 1] (eZ (aA 2)) (gN 0) cV (aQ 2 oB (aC (aA 1) (aC (aA 0) aI)))))) aL)
def Ah:DS:=(aG (jT (aA 0) (gT 2 (bV (gN 1) (bV (gN 2) dF)))) Hq)
abbrev Ky:Stmt:=cE 31
abbrev Gq:List Str:=["words","place","row"]
abbrev Ip:List Str:=["words","place","row"]
def Hx:DS:=(aG (bN (aF aN (aA 0) (aA 1))) aL)
def tS:DS:=(aG (bU (bG (aF qH (aA 1) (bM dA (aC (aA 0) aI)))) (aG eU aL) aL) Hx)
abbrev Bj:Stmt:=cE 32
abbrev Sb:List Str:=["things","words","place","row","name"]
abbrev Ry:List Str:=["things","words","place","row"]
def Kh:DS:=(aG (bN (aA 4)) aL)
def Fw:DS:=(aG (bU (bG (aF qM (aA 4) (aQ 1 qS (aC (aA 0) aI)))) (aG eU aL) aL) Kh)
def vL:DS:=(aG (bI 4 (aQ 3 iW (aC (aA 1) (aC (aA 2) (aC (aA 3) aI))))) Fw)
abbrev Js:Stmt:=cE 33
abbrev Iq:List Str:=["things","words","row","a","b","left","place"]
abbrev Mb:List Str:=["things","words","row"]
def xE:DS:=(aG (bI 5 (mI (aA 5) (jS (aF cF (uC (aA 5) (aF aN (aA 1) (aA 6))) (aE (.int 1)))) jV)) aL)
def mQ:DS:=(aG (bU (bG (aF qM (aF aN (aA 1) (aA 6)) (aA 5))) (aG eU aL) aL) xE)
def xI:DS:=(aG (bN (cY (aC (aE (.str "may")) (aC (aA 3) (aC (aA 4) (aC (bM gB (aC (mI (aA 1) (jS (aE (.int 3))) jV) aI)) aI)))))) aL)
def tW:DS:=(aG (iG (wR (aE (.int 3)) (bM dA (aC (aA 1) aI))) (gN 6) mQ) xI)
def zL:DS:=(aG (gX (aQ 3 iW (aC (aA 1) (aC (aE (.int 3)) (aC (aA 2) aI))))) tW)
def tK:DS:=(aG (bI 5 (aQ 1 xV (aC (aQ 3 sK (aC (aA 0) (aC (aA 3) (aC (aA 4) aI)))) aI))) zL)
def zZ:DS:=(aG (bU (bG (aF cJ (aA 4) (aA 3))) (aG eU aL) aL) tK)
def Ao:DS:=(aG (bI 4 (aQ 4 mL (aC (aA 0) (aC (aA 1) (aC (aE (.int 2)) (aC (aA 2) aI)))))) zZ)
def Al:DS:=(aG (bI 3 (aQ 4 mL (aC (aA 0) (aC (aA 1) (aC (aE (.int 1)) (aC (aA 2) aI)))))) Ao)
abbrev Iv:Stmt:=cE 34
abbrev Bv:List Str:=["things","words","row","x","y","number","strict"]
abbrev Kj:List Str:=["things","words","row"]
def sM:DS:=(aG (bN (cY (aC (aE (.str "gap")) (aC (aA 3) (aC (aA 4) (aC (aA 5) (aC (aA 6) aI))))))) aL)
def yY:DS:=(aG (bU (bG (aF fA (bM dA (aC (aA 1) aI)) (aE (.int 5)))) (aG eU aL) aL) sM)
def sP:DS:=(aG (bU (jC (bG (aA 6)) (bG (aF fQ (aF aN (aA 1) (aE (.int 4))) (aE (.str "strict"))))) (aG eU aL) aL) yY)
def rE:DS:=(aG (bI 6 (aF fA (bM dA (aC (aA 1) aI)) (aE (.int 4)))) sP)
def yV:DS:=(aG (bU (bG (aF nZ (aA 5) (aE .none))) (aG eU aL) aL) rE)
def vS:DS:=(aG (bI 5 (aQ 2 uU (aC (aQ 3 iW (aC (aA 1) (aC (aE (.int 3)) (aC (aA 2) aI)))) (aC (aE (.int 6)) aI)))) yV)
def xS:DS:=(aG (bU (eA (bG (aF nZ (aA 4) (aE .none))) (bG (aF cJ (aA 4) (aA 3)))) (aG eU aL) aL) vS)
def Ay:DS:=(aG (bI 4 (aQ 2 pL (aC (aA 0) (aC (aQ 3 iW (aC (aA 1) (aC (aE (.int 2)) (aC (aA 2) aI)))) aI)))) xS)
def xO:DS:=(aG (bU (bG (aF nZ (aA 3) (aE .none))) (aG eU aL) aL) Ay)
def An:DS:=(aG (bI 3 (aQ 2 pL (aC (aA 0) (aC (aQ 3 iW (aC (aA 1) (aC (aE (.int 1)) (aC (aA 2) aI)))) aI)))) xO)
abbrev By:Stmt:=cE 35
abbrev Pb:List Str:=["things","words","row"]
abbrev Jq:List Str:=["things","words","row"]
def Ub:DS:=(aG eU aL)
def zW:DS:=(aG (bU (bG (aF cJ (aF aN (aA 1) (aE (.int 0))) (aE (.str "gap")))) (aG (bN (aQ 3 Af (aC (aA 0) (aC (aA 1) (aC (aA 2) aI))))) aL) aL) Ub)
def rZ:DS:=(aG (bU (bG (aF cJ (aF aN (aA 1) (aE (.int 0))) (aE (.str "may")))) (aG (bN (aQ 3 xT (aC (aA 0) (aC (aA 1) (aC (aA 2) aI))))) aL) aL) zW)
abbrev Tj:Stmt:=cE 36
abbrev Fd:List Str:=["things","text"]
abbrev So:List Str:=["things","text"]
def tG:DS:=(aG (bN (aQ 3 oW (aC (aA 0) (aC (pB (aA 1) (aE (.str " "))) (aC (aE (.int 0)) aI))))) aL)
abbrev Qr:Stmt:=cE 37
abbrev Ny:List Str:=["things","words","row","name"]
abbrev Bc:List Str:=["things","words","row"]
theorem Yp:List.Nodup (["other","name"]:List Str):=by decide +kernel
def yA:DS:=(aG (bN (cY (aC (aA 3) (aC (aF aN (aA 1) (aE (.int 0))) aI)))) aL)
def uX:DS:=(aG (bU (bG (aF fA (bM dA (aC (aA 1) aI)) (aE (.int 2)))) (aG eU aL) aL) yA)
def Aa:DS:=(aG (bU (eA (iE (bG (aQ 1 zJ (aC (aA 3) aI)))) (bG (bM xQ (aC (dR [none,some 3] (eZ (aQ 1 qS (aC (aA 0) aI))) (gN 0) cV (aF Aj (aA 1) (aA 0))) aI)))) (aG eU aL) aL) uX)
def wV:DS:=(aG (bI 3 (aQ 3 iW (aC (aA 1) (aC (aE (.int 1)) (aC (aA 2) aI))))) Aa)
abbrev Ow:Stmt:=cE 38
abbrev Gc:List Str:=["rows","things","sayings","row","text","words"]
abbrev Cf:List Str:=["rows"]
def Xf:DS:=(aG (gX (iL (aA 1) (mM 1 (aQ 3 wL (aC (aA 1) (aC (aA 5) (aC (aA 3) aI))))))) aL)
def Ke:DS:=(aG (bU (eA (bG (aF zH (aA 2) (dD aI))) (bG (aF cJ (bM dA (aC (aA 1) aI)) (aE (.int 6))))) (aG eU aL) aL) Xf)
def EO:DS:=(aG (gX (iL (aA 2) (mM 1 (aQ 3 oW (aC (aA 1) (aC (aA 5) (aC (aA 3) aI))))))) aL)
def Bz:DS:=(aG (bU (eA (bG (aF uJ (aA 1) (dD aI))) (bG (aF cJ (bM dA (aC (aA 2) aI)) (aE (.int 24))))) (aG eU aL) aL) EO)
def nQ:DS:=(aG (bU (bG (aF kO (aF aN (aA 5) (aE (.int 0))) (cY (aC (aE (.str "point")) (aC (aE (.str "stretch")) aI))))) Ke Bz) aL)
def iS:DS:=(aG (bI 5 (pB (aA 4) (aE (.str " ")))) nQ)
def Gx:DS:=(aG (bN (cY (aC (bM gB (aC (aA 1) aI)) (aC (bM gB (aC (aA 2) aI)) aI)))) aL)
def Oz:DS:=(aG (bU (bG (aF uJ (aA 1) (dD aI))) (aG eU aL) aL) Gx)
def Dr:DS:=(aG (iG (Av (aA 0)) (gT 2 (bV (gN 3) (bV (gN 4) dF))) iS) Oz)
def Th:DS:=(aG (bI 2 (jO aI)) Dr)
def Aq:DS:=(aG (bI 1 (jO aI)) Th)
abbrev Rf:Stmt:=cE 40
abbrev Ce:List Str:=["_law_script","_law_k","_law_cell"]
abbrev Ix:List Str:=["_law_script","_law_k"]
def Ae:DS:=(aG (bN (jO (aC (bM tO (aC (aE (.int 0)) (aC (aF fV (aA 2) (aF uF (aE (.int 10)) (aE (.int 18)))) aI))) (aC (aA 2) (aC (aA 1) (aC (aE (.int 0)) aI)))))) aL)
def vB:DS:=(aG (bI 2 (aF aN (aA 0) (aF fS (aA 1) (bM dA (aC (aA 0) aI))))) Ae)
def rK:DS:=(aG (bU (bG (aF cJ (bM dA (aC (aA 0) aI)) (aE (.int 0)))) (aG (bN (jO (aC (aE (.int 0)) (aC (aE (.int 0)) (aC (aA 1) (aC (aE (.int 0)) aI)))))) aL) aL) vB)
abbrev Mh:Stmt:=cE 41
abbrev Hs:List Str:=["_law_feed_here","_law_many","_law_figure","_law_number"]
abbrev Hz:List Str:=["_law_feed_here","_law_many"]
def Kx:DS:=(aG (bN (aA 2)) aL)
def Jo:DS:=(aG (sB (aA 0) (aE (.int 0)) (aF mT (aF aN (aA 0) (aE (.int 0))) (aA 1))) Kx)
def Bl:DS:=(aG (bI 2 (aF fS (aF aN (aA 0) (aE (.int 0))) (aA 1))) Jo)
def Nx:DS:=(aG (bN (aF fS (aA 3) (aA 1))) aL)
def Fz:DS:=(aG (bI 3 (aF fS (aF cF (aF cF (aF fI (aA 3) (aA 3)) (aF fI (aE (.int 69621)) (aA 3))) (aF aN (aA 0) (aE (.int 3)))) (aE (.int 2147483587)))) Nx)
def Pw:DS:=(aG (bI 3 (aF fS (aF cF (aF cF (aF fI (aA 3) (aA 3)) (aF fI (aE (.int 48271)) (aA 3))) (aF aN (aA 0) (aE (.int 2)))) (aE (.int 2147483629)))) Fz)
def Ou:DS:=(aG (bI 3 (aF fS (aF cF (aF cF (aF aN (aA 0) (aE (.int 1))) (aF fI (aE (.int 7919)) (aF aN (aA 0) (aE (.int 2))))) (aF fI (aE (.int 104729)) (aF aN (aA 0) (aE (.int 3))))) (aE (.int 2147483629)))) Pw)
def Fl:DS:=(aG (bU (bG (aF fA (aF aN (aA 0) (aE (.int 0))) (aE (.int 0)))) Bl aL) Ou)
def wY:DS:=(aG (sB (aA 0) (aE (.int 3)) (aF cF (aF aN (aA 0) (aE (.int 3))) (aE (.int 1)))) Fl)
abbrev Iw:Stmt:=cE 42
abbrev Tt:List Str:=["_law_top","_law_bottom","_law_one","_law_other","_law_rest"]
abbrev Na:List Str:=["_law_top","_law_bottom"]
def Eo:DS:=(aG (bI 3 (aA 4)) aL)
def Gz:DS:=(aG (bI 2 (aA 3)) Eo)
def Br:DS:=(aG (bI 4 (aF fS (aA 2) (aA 3))) Gz)
def Fp:DS:=(aG (bN (cY (aC (aF mT (aA 0) (aA 2)) (aC (aF mT (aA 1) (aA 2)) aI)))) aL)
def Oa:DS:=(aG (qA (bG (aF fA (aA 3) (aE (.int 0)))) Br) Fp)
def Qd:DS:=(aG (bI 3 (bM nD (aC (aA 0) aI))) Oa)
def tL:DS:=(aG (bI 2 (aA 1)) Qd)
abbrev Si:Stmt:=cE 43
abbrev Pk:List Str:=["_law_one","_law_other","_law_apart"]
abbrev Hb:List Str:=["_law_one","_law_other"]
def Ft:DS:=(aG (bN (aF fV (bM nL (aC (aF fA (aA 2) (aE (.int 0))) aI)) (bM nL (aC (aF lO (aA 2) (aE (.int 0))) aI)))) aL)
def vF:DS:=(aG (bI 2 (aF fV (aF fI (aF aN (aA 0) (aE (.int 0))) (aF aN (aA 1) (aE (.int 1)))) (aF fI (aF aN (aA 1) (aE (.int 0))) (aF aN (aA 0) (aE (.int 1)))))) Ft)
abbrev Bw:Stmt:=cE 44
abbrev Tn:List Str:=["_law_one","_law_other","_law_both","_law_a","_law_b","_law_rows_here"]
abbrev Tg:List Str:=["_law_one","_law_other"]
def Sj:DS:=(aG (bN (aF aN (aF aN (aA 5) (aF cF (aE (.int 1)) (aQ 2 iR (aC (aF aN (aA 3) (aE (.int 0))) (aC (aF aN (aA 4) (aE (.int 0))) aI))))) (aF cF (aE (.int 1)) (aQ 2 iR (aC (aF aN (aA 3) (aE (.int 1))) (aC (aF aN (aA 4) (aE (.int 1))) aI)))))) aL)
def xK:DS:=(aG (bI 5 (cY (aC (cY (aC (aE (.str "overlaps")) (aC (aE (.str "ended")) (aC (aE (.str "holds")) aI)))) (aC (cY (aC (aE (.str "begins")) (aC (aE (.str "same")) (aC (aE (.str "begun")) aI)))) (aC (cY (aC (aE (.str "within")) (aC (aE (.str "ends")) (aC (aE (.str "lapped")) aI)))) aI))))) Sj)
def tT:DS:=(aG (bU (jC (bG (aA 2)) (bG (aF cJ (aQ 2 iR (aC (aF aN (aA 3) (aE (.int 0))) (aC (aF aN (aA 4) (aE (.int 1))) aI))) (aE (.int 0))))) (aG (bN (aE (.str "met"))) aL) aL) xK)
def Kz:DS:=(aG (bU (jC (bG (aA 2)) (bG (aF cJ (aQ 2 iR (aC (aF aN (aA 3) (aE (.int 1))) (aC (aF aN (aA 4) (aE (.int 0))) aI))) (aE (.int 0))))) (aG (bN (aE (.str "meets"))) aL) aL) tT)
def Qw:DS:=(aG (bU (bG (aF fA (aQ 2 iR (aC (aF aN (aA 3) (aE (.int 0))) (aC (aF aN (aA 4) (aE (.int 1))) aI))) (aE (.int 0)))) (aG (bN (aE (.str "behind"))) aL) aL) Kz)
def zD:DS:=(aG (bU (bG (aF lO (aQ 2 iR (aC (aF aN (aA 3) (aE (.int 1))) (aC (aF aN (aA 4) (aE (.int 0))) aI))) (aE (.int 0)))) (aG (bN (aE (.str "ahead"))) aL) aL) Qw)
def n9:DS:=(aG (bI 4 (iC (bG (iH (aF aN (aA 1) (aE (.int 0))) "tuple")) (aA 1) (cY (aC (aA 1) (aC (aA 1) aI))))) zD)
def Ui:DS:=(aG (bI 3 (iC (bG (iH (aF aN (aA 0) (aE (.int 0))) "tuple")) (aA 0) (cY (aC (aA 0) (aC (aA 0) aI))))) n9)
def Ic:DS:=(aG (bI 2 (lH (iH (aF aN (aA 0) (aE (.int 0))) "tuple") (iH (aF aN (aA 1) (aE (.int 0))) "tuple"))) Ui)
abbrev Jz:Stmt:=cE 45
abbrev Ci:List Str:=["_law_kinds_here","_law_first"]
abbrev Ki:List Str:=["_law_kinds_here"]
def Qv:DS:=(aG (bN (aF cF (aA 1) (dD (aC (aE (.str "ended")) (aC (aE (.str "holds")) (aC (aE (.str "begun")) (aC (aE (.str "lapped")) (aC (aE (.str "met")) (aC (aE (.str "behind")) aI))))))))) aL)
def Kq:DS:=(aG (bI 1 (dD (aC (aE (.str "ahead")) (aC (aE (.str "meets")) (aC (aE (.str "overlaps")) (aC (aE (.str "begins")) (aC (aE (.str "within")) (aC (aE (.str "ends")) (aC (aE (.str "same")) aI))))))))) Qv)
def Pe:DS:=(aG (bN (dD (aC (aE (.str "ahead")) (aC (aE (.str "ended")) (aC (aE (.str "holds")) (aC (aE (.str "begun")) (aC (aE (.str "behind")) aI))))))) aL)
def Ht:DS:=(aG (bU (bG (aF cJ (aF aN (aA 0) (aE (.int 0))) (aE (.str "point")))) (aG (bN (dD (aC (aE (.str "ahead")) (aC (aE (.str "begins")) (aC (aE (.str "within")) (aC (aE (.str "ends")) (aC (aE (.str "behind")) aI))))))) aL) aL) Pe)
def Er:DS:=(aG (bU (bG (aF cJ (aA 0) (cY (aC (aE (.str "point")) (aC (aE (.str "point")) aI))))) (aG (bN (dD (aC (aE (.str "ahead")) (aC (aE (.str "same")) (aC (aE (.str "behind")) aI))))) aL) aL) Ht)
def xX:DS:=(aG (bU (bG (aF cJ (aA 0) (cY (aC (aE (.str "stretch")) (aC (aE (.str "stretch")) aI))))) Kq aL) Er)
abbrev Rz:Stmt:=cE 46
abbrev Qj:List Str:=["_law_feed_here","_law_many","_law_menu","_law_first","_law_step","_law_names_here","_law_letters","_law_base","_law_at"]
abbrev Nr:List Str:=["_law_feed_here","_law_many"]
theorem GW:List.Nodup (["_law_k","_law_menu","_law_first","_law_step"]:List Str):=by decide +kernel
theorem p6:List.Nodup (["_law_k","_law_feed_here","_law_letters"]:List Str):=by decide +kernel
theorem B5:List.Nodup (["_law_k","_law_first","_law_letters","_law_base","_law_at"]:List Str):=by decide +kernel
def Od:DS:=(aG (bI 5 (dR [none,some 3,some 6,some 7,some 8] (fD (aA 1)) (gN 0) cV (aF cF (aF cF (qK (aA 3) jV (jS (aA 4))) (aF aN (aA 2) (aF fS (aF cF (aA 1) (aF fI (aE (.int 3)) (aA 0))) (aE (.int 26))))) (qK (aA 3) (jS (aA 4)) jV)))) aL)
def Os:DS:=(aG (bI 8 (aQ 2 cK (aC (aA 0) (aC (aF cF (bM dA (aC (aA 7) aI)) (aE (.int 1))) aI)))) Od)
def Ca:DS:=(aG (bI 7 (nO "" (dR [none,some 0,some 6] (fD (aQ 2 cK (aC (aA 0) (aC (aE (.int 8)) aI)))) (gN 0) cV (aF aN (aA 2) (aQ 2 cK (aC (aA 1) (aC (aE (.int 26)) aI))))))) Os)
def Qo:DS:=(aG (bI 6 (aE (.str "abcdefghijklmnopqrstuvwxyz"))) Ca)
def tP:DS:=(aG (bN (bM zT (aC (aA 5) aI))) aL)
def Ol:DS:=(aG (bU (bG (aF cJ (aQ 2 cK (aC (aA 0) (aC (aE (.int 3)) aI))) (aE (.int 0)))) Qo aL) tP)
def Tu:DS:=(aG (bI 5 (dR [none,some 2,some 3,some 4] (fD (aA 1)) (gN 0) cV (aF aN (aA 1) (aF fS (aF cF (aA 2) (aF fI (aA 3) (aA 0))) (aE (.int 12)))))) Ol)
def Pt:DS:=(aG (bI 4 (aF aN (dD (aC (aE (.int 1)) (aC (aE (.int 5)) (aC (aE (.int 7)) (aC (aE (.int 11)) aI))))) (aQ 2 cK (aC (aA 0) (aC (aE (.int 4)) aI))))) Tu)
def Im:DS:=(aG (bI 3 (aQ 2 cK (aC (aA 0) (aC (aE (.int 12)) aI)))) Pt)
def uQ:DS:=(aG (bI 2 (dD (aC (aE (.str "a")) (aC (aE (.str "ab")) (aC (aE (.str "abc")) (aC (aE (.str "b")) (aC (aE (.str "point")) (aC (aE (.str "may")) (aC (aE (.str "gap")) (aC (aE (.str "begin")) (aC (aE (.str "strict")) (aC (aE (.str "o")) (aC (aE (.str "stretch")) (aC (aE (.str "zzzzzzzz")) aI)))))))))))))) Im)
abbrev Nl:Stmt:=cE 47
abbrev Rm:List Str:=["_law_feed_here","_law_many","_law_some"]
abbrev Cy:List Str:=["_law_feed_here","_law_many"]
theorem IC:List.Nodup (["_law_k","_law_feed_here"]:List Str):=by decide +kernel
theorem A0:List.Nodup (["_law_k"]:List Str):=by decide +kernel
def uM:DS:=(aG (bN (bM gB (aC (aA 2) aI))) aL)
def Sk:DS:=(aG (bU (bG (aF cJ (aQ 2 cK (aC (aA 0) (aC (aE (.int 3)) aI))) (aE (.int 0)))) (aG (bI 2 (dR [none] (fD (aA 1)) (gN 0) cV (aE (.str "stretch")))) aL) aL) uM)
def uG:DS:=(aG (bI 2 (dR [none,some 0] (fD (aA 1)) (gN 0) cV (aF aN (dD (aC (aE (.str "point")) (aC (aE (.str "stretch")) aI))) (aQ 2 cK (aC (aA 1) (aC (aE (.int 2)) aI)))))) Sk)
abbrev Kl:Stmt:=cE 48
abbrev Kb:List Str:=["_law_feed_here","_law_most","_law_names_here","_law_kinds_here"]
abbrev Rr:List Str:=["_law_feed_here","_law_most"]
theorem Va:List.Nodup (["_law_k","_law_names_here","_law_kinds_here"]:List Str):=by decide +kernel
def Sn:DS:=(aG (bN (bM gB (aC (dR [none,some 2,some 3] (fD (bM dA (aC (aA 2) aI))) (gN 0) cV (cY (aC (aF aN (aA 1) (aA 0)) (aC (aF aN (aA 2) (aA 0)) aI)))) aI))) aL)
def Bb:DS:=(aG (bI 3 (aQ 2 vR (aC (aA 0) (aC (bM dA (aC (aA 2) aI)) aI)))) Sn)
def xH:DS:=(aG (bI 2 (aQ 2 Ag (aC (aA 0) (aC (aF cF (aE (.int 1)) (aQ 2 cK (aC (aA 0) (aC (aA 1) aI)))) aI)))) Bb)
abbrev Ri:Stmt:=cE 49
abbrev Pc:List Str:=["_law_feed_here","_law_kinds_here","_law_known","_law_piece","_law_found","_law_way"]
abbrev Eh:List Str:=["_law_feed_here","_law_kinds_here"]
theorem Ue:List.Nodup (["_law_word_here","_law_feed_here","_law_piece"]:List Str):=by decide +kernel
def yT:DS:=(aG (bN (bM gB (aC (aA 4) aI))) aL)
def Iu:DS:=(aG (bU (bG (aF cJ (aA 5) (aE (.int 1)))) (aG (bI 4 (dD aI)) aL) aL) yT)
def Bo:DS:=(aG (bU (bG (aF cJ (aA 5) (aE (.int 0)))) (aG (bI 4 (dD (aC (aF aN (aA 2) (aQ 2 cK (aC (aA 0) (aC (bM dA (aC (aA 2) aI)) aI)))) aI))) aL) aL) Iu)
def Tr:DS:=(aG (bI 5 (aQ 2 cK (aC (aA 0) (aC (aE (.int 8)) aI)))) Bo)
def Ea:DS:=(aG (bI 4 (dR [none,some 0,some 3] (eZ (aA 2)) (gN 0) (bG (aF cJ (aQ 2 cK (aC (aA 1) (aC (aA 2) aI))) (aE (.int 0)))) (aA 0))) Tr)
def Cj:DS:=(aG (bI 3 (aF cF (aE (.int 1)) (aQ 2 cK (aC (aA 0) (aC (aE (.int 5)) aI))))) Ea)
def tX:DS:=(aG (bI 2 (aQ 1 nE (aC (aA 1) aI))) Cj)
abbrev Qp:Stmt:=cE 50
abbrev Ef:List Str:=["_law_feed_here","_law_kind","_law_base","_law_many","_law_bottom","_law_first","_law_last"]
abbrev Pf:List Str:=["_law_feed_here","_law_kind","_law_base","_law_many","_law_bottom"]
def Ql:DS:=(aG (bN (cY (aC (aQ 2 iN (aC (aF cF (aA 2) (aA 5)) (aC (aA 4) aI))) (aC (aQ 2 iN (aC (aF cF (aA 2) (aA 6)) (aC (aA 4) aI))) aI)))) aL)
def Tq:DS:=(aG (bI 6 (aF cF (aF cF (aA 5) (aE (.int 1))) (aQ 2 cK (aC (aA 0) (aC (aF fV (aF fV (aA 3) (aE (.int 1))) (aA 5)) aI))))) Ql)
def Fo:DS:=(aG (bI 5 (aQ 2 cK (aC (aA 0) (aC (aF fV (aA 3) (aE (.int 1))) aI)))) Tq)
def sG:DS:=(aG (bU (bG (aF cJ (aA 1) (aE (.str "point")))) (aG (bN (aQ 2 iN (aC (aF cF (aA 2) (aQ 2 cK (aC (aA 0) (aC (aA 3) aI)))) (aC (aA 4) aI)))) aL) aL) Fo)
abbrev Lo:Stmt:=cE 51
abbrev Nn:List Str:=["_law_feed_here","_law_things_here","_law_many","_law_bottom","_law_base"]
abbrev Sl:List Str:=["_law_feed_here","_law_things_here"]
theorem Lc:List.Nodup (["_law_name","_law_kind","_law_feed_here","_law_many","_law_bottom","_law_base"]:List Str):=by decide +kernel
def Tw:DS:=(aG (bN (bM gB (aC (dR [none,none,some 0,some 2,some 3,some 4] (eZ (aA 1)) (gT 2 (bV (gN 0) (bV (gN 1) dF))) cV (aQ 5 rA (aC (aA 2) (aC (aA 1) (aC (aA 5) (aC (aA 3) (aC (aA 4) aI))))))) aI))) aL)
def Fx:DS:=(aG (bI 4 (aF fV (aF aN (dD (aC (aE (.int 0)) (aC (aE (.int 0)) (aC (jG (aE (.int 5))) (aC (aE (.int 12)) (aC (aE (.int 900000)) aI)))))) (aQ 2 cK (aC (aA 0) (aC (aE (.int 5)) aI)))) (aQ 2 cK (aC (aA 0) (aC (aE (.int 3)) aI))))) Tw)
def Cw:DS:=(aG (bI 3 (aF aN (dD (aC (aE (.int 1)) (aC (aE (.int 1)) (aC (aE (.int 2)) (aC (aE (.int 3)) (aC (aE (.int 7)) (aC (aE (.int 999983)) aI))))))) (aQ 2 cK (aC (aA 0) (aC (aE (.int 6)) aI))))) Fx)
def uL:DS:=(aG (bI 2 (aF cF (aE (.int 2)) (aQ 2 cK (aC (aA 0) (aC (aE (.int 8)) aI))))) Cw)
abbrev Qf:Stmt:=cE 52
abbrev Ld:List Str:=["_law_things_here","_law_found","_law_name","_law_kind"]
abbrev Fy:List Str:=["_law_things_here"]
def sX:DS:=(aG (bU (bG (aF cJ (aA 3) (aE (.str "stretch")))) (aG (gX (iL (aA 1) (cY (aC (aA 2) (aC (aE (.int 1)) aI))))) aL) aL) aL)
def mX:DS:=(aG (gX (iL (aA 1) (cY (aC (aA 2) (aC (aE (.int 0)) aI))))) sX)
def Au:DS:=(aG (bN (aA 1)) aL)
def Qy:DS:=(aG (iG (eZ (aA 0)) (gT 2 (bV (gN 2) (bV (gN 3) dF))) mX) Au)
def sZ:DS:=(aG (bI 1 (jO aI)) Qy)
abbrev Dh:Stmt:=cE 53
abbrev Bq:List Str:=["_law_things_here","_law_telling_here","_law_end","_law_k"]
abbrev Jj:List Str:=["_law_things_here","_law_telling_here","_law_end"]
def Ac:DS:=(aG (bU (bG (aF cJ (aF aN (aF aN (aA 0) (aA 3)) (aE (.int 0))) (aF aN (aA 2) (aE (.int 0))))) (aG (bN (iC (bG (aF cJ (aF aN (aF aN (aA 0) (aA 3)) (aE (.int 1))) (aE (.str "point")))) (aF aN (aA 1) (aA 3)) (aF aN (aF aN (aA 1) (aA 3)) (aF aN (aA 2) (aE (.int 1)))))) aL) aL) aL)
def FU:DS:=(aG (bN (aE .none)) aL)
def zP:DS:=(aG (iG (fD (bM dA (aC (aA 0) aI))) (gN 3) Ac) FU)
abbrev Lp:Stmt:=cE 54
abbrev Bs:List Str:=["_law_feed_here","_law_things_here","_law_telling_here","_law_k","_law_j","_law_kinds_here","_law_there","_law_words_here"]
abbrev Ii:List Str:=["_law_feed_here","_law_things_here","_law_telling_here"]
theorem IB:List.Nodup (["_law_word_here","_law_there","_law_words_here"]:List Str):=by decide +kernel
def mZ:DS:=(aG (bN (cY (aC (aE (.str "may")) (aC (aF aN (aF aN (aA 1) (aA 3)) (aE (.int 0))) (aC (aF aN (aF aN (aA 1) (aA 4)) (aE (.int 0))) (aC (aA 7) aI)))))) aL)
def Jp:DS:=(aG (bU (eA (bG (aF cJ (aA 7) (cY aI))) (bG (aF fA (aQ 2 cK (aC (aA 0) (aC (aE (.int 4)) aI))) (aE (.int 0))))) (aG (bI 7 (bM gB (aC (dR [none,some 6,some 7] (eZ (aQ 1 nE (aC (aA 5) aI))) (gN 0) (eA (bG (aF kO (aA 0) (aA 2))) (bG (aF cJ (aA 0) (aA 1)))) (aA 0)) aI))) aL) aL) mZ)
def Lx:DS:=(aG (bI 7 (aQ 2 Ab (aC (aA 0) (aC (aA 5) aI)))) Jp)
def Ir:DS:=(aG (bI 6 (aQ 2 Ar (aC (aF aN (aA 2) (aA 3)) (aC (aF aN (aA 2) (aA 4)) aI)))) Lx)
def Hm:DS:=(aG (bI 5 (cY (aC (aF aN (aF aN (aA 1) (aA 3)) (aE (.int 1))) (aC (aF aN (aF aN (aA 1) (aA 4)) (aE (.int 1))) aI)))) Ir)
def Qh:DS:=(aG (bI 4 (aF fS (aF cF (aF cF (aA 3) (aE (.int 1))) (aQ 2 cK (aC (aA 0) (aC (aF fV (bM dA (aC (aA 1) aI)) (aE (.int 1))) aI)))) (bM dA (aC (aA 1) aI)))) Hm)
def Aw:DS:=(aG (bI 3 (aQ 2 cK (aC (aA 0) (aC (bM dA (aC (aA 1) aI)) aI)))) Qh)
abbrev Hc:Stmt:=cE 55
abbrev Rj:List Str:=["_law_feed_here","_law_things_here","_law_telling_here","_law_ends","_law_k","_law_x","_law_y","_law_one","_law_other","_law_top","_law_bottom","_law_way","_law_number","_law_some"]
abbrev Gd:List Str:=["_law_feed_here","_law_things_here","_law_telling_here"]
def Ad:DS:=(aG (bI 12 (aQ 2 iN (aC (aA 9) (aC (aF aN (dD (aC (aE (.int 1)) (aC (aE (.int 2)) (aC (aE (.int 3)) (aC (aE (.int 999998)) aI))))) (aQ 2 cK (aC (aA 0) (aC (aE (.int 4)) aI)))) aI)))) aL)
def sU:DS:=(aG (bI 9 (aF aN (aF cF (aA 13) (dD (aC (aF fV (aE (.int 0)) (aF aN (aA 13) (aE (.int 8)))) aI))) (aQ 2 cK (aC (aA 0) (aC (aE (.int 10)) aI))))) Ad)
def wK:DS:=(aG (bI 13 (dD (aC (aE (.int 0)) (aC (aE (.int 1)) (aC (jG (aE (.int 7))) (aC (aE (.int 999999)) (aC (aE (.int 5)) (aC (jG (aE (.int 999999))) (aC (jG (aE (.int 100000))) (aC (aE (.int 100000)) (aC (aF cF (aE (.int 1)) (aQ 2 cK (aC (aA 0) (aC (aE (.int 999999)) aI)))) aI))))))))))) sU)
def pI:DS:=(aG (bN (cY (aC (aE (.str "gap")) (aC (aA 5) (aC (aA 6) (aC (aA 12) (aC (aF cJ (aQ 2 cK (aC (aA 0) (aC (aE (.int 2)) aI))) (aE (.int 1))) aI))))))) aL)
def xP:DS:=(aG (bU (eA (bG (aF cJ (aA 11) (aE (.int 2)))) (eA (bG (aF fA (bM nD (aC (aF aN (aA 12) (aE (.int 0))) aI)) (aE (.int 999999)))) (bG (aF fA (aF aN (aA 12) (aE (.int 1))) (aE (.int 999999)))))) wK aL) pI)
def wA:DS:=(aG (bI 12 (aQ 2 iN (aC (aA 9) (aC (aA 10) aI)))) xP)
def Mp:DS:=(aG (bU (bG (aF lO (aA 11) (aE (.int 2)))) (aG (bI 9 (aF cF (aA 9) (aF aN (dD (aC (aE (.int 0)) (aC (aE (.int 1)) (aC (jG (aE (.int 1))) aI)))) (aQ 2 cK (aC (aA 0) (aC (aE (.int 3)) aI)))))) aL) aL) wA)
def Oj:DS:=(aG (bI 11 (aQ 2 cK (aC (aA 0) (aC (aE (.int 5)) aI)))) Mp)
def Ts:DS:=(aG (bI 10 (aF fI (aF aN (aA 7) (aE (.int 1))) (aF aN (aA 8) (aE (.int 1))))) Oj)
def Oe:DS:=(aG (bI 9 (aF fV (aF fI (aF aN (aA 7) (aE (.int 0))) (aF aN (aA 8) (aE (.int 1)))) (aF fI (aF aN (aA 8) (aE (.int 0))) (aF aN (aA 7) (aE (.int 1)))))) Ts)
def L6:DS:=(aG (bI 8 (aQ 3 nK (aC (aA 1) (aC (aA 2) (aC (aA 6) aI))))) Oe)
def Xo:DS:=(aG (bI 7 (aQ 3 nK (aC (aA 1) (aC (aA 2) (aC (aA 5) aI))))) L6)
def N7:DS:=(aG (bI 6 (aF aN (aA 3) (aF fS (aF cF (aF cF (aA 4) (aE (.int 1))) (aQ 2 cK (aC (aA 0) (aC (aF fV (bM dA (aC (aA 3) aI)) (aE (.int 1))) aI)))) (bM dA (aC (aA 3) aI))))) Xo)
def U1:DS:=(aG (bI 5 (aF aN (aA 3) (aA 4))) N7)
def Wu:DS:=(aG (bI 4 (aQ 2 cK (aC (aA 0) (aC (bM dA (aC (aA 3) aI)) aI)))) U1)
def Ss:DS:=(aG (bI 3 (aQ 1 rF (aC (aA 1) aI))) Wu)
abbrev Oh:Stmt:=cE 56
abbrev Lj:List Str:=["_law_feed_here","_law_things_here","_law_telling_here","_law_most","_law_ends","_law_sayings","_law_k"]
abbrev Me:List Str:=["_law_feed_here","_law_things_here","_law_telling_here","_law_most"]
def Qs:DS:=(aG (bU (jC (bG (aF fA (bM dA (aC (aA 1) aI)) (aE (.int 1)))) (bG (aF lO (aQ 2 cK (aC (aA 0) (aC (aE (.int 5)) aI))) (aE (.int 3))))) (aG (gX (iL (aA 5) (aQ 3 wQ (aC (aA 0) (aC (aA 1) (aC (aA 2) aI)))))) aL) (aG (bU (bG (aF fA (bM dA (aC (aA 4) aI)) (aE (.int 1)))) (aG (gX (iL (aA 5) (aQ 3 pY (aC (aA 0) (aC (aA 1) (aC (aA 2) aI)))))) aL) aL) aL)) aL)
def Hk:DS:=(aG (bN (cY (aC (aA 1) (aC (bM gB (aC (aA 5) aI)) aI)))) aL)
def Ek:DS:=(aG (iG (fD (aQ 2 cK (aC (aA 0) (aC (aF cF (aA 3) (aE (.int 1))) aI)))) (gN 6) Qs) Hk)
def Cv:DS:=(aG (bI 5 (jO aI)) Ek)
def uP:DS:=(aG (bI 4 (aQ 1 rF (aC (aA 1) aI))) Cv)
abbrev Gk:Stmt:=cE 57
abbrev Mz:List Str:=["_law_things_here","_law_end"]
abbrev Gp:List Str:=["_law_things_here","_law_end"]
def qB:DS:=(aG (bN (aF cF (aF aN (aA 1) (aE (.int 0))) (aF aN (dD (aC (aE (.str ".begin")) (aC (aE (.str ".end")) aI))) (aF aN (aA 1) (aE (.int 1)))))) aL)
def sV:DS:=(aG (bU (bG (aF cJ (lQ (nU (aA 0)) (aF aN (aA 1) (aE (.int 0)))) (aE (.str "point")))) (aG (bN (aF aN (aA 1) (aE (.int 0)))) aL) aL) qB)
abbrev Lb:Stmt:=cE 58
abbrev Dt:List Str:=["_law_things_here","_law_saying","_law_number","_law_words_here"]
abbrev Tc:List Str:=["_law_things_here","_law_saying"]
def Da:DS:=(aG (bN (nO " " (aF cF (aA 3) (mI (dD (aC (aE (.str "strict")) aI)) jV (jS (bM nL (aC (aF aN (aA 1) (aE (.int 4))) aI))))))) aL)
def vA:DS:=(aG (bI 3 (dD (aC (aE (.str "gap")) (aC (aQ 2 qE (aC (aA 0) (aC (aF aN (aA 1) (aE (.int 1))) aI))) (aC (aQ 2 qE (aC (aA 0) (aC (aF aN (aA 1) (aE (.int 2))) aI))) (aC (aA 2) aI)))))) Da)
def Ko:DS:=(aG (bU (bG (aF fA (aF aN (aF aN (aA 1) (aE (.int 3))) (aE (.int 1))) (aE (.int 1)))) (aG (bI 2 (aF cF (aF cF (aA 2) (aE (.str "/"))) (bM qR (aC (aF aN (aF aN (aA 1) (aE (.int 3))) (aE (.int 1))) aI)))) aL) aL) vA)
def Qz:DS:=(aG (bI 2 (bM qR (aC (aF aN (aF aN (aA 1) (aE (.int 3))) (aE (.int 0))) aI))) Ko)
def oQ:DS:=(aG (bU (bG (aF cJ (aF aN (aA 1) (aE (.int 0))) (aE (.str "may")))) (aG (bN (nO " " (aF cF (dD (aC (aE (.str "may")) (aC (aF aN (aA 1) (aE (.int 1))) (aC (aF aN (aA 1) (aE (.int 2))) aI)))) (bM qP (aC (aF aN (aA 1) (aE (.int 3))) aI))))) aL) aL) Qz)
abbrev Oy:Stmt:=cE 59
abbrev Hh:List Str:=["_law_talk_here"]
abbrev Fu:List Str:=["_law_talk_here"]
theorem Tz:List.Nodup (["_law_name","_law_kind"]:List Str):=by decide +kernel
theorem Uj:List.Nodup (["_law_one","_law_talk_here"]:List Str):=by decide +kernel
def wJ:DS:=(aG (bN (aF cF (dR [none,none] (eZ (aF aN (aA 0) (aE (.int 0)))) (gT 2 (bV (gN 0) (bV (gN 1) dF))) cV (aF cF (aF cF (aA 1) (aE (.str " "))) (aA 0))) (dR [none,some 0] (eZ (aF aN (aA 0) (aE (.int 1)))) (gN 0) cV (aQ 2 zX (aC (aF aN (aA 1) (aE (.int 0))) (aC (aA 0) aI)))))) aL)
abbrev Ex:Stmt:=cE 60
abbrev Cg:List Str:=["_law_script","_law_k","_law_feed_here","_law_things_here","_law_talk_here","_law_due","_law_found","_law_handed","_law_told","_law_j","_law_text"]
abbrev Jr:List Str:=["_law_script"]
def xL:DS:=(aG (bU (bG (aF fQ (bM fB (aC (aQ 2 yH (aC (aA 3) (aC (aA 10) aI))) aI)) (bM fB (aC (aF aN (aF aN (aA 4) (aE (.int 1))) (aA 9)) aI)))) (aG (bN (aE (.bool false))) aL) aL) aL)
def yK:DS:=(aG (bU (bG (aF fQ (bM fB (aC (aQ 2 oB (aC (aA 3) (aC (aF aN (aF aN (aA 4) (aE (.int 1))) (aA 9)) aI))) aI)) (bM fB (aC (aA 10) aI)))) (aG (bN (aE (.bool false))) aL) aL) xL)
def zQ:DS:=(aG (bI 10 (aF aN (aA 5) (aF cF (bM dA (aC (aA 3) aI)) (aA 9)))) yK)
def vI:DS:=(aG (iG (fD (bM dA (aC (aF aN (aA 4) (aE (.int 1))) aI))) (gN 9) zQ) aL)
def tN:DS:=(aG (bU (eA (bG (aF fQ (bM fB (aC (aA 8) aI)) (bM fB (aC (aA 4) aI)))) (eA (bG (aF fQ (bM fB (aC (aQ 1 pG (aC (bM qP (aC (aA 5) aI)) aI)) aI)) (bM fB (aC (aA 4) aI)))) (bG (aF fQ (bM fB (aC (yP (aQ 1 qZ (aC (aA 4) aI))) aI)) (bM fB (aC (aA 5) aI)))))) (aG (bN (aE (.bool false))) aL) aL) vI)
def wI:DS:=(aG (gX (iL (aA 6) (aE (.str "")))) tN)
def zY:DS:=(aG (gX (yQ (aA 7))) wI)
def vH:DS:=(aG (bU (eA (bG (aF fQ (bM fB (aC (aA 8) aI)) (bM fB (aC (aA 4) aI)))) (bG (aF zH (aA 7) (aA 5)))) (aG (bN (aE (.bool false))) aL) aL) zY)
def zU:DS:=(aG (bI 8 (mM 7 (aQ 1 pG (aC (aA 7) aI)))) vH)
def wD:DS:=(aG (bI 7 (bM sR (aC (aA 6) aI))) zU)
def yL:DS:=(aG (bU (bG (aF fQ (bM yC (aC (aA 6) aI)) (bM fB (aC (aA 5) aI)))) (aG (bN (aE (.bool false))) aL) aL) wD)
def wH:DS:=(aG (bI 6 (aQ 1 qZ (aC (aA 4) aI))) yL)
def xM:DS:=(aG (bI 5 (aQ 1 tU (aC (aA 4) aI))) wH)
def Qe:DS:=(aG (bI 4 (aQ 4 uR (aC (aA 2) (aC (aA 3) (aC (aQ 2 As (aC (aA 2) (aC (aA 3) aI))) (aC (aF aN (dD (aC (aE (.int 4)) (aC (aE (.int 10)) (aC (aE (.int 24)) aI)))) (aQ 2 cK (aC (aA 2) (aC (aE (.int 3)) aI)))) aI)))))) xM)
def En:DS:=(aG (bI 3 (aQ 2 zI (aC (aA 2) (aC (aE (.int 6)) aI)))) Qe)
def Dq:DS:=(aG (bI 2 (aQ 2 wX (aC (aA 0) (aC (aA 1) aI)))) En)
def sO:DS:=(aG (bN (aE (.bool true))) aL)
def vZ:DS:=(aG (iG (fD (aE (.int 4))) (gN 1) Dq) sO)
end K17
namespace K17
open PySem PySem.Spec PyProof.Rows L2 DL K01
abbrev EN(R:DK):Ends2:={nx:=fun _ m=>R (.dat .none) m,rt:=R}
theorem sz{n:Nat}(h:n<=1000):n<=sizeLine:=Nat.le_trans h (by rw[sizeLine_eq];decide)
theorem qX{m:Mu}{a:Addr}{x y z w:Int}:Feeds (bW m a (.l [.int x,.int y,.int z,.int w])) a:=⟨_,cO,x,y,z,w,rfl⟩
theorem A3{ns:List Int}{i:Int}(h0:0<=i)(h:i<(ns.length:Int)):∃ v:Int,bR (ns.map PyData.int) i=some (.int v):=by
 obtain⟨k,rfl⟩:∃ k:Nat,i=k:=⟨i.toNat,by omega⟩
 have hk:k<ns.length:=by omega
 exact⟨ns[k],eE (by rw[List.getElem?_map,List.getElem?_eq_getElem hk]<;>rfl)⟩
theorem j7:∀ ds m R,ds.length=Ix.length->wX ds m R->rK {nx:=fun _ m=>R (.dat .none) m,rt:=R} (bY Ce ds) m:=by
 rintro ds m R hl ⟨ns,k,rfl,hn,h0,h1,h⟩
 by_cases hz:ns.length=0
 ·have e:ns=[]:=List.length_eq_zero_iff.mp hz
  subst e;simp[Ae,vB,rK,PyData.eqv,PyData.canLay0,PyData.depth];exact⟨sz (by decide),fun a _=>h a _ qX⟩
 ·have hz':¬ ((ns.length:Int)=0):=by omega
  have hp:(0:Int)<ns.length:=by omega
  obtain⟨v,hv⟩:=A3 (ns:=ns) (i:=k.fmod ns.length) (Int.fmod_nonneg_of_pos _ hp) (Int.fmod_lt_of_pos _ hp);simp[Ae,vB,rK,PyData.eqv,PyData.canLay0,PyData.depth,hz',hz];refine⟨_,hv,?_⟩;simp;exact⟨sz (by decide),fun a _=>h a _ qX⟩
theorem mH{i j:Int}(h:Bd 64 i):IntMulOk i j:=IntMulOk.of_left (intBits_le_iff.mpr h)
theorem oK{x p:Int}(h:0<p)(hp:p<=2147483629):Bd 31 (x.fmod p):=by
 have h1:=Int.fmod_lt_of_pos x h
 have h2:=Int.fmod_nonneg_of_pos x h
 unfold Bd;have e:(2:Nat)^31=2147483648:=by decide
 omega
set_option exponentiation.threshold 3000 in
theorem sF{i:Int}{n:Nat}(h:i.natAbs<2^n:=by decide):Bd n i:=h
theorem J0:∀ ds m R,ds.length=Na.length->iN ds m R->tL {nx:=fun _ m=>R (.dat .none) m,rt:=R} (bY Tt ds) m:=by
 rintro ds m R hl ⟨t,b,rfl,h0,hb,h⟩;have g0:=yF (t:=t) (b:=b) (by omega)
 have gb:Bd 2000 ((t.gcd b:Nat):Int):=by
  have:=Int.gcd_le_natAbs_right t (b:=b) (by omega)
  unfold Bd at *;omega
 have gl:=gb.log (by decide)
 simp[Eo,Gz,Br,Fp,Oa,Qd,tL];refine⟨fun n d m'=>m'=m/\∃ (x y:Int) (z:Option D),d=[some (I t),some (I b),some (I x),some (I y),z]/\n=y.natAbs/\0<=y/\0<=x/\Int.gcd x y=Int.gcd t b,⟨_,rfl,b,(if t<0 then -t else t),none,rfl,rfl,by split<;>omega,by omega,?_⟩,?_⟩
 ·rw[Int.gcd_comm]
  split
  ·rw[Int.neg_gcd]
  ·rfl
 rintro n d m' ⟨rfl,x,y,z,rfl,rfl,hy0,hx0,hg⟩
 by_cases hy:y=0
 ·subst hy;rw[Int.gcd_zero_right]at hg;have ex:x=((t.gcd b:Nat):Int):=by rw[<- hg];omega
  subst ex;simp;refine⟨fun _=>by omega,ai (by simpa using gl) (show 2000<=9000 by decide),fun _=>by omega,ai (by simpa using gl) (show 2000<=9000 by decide),sz (by decide),?_⟩
  rw[Int.fdiv_eq_ediv_of_nonneg _ (by omega),Int.fdiv_eq_ediv_of_nonneg _ (by omega)]
  exact h
 ·have hp:0<y:=by omega
  simp[hy,hp];refine⟨fun d' m''=>m''=m'/\d'=[some (I t),some (I b),some (I y),some (I (x.fmod y)),some (I (x.fmod y))],?_,by simp⟩
  rintro d' m'' ⟨rfl,rfl⟩;exact⟨_,Ia x y hy,rfl,y,x.fmod y,⟨_,rfl⟩,rfl,Int.fmod_nonneg_of_pos _ hp,hy0,by rw[Ka];exact hg⟩
theorem Sy{g:DG}{b:DS}{E:Ends2}(J:bS->Mu->Prop)(hd:∀ d m,J d m->E.nx d m):∀ (xs:List D),
  (∀ x∈xs,∀ (k:bS->Mu->Prop),(∀ d m,J d m->k d m)->∀ d m,J d m->g x d m fun d' m'=>b {E with nx:=k,ct:=k,bk:=E.nx} d' m')->∀ d m,J d m->dW g b E xs d m
 | [],_,d,m,h=>hd d m h
 | x::xs,step,d,m,h=>step x List.mem_cons_self _ (Sy J hd xs fun y hy=>step y (ap _ hy)) d m h
theorem oM{xs:List PyData}{P:PyData->Prop}{r:Int}(h:∀ p∈xs,P p)(h0:0<=r)(h1:r<(xs.length:Int)):∃ p,bR xs r=some p/\P p:=by
 obtain⟨k,rfl⟩:∃ k:Nat,r=k:=⟨r.toNat,by omega⟩
 have hk:k<xs.length:=by omega
 exact⟨xs[k],eE (List.getElem?_eq_getElem hk),h _ (List.getElem_mem hk)⟩
theorem oC{g:DG}{t:DT}{f:DE}{Q:List PyData->Mu->Prop}(J:List D->List PyData->bS->Mu->Prop)(fin:∀ acc d m,J [] acc d m->Q acc m)
  (step:∀ x xs acc d m (k:List PyData->bS->Mu->Prop),J (x::xs) acc d m->(∀ acc' d' m',J xs acc' d' m'->k acc' d' m')->g x d m fun d1 m1=>t d1 m1 fun b m2=>if b=true then f d1 m2 fun y m3=>∃ p,y=.dat p/\acc.length<sizeLine/\k (acc++[p]) d1 m3 else k acc d1 m2) :
  ∀ xs acc d m,J xs acc d m->cN g t f xs acc d m Q
 | [],acc,d,m,h=>fin acc d m h
 | x::xs,acc,d,m,h=>step x xs acc d m (fun acc' d' m'=>cN g t f xs acc' d' m' Q) h (oC J fin step xs)
theorem Kp.refl{a:Addr}{m:Mu}:Kp a m m:=fun _ _ _=>rfl
theorem Kp.trans{a:Addr}{m m1 m2:Mu}(h:Kp a m m1)(g:Kp a m1 m2):Kp a m m2:=fun c h1 h2=>by
 have e:=h c h1 h2
 rw[g c h1 (by rw[e];exact h2),e]
theorem Kp.upd{a:Addr}{m:Mu}{x:Cel}:Kp a m (bW m a x):=fun c h1 _=>cZ h1
theorem x9:∀ ds m R,ds.length=Hz.length->cK ds m R->wY {nx:=fun _ m=>R (.dat .none) m,rt:=R} (bY Hs ds) m:=by
 rintro ds m R hl ⟨a,n,rfl,h0,hb,⟨xs,hm,f0,f1,f2,f3,rfl⟩,h⟩;simp[Bl,Jo,Kx,Nx,Fz,Pw,Ou,Fl,wY,bR,dQ,hm,cO,sY,and_assoc]
 by_cases hf:f0<=0
 ·left
  refine⟨hf,mH sF,mH sF,(oK (by decide) (by decide)).mulOk (oK (by decide) (by decide)) (by decide),mH sF,(oK (by decide) (by decide)).mulOk (oK (by decide) (by decide)) (by decide),mH sF,by omega,?_⟩
  exact h _ _ (Int.fmod_nonneg_of_pos _ h0) (Int.fmod_lt_of_pos _ h0) qX .upd
 ·right
  refine⟨by omega,by omega,ai (hb.log (by decide)) (by decide),?_⟩
  exact h _ _ (Int.fmod_nonneg_of_pos _ h0) (Int.fmod_lt_of_pos _ h0) qX .upd
theorem eP{a:Addr}{n:Int}{m:Mu}{R:DK}(h0:0<n)(hb:n<1000000)(hf:Feeds m a)(h:∀ (r:Int) m',0<=r->r<n->Feeds m' a->Kp a m m'->R (I r) m'):cK [.cel a,I n] m R:=by
 refine⟨a,n,rfl,h0,?_,hf,h⟩;refine Bd.mono (m:=20) ?_ (by decide)
 unfold Bd;have e:(2:Nat)^20=1048576:=by decide
 omega
theorem eR{a:Addr}{n:Int}{m:Mu}{R:DK}(h0:0<n)(hb:n<1000000)(hf:Feeds m a)(h:∀ (r:Int) m',0<=r->r<n->Feeds m' a->R (I r) m'):cK [.cel a,I n] m R :=
 eP h0 hb hf fun r m' h1 h2 h3 _=>h r m' h1 h2 h3
theorem U3:∀ ds m R,ds.length=Hb.length->iR ds m R->vF (EN R) (bY Pk ds) m:=by
 rintro ds m R hl ⟨⟨a,b⟩,⟨c,d⟩,rfl,b1,b2,b3,b4,h⟩;simp[vF,Ft,bR,dQ,and_assoc];refine⟨b1.mulOk b4 (by decide),b3.mulOk b2 (by decide),?_⟩
 simpa[eM,kH] using h
@[simp] theorem II:PyData.strOk (Str.ofString "point")=true:=by decide +kernel
@[simp] theorem IK:PyData.strOk (Str.ofString "stretch")=true:=by decide +kernel
@[simp] theorem IG(x:PyData)(xs:List PyData):bR (x::xs) 0=some x:=by simp[bR,dQ]
@[simp] theorem Am(x y:PyData)(xs:List PyData):bR (x::y::xs) 1=some y:=by
 have:(1:Int)<xs.length+1+1:=by omega
 simp[bR,dQ,this]
theorem i7(i j:Int)(hi:i=-1\/i=0\/i=1)(hj:j=-1\/j=0\/j=1):∃ xs,bR [PyData.tuple [.str "overlaps",.str "ended",.str "holds"],.tuple [.str "begins",.str "same",.str "begun"],.tuple [.str "within",.str "ends",.str "lapped"]] (1+i)=some (.tuple xs)/\bR xs (1+j)=some (.str (row i j)):=by
 rcases hi with rfl | rfl | rfl<;>rcases hj with rfl | rfl | rfl<;>exact⟨_,rfl,rfl⟩
theorem Ds(x:Int):kH x=-1\/kH x=0\/kH x=1:=by
 unfold kH
 split<;>split<;>simp<;>omega
theorem lD{x y:Int×Int}{m:Mu}{R:DK}(h1:Bd 800 x.1/\Bd 800 x.2)(h2:Bd 800 y.1/\Bd 800 y.2)(h:R (I (eM x y)) m):iR [.dat (fq x),.dat (fq y)] m R:=⟨x,y,rfl,h1.1.mono (by decide),h1.2.mono (by decide),h2.1.mono (by decide),h2.2.mono (by decide),h⟩
theorem ET{m:Mu}{R:DK}{x0 x1 z:Option D}{both:Bool}{a0 a1 b0 b1:Int×Int}(h1:Bd 800 a0.1/\Bd 800 a0.2)(h2:Bd 800 a1.1/\Bd 800 a1.2)(h3:Bd 800 b0.1/\Bd 800 b0.2)(h4:Bd 800 b1.1/\Bd 800 b1.2)
  (h:R (.dat (.str (wd both a0 a1 b0 b1))) m):zD (EN R) [x0,x1,some (.dat (.bool both)),some (.dat (.tuple [fq a0,fq a1])),some (.dat (.tuple [fq b0,fq b1])),z] m:=by
 obtain⟨xs,r1,r2⟩:=i7 (eM a0 b0) (eM a1 b1) (Ds _) (Ds _);unfold wd wc at h;simp[zD];refine lD h2 h3 ?_
 by_cases c1:eM a1 b0<0
 ·rw[if_pos c1]at h;simp[c1];exact h
 rw[if_neg c1]at h;simp[c1,Qw];refine lD h1 h4 ?_
 by_cases c2:0<eM a0 b1
 ·rw[if_pos c2]at h;simp[c2];exact h
 rw[if_neg c2]at h;simp[c2,Kz];have last:R (.dat (.str (row (eM a0 b0) (eM a1 b1)))) m->xK (EN R) [x0,x1,some (.dat (.bool both)),some (.dat (.tuple [fq a0,fq a1])),some (.dat (.tuple [fq b0,fq b1])),z] m:=fun h=>by
  simp[xK,Sj,sz];refine lD h1 h3 ⟨_,r1,?_⟩;exact lD h2 h4 ⟨_,r2,h⟩
 cases both with
 | false =>
  simp[tT];exact last (by simpa using h)
 | true =>
  simp;refine lD h2 h3 ?_
  by_cases c3:eM a1 b0=0
  ·rw[if_pos ⟨rfl,c3⟩]at h;simp[c3,PyData.eqv,PyData.canLay0,PyData.depth];exact h
  rw[if_neg (fun q=>c3 q.2)]at h;simp[c3,tT,PyData.eqv,PyData.canLay0,PyData.depth];refine lD h1 h4 ?_
  by_cases c4:eM a0 b1=0
  ·rw[if_pos ⟨rfl,c4⟩]at h;simp[c4,PyData.eqv,PyData.canLay0,PyData.depth];exact h
  rw[if_neg (fun q=>c4 q.2)]at h;simp[c4,PyData.eqv,PyData.canLay0,PyData.depth];exact last h
theorem oJ{c:Bool}{a b:Prop}(e:c=true)(h:a):if c=true then a else b:=by rw[if_pos e];exact h
theorem rN{c:Bool}{a b:Prop}(e:c=false)(h:b):if c=true then a else b:=by rw[if_neg (by rw[e];decide)];exact h
theorem qT{W}:isK (.tuple W) "tuple"=true:=by simp
theorem oX{W}:isK (.int W) "tuple"=false:=by simp
theorem z2:2<=sizeLine:=sz (by decide)
theorem Zi:∀ ds m R,ds.length=Tg.length->Ar ds m R->Ic (EN R) (bY Tn ds) m:=by
 rintro ds m R hl ⟨p,q,k,l,a0,a1,b0,b1,rfl,ha,hb,h⟩;have e1:=ha.eq
 have e2:=hb.eq
 subst e1 e2;have W:=fun x0 x1 z=>ET (x0:=x0) (x1:=x1) (z:=z) (R:=R) (m:=m) (both:=k&&l) ⟨ha.b1,ha.b2⟩ ⟨ha.b3,ha.b4⟩ ⟨hb.b1,hb.b2⟩ ⟨hb.b3,hb.b4⟩ h
 cases k with
 | true =>
  cases l with
  | true =>
   repeat first | exact W _ _ _ | refine oJ qT ?_ | refine rN oX ?_ | refine⟨_,rfl,?_⟩ | refine⟨z2,?_⟩
  | false =>
   cases hb.pt rfl
   repeat first | exact W _ _ _ | refine oJ qT ?_ | refine rN oX ?_ | refine⟨_,rfl,?_⟩ | refine⟨z2,?_⟩
 | false =>
  cases ha.pt rfl
  cases l with
  | true =>
   repeat first | exact W _ _ _ | refine oJ qT ?_ | refine rN oX ?_ | refine⟨_,rfl,?_⟩ | refine⟨z2,?_⟩
  | false =>
   cases hb.pt rfl
   repeat first | exact W _ _ _ | refine oJ qT ?_ | refine rN oX ?_ | refine⟨_,rfl,?_⟩ | refine⟨z2,?_⟩
theorem xU{t b:Int}(hb:0<b):∃ n d g:Int,fr t b=.tuple [.int n,.int d]/\0<g/\t=g*n/\b=g*d/\0<d:=by
 have g0:=yF (t:=t) (b:=b) (by omega)
 have d1:((t.gcd b:Nat):Int)∣t:=Int.gcd_dvd_left ..
 have d2:((t.gcd b:Nat):Int)∣b:=Int.gcd_dvd_right ..
 exact⟨_,_,((t.gcd b:Nat):Int),rfl,g0,(Int.mul_ediv_cancel' d1).symm,(Int.mul_ediv_cancel' d2).symm,(Hg g0 d2).mpr hb⟩
theorem jD{g n x:Int}(h:x=g*n)(hg:0<g)(h1:-2000000<=x)(h2:x<=2000000):Bd 800 n:=by
 refine Bd.mono (m:=60) ?_ (by decide)
 unfold Bd;have q:n.natAbs<=x.natAbs:=by
  rw[h,Int.natAbs_mul];exact Nat.le_mul_of_pos_left _ (by omega)
 have e:(2:Nat)^60=1152921504606846976:=by decide
 omega
theorem bx{g n x:Int}(h:x=g*n)(hg:0<g)(h1:-2000000<=x)(h2:x<=2000000):Bd 60 n:=by
 unfold Bd;have q:n.natAbs<=x.natAbs:=by
  rw[h,Int.natAbs_mul];exact Nat.le_mul_of_pos_left _ (by omega)
 have e:(2:Nat)^60=1152921504606846976:=by decide
 omega
theorem wB{t b:Int}{m:Mu}{R:DK}(h0:0<b)(hb:b<=1000000)(h:R (.dat (fr t b)) m):iN [I t,I b] m R:=by
 refine⟨t,b,rfl,h0,?_,h⟩;refine Bd.mono (m:=20) ?_ (by decide)
 unfold Bd;have e:(2:Nat)^20=1048576:=by decide
 omega
theorem G6:∀ ds m R,ds.length=Pf.length->rA ds m R->sG (EN R) (bY Ef ds) m:=by
 rintro ds m R hl ⟨a,k,base,hV,bottom,rfl,m1,m2,s1,s2,t1,t2,hf,h⟩
 cases k with
 | false =>
  simp[sG,kd];refine eR (by omega) (by omega) hf fun q n1 q0 q1 hf1=>?_
  refine wB (by omega) (by omega) ?_
  obtain⟨n,d,g,e,g0,e1,e2,d0⟩:=xU (t:=base+q) (b:=bottom) (by omega)
  rw[e];exact h _ (n,d) (n,d) _ ⟨rfl,d0,d0,(fun z=>absurd z (by decide)),fun _=>rfl,jD e1 g0 (by omega) (by omega),jD e2 g0 (by omega) (by omega),jD e1 g0 (by omega) (by omega),jD e2 g0 (by omega) (by omega)⟩ ⟨bx e1 g0 (by omega) (by omega),bx e2 g0 (by omega) (by omega),bx e1 g0 (by omega) (by omega),bx e2 g0 (by omega) (by omega)⟩ hf1
 | true =>
  simp (decide:=true) [sG,kd,Fo];refine eR (by omega) (by omega) hf fun f n1 f0 f1 hf1=>?_
  simp[Tq];refine eR (by omega) (by omega) hf1 fun q n2 q0 q1 hf2=>?_
  simp[Ql];refine wB (by omega) (by omega) ?_
  refine wB (by omega) (by omega) ?_
  obtain⟨n,d,g,e,g0,e1,e2,d0⟩:=xU (t:=base+f) (b:=bottom) (by omega)
  obtain⟨n',d',g',e',g0',e1',e2',d0'⟩:=xU (t:=base+(f+1+q)) (b:=bottom) (by omega)
  rw[e,e'];simp[sz];refine h _ (n,d) (n',d') _ ⟨rfl,d0,d0',fun _=>?_,(fun z=>absurd z (by decide)),jD e1 g0 (by omega) (by omega),jD e2 g0 (by omega) (by omega),jD e1' g0' (by omega) (by omega),jD e2' g0' (by omega) (by omega)⟩ ⟨bx e1 g0 (by omega) (by omega),bx e2 g0 (by omega) (by omega),bx e1' g0' (by omega) (by omega),bx e2' g0' (by omega) (by omega)⟩ hf2
  show n*d'<n'*d
  have gg:0<g*g':=Int.mul_pos g0 g0'
  refine Int.lt_of_mul_lt_mul_left (a:=g*g') ?_ (Int.le_of_lt gg);have x1:g*g'*(n*d')=(base+f)*bottom:=by rw[e1,e2'];ac_rfl
  have x2:g*g'*(n'*d)=(base+(f+1+q))*bottom:=by rw[e1',e2];ac_rfl
  rw[x1,x2];exact Int.mul_lt_mul_of_pos_right (by omega) (by omega)
theorem Vb{a:Addr}{k:Bool}{base hV bottom:Int}{m:Mu}{R:DK}(m1:2<=hV)(m2:hV<=9)(s1:-1000<=base)(s2:base<=1000000)(t1:1<=bottom)(t2:bottom<=1000000)(hf:Feeds m a)
  (h:∀ p x y m',Tm p k x y->jR 60 p->Feeds m' a->R (.dat p) m'):rA [.cel a,.dat (.str (kd k)),I base,I hV,I bottom] m R:=⟨a,k,base,hV,bottom,rfl,m1,m2,s1,s2,t1,t2,hf,h⟩
theorem rL{a b c d e f:Int}(hb:0<b)(hd:0<d)(hf:0<f)(h1:a*d<=c*b)(h2:c*f<e*d):a*f<e*b:=by
 refine Int.lt_of_mul_lt_mul_left (a:=d) ?_ (Int.le_of_lt hd);have x1:a*d*f<=c*b*f:=Int.mul_le_mul_of_nonneg_right h1 (Int.le_of_lt hf)
 have x2:c*f*b<e*d*b:=Int.mul_lt_mul_of_pos_right h2 hb
 have y1:d*(a*f)=a*d*f:=by ac_rfl
 have y2:d*(e*b)=e*d*b:=by ac_rfl
 have y3:c*b*f=c*f*b:=by ac_rfl
 omega
theorem Tm.le{p:PyData}{k:Bool}{x y:Int×Int}(h:Tm p k x y):x.1*y.2<=y.1*x.2:=by
 cases k with
 | true=>exact Int.le_of_lt (h.st rfl)
 | false=>rw[h.pt rfl];exact Int.le_refl _
theorem pA(x y:Int×Int):eM x y=if x.1*y.2<y.1*x.2 then -1 else if y.1*x.2<x.1*y.2 then 1 else 0:=by
 unfold eM kH
 split<;>split<;>split<;>(try split)<;>omega
theorem Vg:∀ ds m R,ds.length=Fi.length->xV ds m R->yS (EN R) (bY Ti ds) m:=by
 rintro ds m R hl ⟨k,l,rfl,h⟩;unfold yS;simp only[aG,bN,qD,aA,aE,bY];refine⟨_,rfl,[kd k,kd l],rfl,?_⟩
 cases k<;>cases l<;>exact h
theorem nX(k l:Bool):∀ z∈WS k l,z∈kP:=by cases k<;>cases l<;>decide +kernel
def S3:List Int:=[-1,0,1]
theorem lP(k l:Bool):1<=(WS k l).length/\(WS k l).length<=13:=by cases k<;>cases l<;>decide
theorem Xm:∀ ds m R,ds.length=Ki.length->nE ds m R->xX (EN R) (bY Ci ds) m:=by
 rintro ds m R hl ⟨k,l,rfl,h⟩
 cases k<;>cases l<;>simp (decide:=true) [xX,Kq,Qv,Er,Ht,Pe,kd,PyData.eqv,PyData.eqvAll,PyData.canLay0,PyData.canLayAll0,PyData.depth,PyData.depthAll,bR,dQ,and_assoc,sz]<;>exact h
theorem a9:∀ ds m R,ds.length=Eh.length->Ab ds m R->tX (EN R) (bY Pc ds) m:=by
 rintro ds m R hl ⟨a,k,l,rfl,hf,h⟩;obtain⟨w1,w2⟩:=lP k l;simp[tX];refine⟨k,l,rfl,?_⟩;simp[Cj];refine eP (by decide) (by decide) hf fun r m1 r0 r1 hf1 kp1=>?_
 simp[Ea,cI];refine oC (fun rest acc d m'=>(Feeds m' a/\Kp a m m')/\(∃ o,d=[o,some (.cel a),some (I (1+r))])/\∃ done todo sel,WS k l=done++todo/\rest=todo.map (fun z=>.dat (.str z))/\acc=sel.map .str/\List.Sublist sel done) ?_ ?_ _ _ _ _ ⟨⟨hf1,kp1⟩,⟨none,rfl⟩,[],WS k l,[],rfl,by simp,rfl,List.Sublist.refl _⟩
 ·rintro acc d m2 ⟨⟨hf2,kp2⟩,_,done,todo,sel,e1,e2,rfl,hs⟩;have e3:todo=[]:=by simpa using e2.symm
  subst e3;rw[List.append_nil]at e1;subst e1;simp[Tr];refine eP (by decide) (by decide) hf2 fun way m3 _ _ hf3 kp3=>?_
  have kp3:=kp2.trans kp3
  have fin:∀ sel m',Feeds m' a->Kp a m m'->List.Sublist sel (WS k l)->yT (EN R) [some (.cel a),some (.dat (jI k l)),some (.dat (.list ((WS k l).map .str))),some (I (1+r)),some (.dat (.list (sel.map .str))),some (I way)] m':=fun sel m' hf' kp' hs'=>by
   simp[yT];exact h sel m' hs' hf' kp'
  simp[Bo,Iu,PyData.eqv,PyData.canLay0,PyData.depth]
  by_cases c0:way=0
  ·right
   refine⟨c0,eP (by omega) (by omega) hf3 fun q m4 q0 q1 hf4 kp4=>?_⟩
   obtain⟨j,rfl⟩:∃ j:Nat,q=j:=⟨q.toNat,by omega⟩
   have hj:j<(WS k l).length:=by omega
   refine⟨.str (WS k l)[j],eE (by rw[List.getElem?_map,List.getElem?_eq_getElem hj];rfl),_,rfl,sz (by show 1<=1000;decide),.inl ⟨by omega,fin [(WS k l)[j]] m4 hf4 (kp3.trans kp4) (List.singleton_sublist.mpr (List.getElem_mem hj))⟩⟩
  ·left
   refine⟨c0,?_⟩
   by_cases c1:way=1
   ·exact .inr ⟨c1,fin [] m3 hf3 kp3 (List.nil_sublist _)⟩
   ·exact .inl ⟨c1,fin sel m3 hf3 kp3 hs⟩
 ·rintro x xs acc d m2 k2 ⟨⟨hf2,kp2⟩,⟨o,rfl⟩,done,todo,sel,e1,e2,rfl,hs⟩ hk
  cases todo with
  | nil=>simp at e2
  | cons z todo =>
   obtain⟨rfl,rfl⟩:=List.cons.inj e2;have e3:WS k l=(done++[z])++todo:=by rw[e1];simp
   have hsl:sel.length<14:=by
    have q1:=hs.length_le
    have q2:=congrArg List.length e1
    simp at q2;omega
   simp;refine eP (by omega) (by omega) hf2 fun q m3 _ _ hf3 kp3=>?_
   simp[PyData.eqv,PyData.canLay0,PyData.depth]
   by_cases c:q=0
   ·right
    refine⟨c,ai hsl (sz (by decide)),hk _ _ _ ⟨⟨hf3,kp2.trans kp3⟩,⟨_,rfl⟩,done++[z],todo,sel++[z],e3,rfl,by simp,hs.append (List.Sublist.refl _)⟩⟩
   ·left
    exact⟨c,hk _ _ _ ⟨⟨hf3,kp2.trans kp3⟩,⟨_,rfl⟩,done++[z],todo,sel,e3,rfl,rfl,hs.trans (List.sublist_append_left _ _)⟩⟩
end K17
namespace K17
open PySem PySem.Spec PyProof.Rows L2 DL K01
theorem Re:∀ a b:List Nat,ltCps a b=false->ltCps b a=false->a=b
 | [],[],_,_=>rfl
 | [],_::_,h,_=>by simp[ltCps]at h
 | _::_,[],_,h=>by simp[ltCps]at h
 | a::r,b::t,h,g=>by
  simp[ltCps]at h g;have e:a=b:=by omega
  subst e;rw[Re r t (by simpa using h) (by simpa using g)]
theorem Lz:∀ a b c:List Nat,ltCps a b=true->ltCps b c=true->ltCps a c=true
 | [],[],_,h,_=>by simp[ltCps]at h
 | [],_::_,[],_,g=>by simp[ltCps]at g
 | [],_::_,_::_,_,_=>rfl
 | _::_,[],_,h,_=>by simp[ltCps]at h
 | _::_,_::_,[],_,g=>by simp[ltCps]at g
 | a::r,b::t,c::u,h,g=>by
  simp[ltCps]at h g ⊢;rcases h with h | ⟨rfl,h⟩
  ·rcases g with g | ⟨rfl,g⟩
   ·exact .inl (by omega)
   ·exact .inl h
  ·rcases g with g | ⟨rfl,g⟩
   ·exact .inl g
   ·exact .inr ⟨rfl,Lz r t u h g⟩
theorem Dk:∀ a b:List Nat,decide (a<b)=ltCps a b
 | [],[]=>by simp[ltCps]
 | [],_::_=>by simp[ltCps]
 | _::_,[]=>by simp[ltCps]
 | a::r,b::t=>by
  have:=Dk r t
  rw[Bool.eq_iff_iff]at this ⊢;simp[ltCps,List.cons_lt_cons_iff]at this ⊢;rw[this]
abbrev Lt(x y:Str):Prop:=ltCps x.cps.toList y.cps.toList=true
theorem Xw{x y:Str}(h:x.cps.toList=y.cps.toList):x=y:=by
 cases x;cases y
 simp at h;rw[h]
def up:Str->List Str->Bool
 | _,[]=>true
 | l,z::zs=>ltCps l.cps.toList z.cps.toList&&up z zs
theorem Gi:∀ {zs:List Str} {l:Str},up l zs=true->List.Pairwise Lt (l::zs)
 | [],l,_=>by simp
 | z::zs,l,h=>by
  simp only[up,Bool.and_eq_true]at h;have ih:=Gi h.2
  refine List.pairwise_cons.mpr ⟨fun y hy=>?_,ih⟩;rcases List.mem_cons.mp hy with rfl | hy
  ·exact h.1
  ·exact Lz _ _ _ h.1 ((List.pairwise_cons.mp ih).1 y hy)
theorem Lw:∀ {zs:List Str} {l:Str},risingS l zs=true->(l::zs).Nodup->up l zs=true
 | [],l,_,_=>rfl
 | z::zs,l,h,nd=>by
  simp only[risingS,Bool.and_eq_true,Bool.not_eq_true']at h;simp only[up,Bool.and_eq_true];have nd2:=(List.nodup_cons.mp nd)
  refine⟨?_,Lw h.2 nd2.2⟩
  cases e:ltCps l.cps.toList z.cps.toList
  ·exact(nd2.1 (by rw[Xw (Re _ _ e h.1)];exact List.mem_cons_self)).elim
  ·rfl
theorem GZ{ys:List Str}(h:sortedS ys=true)(nd:ys.Nodup):List.Pairwise Lt ys:=by
 cases ys with
 | nil=>simp
 | cons y ys=>exact Gi (Lw h nd)
theorem W6{ys:List Str}(h:sortedS ys=true)(nd:ys.Nodup):ys.Pairwise fun a b=>a.cps.toList<b.cps.toList:=(GZ h nd).imp fun {a b} q=>by
 have e:=Dk a.cps.toList b.cps.toList
 rw[show ltCps a.cps.toList b.cps.toList=true from q]at e
 exact of_decide_eq_true e
end K17
namespace K17
open PySem PySem.Spec PyProof.Rows L2 DL K01
theorem T3{n i:Nat}(h:i<n):(dJ 0 n).drop i=I (i:Int)::(dJ 0 n).drop (i+1):=by
 have hl:i<(dJ 0 n).length:=by unfold dJ;simpa using h
 rw[List.drop_eq_getElem_cons hl]
 congr 1
 unfold dJ;simp
theorem lB{g:DG}{t:DT}{f:DE}{Q:List PyData->Mu->Prop}{n:Nat}(J:Nat->List PyData->bS->Mu->Prop)(fin:∀ acc d m,J n acc d m->Q acc m)
  (step:∀ i acc d m (k:List PyData->bS->Mu->Prop),i<n->J i acc d m->(∀ acc' d' m',J (i+1) acc' d' m'->k acc' d' m')->g (I (i:Int)) d m fun d1 m1=>t d1 m1 fun b m2=>if b=true then f d1 m2 fun y m3=>∃ p,y=.dat p/\acc.length<sizeLine/\k (acc++[p]) d1 m3 else k acc d1 m2) :
  ∀ acc d m,J 0 acc d m->cN g t f (dJ 0 n) acc d m Q:=by
 intro acc d m h;refine oC (fun rest acc d m=>∃ i,i<=n/\rest=(dJ 0 n).drop i/\J i acc d m) ?_ ?_ _ _ _ _ ⟨0,Nat.zero_le _,rfl,h⟩
 ·rintro acc d m ⟨i,hi,e,hj⟩;have:i=n:=by
   have:=congrArg List.length e
   unfold dJ at this;simp at this;omega
  subst this;exact fin _ _ _ hj
 ·rintro x xs acc d m k ⟨i,hi,e,hj⟩ hk;have hlt:i<n:=by
   have:=congrArg List.length e
   unfold dJ at this;simp at this;omega
  rw[T3 hlt]at e;obtain⟨rfl,rfl⟩:=List.cons.inj e;exact step i acc d m k hlt hj fun acc' d' m' h'=>hk _ _ _ ⟨i+1,hlt,rfl,h'⟩
def Knds(n:Nat)(acc:List PyData):Prop:=∃ ks:List Bool,acc=ks.map (fun k=>.str (kd k))/\ks.length=n
theorem Knds.snoc{n:Nat}{acc:List PyData}{k:Bool}(h:Knds n acc):Knds (n+1) (acc++[.str (kd k)]):=by
 obtain⟨zs,rfl,hl⟩:=h;exact⟨zs++[k],by simp,by simp[hl]⟩
theorem Knds.len{n:Nat}{acc:List PyData}(h:Knds n acc):acc.length=n:=by
 obtain⟨zs,rfl,hl⟩:=h;simpa using hl
theorem Zy{i:Int}(h0:0<=i)(h1:i<2):∃ b,bR [PyData.str "point",.str "stretch"] i=some (.str (kd b)):=by
 obtain rfl | rfl:i=0\/i=1:=by omega
 ·exact⟨false,rfl⟩
 ·exact⟨true,rfl⟩
theorem F8:∀ ds m R,ds.length=Cy.length->vR ds m R->uG (EN R) (bY Rm ds) m:=by
 rintro ds m R hl ⟨a,n,rfl,n1,n2,hf,h⟩;obtain⟨nn,rfl⟩:∃ nn:Nat,n=nn:=⟨n.toNat,by omega⟩
 have fin:∀ (ks:List Bool) m',ks.length=nn->Feeds m' a->uM (EN R) [some (.cel a),some (I nn),some (.dat (.list (ks.map fun k=>.str (kd k))))] m':=fun ks m' hk hf'=>by
  simp[uM];exact h ks m' (by omega) hf'
 simp[uG,cI];refine⟨by omega,?_⟩
 refine lB (fun i acc d m'=>Feeds m' a/\(∃ o,d=[o,some (.cel a)])/\Knds i acc) ?_ ?_ _ _ _ ⟨hf,⟨none,rfl⟩,[],rfl,rfl⟩
 ·rintro acc d m1 ⟨hf1,_,ks,rfl,hk⟩;simp[Sk];refine eR (by decide) (by decide) hf1 fun w m2 w0 w1 hf2=>?_
  simp[PyData.eqv,PyData.canLay0,PyData.depth,cI]
  by_cases c:w=0
  ·right
   refine⟨c,by omega,?_⟩
   refine lB (fun i acc d m'=>m'=m2/\(∃ o,d=[o])/\Knds i acc) ?_ ?_ _ _ _ ⟨rfl,⟨none,rfl⟩,[],rfl,rfl⟩
   ·rintro acc d m3 ⟨rfl,_,ks,rfl,hk⟩;exact fin ks _ hk hf2
   ·rintro i acc d m3 k hi ⟨rfl,⟨o,rfl⟩,ht⟩ hk';simp;exact⟨ai (by rw[ht.len];omega) (sz (n:=100) (by decide)),hk' _ _ _ ⟨rfl,⟨_,rfl⟩,ht.snoc (k:=true)⟩⟩
  ·left
   exact⟨c,fin ks _ hk hf2⟩
 ·rintro i acc d m1 k hi ⟨hf1,⟨o,rfl⟩,ht⟩ hk;simp[sz];refine eR (by decide) (by decide) hf1 fun q m2 q0 q1 hf2=>?_
  obtain⟨b,e⟩:=Zy q0 q1;exact⟨_,e,_,rfl,ai (by rw[ht.len];omega) (sz (n:=100) (by decide)),hk _ _ _ ⟨hf2,⟨_,rfl⟩,ht.snoc⟩⟩
theorem N8:∀ ds m R,ds.length=Rr.length->zI ds m R->xH (EN R) (bY Kb ds) m:=by
 rintro ds m R hl ⟨a,n,rfl,n1,n2,hf,h⟩;simp[xH];refine eR (by omega) (by omega) hf fun w m1 w0 w1 hf1=>?_
 refine⟨a,1+w,rfl,by omega,by omega,hf1,fun zs m2 hz hnm hf2=>?_⟩
 simp[Bb];refine⟨a,zs.length,rfl,by omega,by omega,hf2,fun ks m3 hk hf3=>?_⟩
 have hkl:ks.length=zs.length:=by omega
 simp[Sn,cI];refine⟨by omega,?_⟩
 refine lB (fun i acc d m'=>m'=m3/\(∃ o,d=[o,some (.dat (.list (zs.map .str))),some (.dat (.tuple (ks.map fun k=>.str (kd k))))])/\acc=((zs.zip ks).take i).map fun t=>.tuple [.str t.1,.str (kd t.2)]) ?_ ?_ _ _ _ ⟨rfl,⟨none,rfl⟩,rfl⟩
 ·rintro acc d m4 ⟨rfl,_,rfl⟩;rw[List.take_of_length_le (by rw[List.length_zip];omega)]
  exact h (zs.zip ks) _ (by rw[List.length_zip];omega) (by rw[List.map_fst_zip (by omega)];exact hnm) hf3
 ·rintro i acc d m4 k hi ⟨rfl,⟨o,rfl⟩,rfl⟩ hk';have e1:bR (zs.map PyData.str) (i:Int)=some (.str zs[i]):=eE (by rw[List.getElem?_map,List.getElem?_eq_getElem hi];rfl)
  have hi2:i<ks.length:=by omega
  have e2:bR (ks.map fun k=>PyData.str (kd k)) (i:Int)=some (.str (kd ks[i])):=eE (by rw[List.getElem?_map,List.getElem?_eq_getElem hi2];rfl)
  simp;refine⟨_,e1,_,e2,sz (by decide),ai (by omega) (sz (n:=100) (by decide)),hk' _ _ _ ⟨rfl,⟨_,rfl⟩,?_⟩⟩
  rw[List.take_succ_eq_append_getElem (by rw[List.length_zip];omega)]
  simp
theorem TmAll.len:∀ {ts:List (Str×Bool)} {ps:List PyData},TmAll ts ps->ps.length=ts.length
 | [],[],_=>rfl
 | t::ts,p::ps,h=>by rw[List.length_cons,List.length_cons,TmAll.len h.2]
 | [],_::_,h=>h.elim
 | _::_,[],h=>h.elim
theorem TmAll.snoc:∀ {ts:List (Str×Bool)} {ps:List PyData} {t:Str×Bool} {p:PyData},TmAll ts ps->(∃ x y,Tm p t.2 x y)->TmAll (ts++[t]) (ps++[p])
 | [],[],_,_,_,q=>⟨q,True.intro⟩
 | t::ts,p::ps,_,_,h,q=>⟨h.1,TmAll.snoc h.2 q⟩
 | [],_::_,_,_,h,_=>h.elim
 | _::_,[],_,_,h,_=>h.elim
theorem G3:∀ ds m R,ds.length=Sl.length->As ds m R->uL (EN R) (bY Nn ds) m:=by
 rintro ds m R hl ⟨a,ts,rfl,hn,hf,h⟩;simp[uL];refine eR (by decide) (by decide) hf fun mn m1 n0 n1 hf1=>?_
 simp[Cw,sz];refine eR (by decide) (by decide) hf1 fun r m2 r0 r1 hf2=>?_
 obtain⟨p,e,bo,rfl,u0,u1⟩:=oM (xs:=[.int 1,.int 1,.int 2,.int 3,.int 7,.int 999983]) (P:=fun p=>∃ i:Int,p=.int i/\1<=i/\i<=999983) (r:=r) (by simp) r0 r1
 refine⟨_,e,?_⟩;simp[Fx,sz];refine eR (by decide) (by decide) hf2 fun q m3 q0 q1 hf3=>?_
 obtain⟨p,e,bs,rfl,v0,v1⟩:=oM (xs:=[.int 0,.int 0,.int (-5),.int 12,.int 900000]) (P:=fun p=>∃ i:Int,p=.int i/\-5<=i/\i<=900000) (r:=q) (by simp) q0 q1
 refine⟨_,e,?_⟩;refine eR (by decide) (by decide) hf3 fun w m4 w0 w1 hf4=>?_
 simp[Tw,cI];refine oC (fun rest acc d m'=>Feeds m' a/\(∃ o1 o2,d=[o1,o2,some (.cel a),some (I (2+mn)),some (I bo),some (I (bs-w))])/\∃ done todo,ts=done++todo/\rest=todo.map (fun t=>.dat (.tuple [.str t.1,.str (kd t.2)]))/\TmAll done acc/\∀ p∈acc,jR 60 p) ?_ ?_ _ _ _ _ ⟨hf4,⟨_,_,rfl⟩,[],ts,rfl,by first | rfl | (rw[List.map_map];rfl) | simp,True.intro,by simp⟩
 ·rintro acc d m5 ⟨hf5,_,done,todo,e1,e2,hla,hbd⟩;have e3:todo=[]:=by simpa using e2.symm
  subst e3;rw[List.append_nil]at e1;subst e1;exact h acc m5 hla hbd hf5
 ·rintro x xs acc d m5 k ⟨hf5,⟨o1,o2,rfl⟩,done,todo,e1,e2,hla,hbd⟩ hk
  cases todo with
  | nil=>simp at e2
  | cons t todo =>
   obtain⟨rfl,rfl⟩:=List.cons.inj e2;have hln:acc.length<7:=by
    have:=congrArg List.length e1
    have:=hla.len
    simp at *;omega
   simp;refine Vb (by omega) (by omega) (by omega) (by omega) (by omega) (by omega) hf5 fun p x y m6 tp bp hf6=>⟨p,rfl,ai hln (sz (n:=7) (by decide)),hk _ _ _ ⟨hf6,⟨_,_,rfl⟩,done++[t],todo,by rw[e1];simp,rfl,hla.snoc ⟨x,y,tp⟩,fun z hz=>(List.mem_append.mp hz).elim (hbd z) fun q=>by cases List.mem_singleton.mp q;exact bp⟩⟩
theorem E6{p:PyData}{k:Bool}{x y:Int×Int}(h:Tm p k x y):kD p=(k,x,y):=by
 have e:=h.eq
 subst e
 cases k with
 | true=>rfl
 | false =>
  cases h.pt rfl
  rfl
theorem TmAll.at:∀ {ts:List (Str×Bool)} {ps:List PyData} {i:Nat} {p:PyData},TmAll ts ps->ps[i]?=some p->∃ k x y,Tm p k x y
 | t::ts,q::ps,0,p,h,e=>by
  cases e
  obtain⟨x,y,g⟩:=h.1;exact⟨_,x,y,g⟩
 | t::ts,q::ps,i+1,p,h,e=>TmAll.at h.2 (by simpa using e)
 | [],[],i,p,_,e=>by simp at e
 | [],_::_,_,_,h,_=>h.elim
 | _::_,[],_,_,h,_=>h.elim
theorem zE{ts:List (Str×Bool)}{i:Nat}{t:Str×Bool}(h:ts[i]?=some t):bR (ts.map fun t=>PyData.tuple [.str t.1,.str (kd t.2)]) (i:Int)=some (.tuple [.str t.1,.str (kd t.2)]):=eE (by rw[List.getElem?_map,h];rfl)
def jK:List Str:=["a","ab","abc","b","point","may","gap","begin","strict","o","stretch","zzzzzzzz"]
def f1(a s k:Nat):Str:=jK.getD ((a+s*k)%12) ""
theorem n5:∀ a<12,∀ s∈[1,5,7,11],((List.range 6).map (f1 a s)).Nodup:=by decide +kernel
theorem F5:∀ z∈jK,(z.cps.toList.all (fun c=>decide (97<=c/\c<=122))=true/\1<=z.length)/\z.length<=8:=by decide +kernel
theorem V6:∀ z∈jK,eO z:=fun z hz=>by
 obtain⟨⟨h1,h2⟩,h3⟩:=F5 z hz;rw[List.all_eq_true]at h1;exact⟨fun c hc=>of_decide_eq_true (h1 c hc),h2,h3⟩
theorem Qb{n:Nat}(h:n<=6):List.Sublist (List.range n) (List.range 6):=by
 have:List.range n=(List.range 6).take n:=by
  rw[List.take_range]
  congr 1
  omega
 rw[this];exact List.take_sublist _ _
theorem Ym(a s k:Nat):f1 a s k∈jK:=by
 unfold f1;have h:(a+s*k)%12<jK.length:=by
  show _<12
  omega
 rw[List.getD_eq_getElem?_getD,List.getElem?_eq_getElem h];exact List.getElem_mem h
structure Nm0 (zs:List Str):Prop where
 nd:zs.Nodup
 le:zs.length<=6
 gd:∀ z∈zs,eO z
theorem U6{a s n:Nat}(ha:a<12)(hs:s∈[1,5,7,11])(hn:n<=6):Nm0 ((List.range n).map (f1 a s)):=by
 refine⟨List.Nodup.sublist ((Qb hn).map _) (n5 a ha s hs),by simpa using hn,fun z hz=>?_⟩
 obtain⟨k,_,rfl⟩:=List.mem_map.mp hz;exact V6 _ (Ym a s k)
theorem B8(a s k:Nat):bR (jK.map PyData.str) (((a:Int)+(s:Int)*(k:Int)).fmod 12)=some (.str (f1 a s k)):=by
 have e:((a:Int)+(s:Int)*(k:Int)).fmod 12=(((a+s*k)%12:Nat):Int):=by
  rw[Int.fmod_eq_emod_of_nonneg _ (by decide)]
  simp
 rw[e];have h:(a+s*k)%12<jK.length:=by
  show _<12
  omega
 refine eE ?_;unfold f1;rw[List.getElem?_map,List.getD_eq_getElem?_getD,List.getElem?_eq_getElem h];rfl
theorem Hl:∀ i<26,(Str.ofString "abcdefghijklmnopqrstuvwxyz").cps.toList[i]?=some (97+i):=by decide +kernel
theorem k8:∀ a<12,((List.range 6).map fun k=>(a+3*k)%26).Nodup:=by decide +kernel
def mF(x y:Str)(c:Nat):Str:=x++(⟨#[c]⟩:Str)++y
def f2(x y:Str)(a k:Nat):Str:=mF x y (97+(a+3*k)%26)
theorem GL{x y:Str}{c d:Nat}(h:mF x y c=mF x y d):c=d:=by
 have e:=congrArg (fun z:Str=>z.cps.toList) h
 simp[mF,Str.cps_append]at e;exact e
def gc(z:Str):Prop:=∀ c∈z.cps.toList,97<=c/\c<=122
theorem rH{x y:Str}(h:gc x)(g:gc y):gc (x++y):=fun c hc=>by
 rw[Str.cps_append,Array.toList_append]at hc;exact(List.mem_append.mp hc).elim (h c) (g c)
theorem Cq{c:Nat}(h:97<=c/\c<=122):gc (⟨#[c]⟩:Str):=fun d hd=>by
 have:d=c:=by simpa using hd
 omega
theorem Co{z:Str}(h:gc z)(lo hi:Option Int):gc (Txt.slice z lo hi):=by
 unfold Txt.slice
 split
 ·exact h
 ·intro c hc;simp only[List.mem_filterMap]at hc;obtain⟨i,_,e⟩:=hc;exact h c (by
   have:=Array.mem_of_getElem? e
   simpa using this)
theorem FG{x y:Str}{a n:Nat}(hx:gc x)(hy:gc y)(hl:x.length+y.length<=7)(ha:a<12)(hn:n<=6):Nm0 ((List.range n).map (f2 x y a)):=by
 refine⟨?_,by simpa using hn,fun z hz=>?_⟩
 ·have nd:=List.Nodup.sublist ((Qb hn).map fun k=>(a+3*k)%26) (k8 a ha)
  have e:(List.range n).map (f2 x y a)=((List.range n).map fun k=>(a+3*k)%26).map fun c=>mF x y (97+c):=by rw[List.map_map];rfl
  rw[e];exact List.Pairwise.map _ (fun p q hpq h=>hpq (by have:=GL h;omega)) nd
 ·obtain⟨k,_,rfl⟩:=List.mem_map.mp hz;have e:(f2 x y a k).length=x.length+1+y.length:=by
   show(x++(⟨#[_]⟩:Str)++y).length=_
   rw[strLen_append,strLen_append];rfl
  exact⟨rH (rH hx (Cq (by omega))) hy,by omega,by omega⟩
theorem z9{zs ys:List Str}(h:Nm0 zs)(p:ys.Perm zs)(hs:ys.Pairwise fun a b=>a.cps.toList<b.cps.toList):Nm ys:=⟨p.nodup_iff.mpr h.1,by rw[p.length_eq];exact h.2,fun z hz=>h.3 z (p.mem_iff.mp hz),hs⟩
theorem Ut:∀ n:Nat,n<8->∀ a:Nat,a<8->a<=n->(Builtin.Str.strSliceIndices none (some (a:Int)) 1 n).length+(Builtin.Str.strSliceIndices (some (a:Int)) none 1 n).length<=7:=by decide +kernel
theorem Fh(z:Str)(lo hi:Option Int):(Txt.slice z lo hi).length<=(Builtin.Str.strSliceIndices lo hi 1 z.length).length:=by
 unfold Txt.slice
 split
 ·rename_i c;simp at c;omega
 ·show(List.filterMap _ _).toArray.size<=_
  rw[au];exact List.length_filterMap_le _ _
theorem Wt{z:Str}{a:Int}(h:z.length<=7)(h0:0<=a)(h1:a<=z.length):(Txt.slice z none (some a)).length+(Txt.slice z (some a) none).length<=7:=by
 obtain⟨k,rfl⟩:∃ k:Nat,a=k:=⟨a.toNat,by omega⟩
 have q:=Ut z.length (by omega) k (by omega) (by omega)
 have q1:=Fh z none (some (k:Int))
 have q2:=Fh z (some (k:Int)) none
 omega
theorem Et:∀ {us:List Str},(∀ z∈us,z.length=1)->(us.map (·.length)).sum=us.length
 | [],_=>rfl
 | u::us,h=>by
  rw[aq,List.sum_cons,Et fun z hz=>h z (ap _ hz),h u List.mem_cons_self,List.length_cons];omega
theorem Ej:gc (Str.ofString ""):=by
 intro c hc;have:(Str.ofString "").cps.toList=[]:=by decide +kernel
 rw[this]at hc
 cases hc
theorem Ck:∀ (us:List Str),(∀ u∈us,gc u)->gc (Str.join (Str.ofString "") us)
 | [],_=>Ej
 | [u],h=>by
  simp only[Str.join];exact h u List.mem_cons_self
 | u::v::us,h=>by
  simp only[Str.join];exact rH (rH (h u List.mem_cons_self) Ej) (Ck (v::us) fun z hz=>h z (ap _ hz))
theorem El{i:Int}(h0:-1000000<=i)(h1:i<=1000000):Bd 64 i:=by
 unfold Bd;have e:(2:Nat)^64=18446744073709551616:=by decide
 omega
abbrev MD:List PyData:=jK.map .str
theorem d6(a k:Nat):bR (Str.ofString "abcdefghijklmnopqrstuvwxyz").cps.toList (((a:Int)+3*(k:Int)).fmod 26)=some (97+(a+3*k)%26):=by
 have e:((a:Int)+3*(k:Int)).fmod 26=(((a+3*k)%26:Nat):Int):=by
  rw[Int.fmod_eq_emod_of_nonneg _ (by decide)]
  simp
 rw[e];exact eE (Hl _ (by omega))
theorem D4:∀ ds m R,ds.length=Nr.length->Ag ds m R->uQ (EN R) (bY Qj ds) m:=by
 rintro ds m R hl ⟨a,n,rfl,n1,n2,hf,h⟩;obtain⟨nn,rfl⟩:∃ nn:Nat,n=nn:=⟨n.toNat,by omega⟩
 simp[uQ,sz];simp[Im];refine eR (by decide) (by decide) hf fun first m1 f0 f1' hf1=>?_
 obtain⟨ff,rfl⟩:∃ ff:Nat,first=ff:=⟨first.toNat,by omega⟩
 simp[Pt,sz];refine eR (by decide) (by decide) hf1 fun st m2 s0 s1 hf2=>?_
 obtain⟨p,e,step,rfl,hst⟩:=oM (xs:=[.int 1,.int 5,.int 7,.int 11]) (P:=fun p=>∃ i:Nat,p=.int i/\i∈[1,5,7,11]) (r:=st) (by
  intro p hp;simp at hp;rcases hp with rfl | rfl | rfl | rfl
  ·exact⟨1,rfl,by decide⟩
  ·exact⟨5,rfl,by decide⟩
  ·exact⟨7,rfl,by decide⟩
  ·exact⟨11,rfl,by decide⟩) s0 s1
 refine⟨_,e,?_⟩;have sl:step<=11:=by
  simp at hst;omega
 have fin:∀ (zs:List Str) m' o6 o7 o8,zs.length=nn->Nm0 zs->Feeds m' a->tP (EN R) [some (.cel a),some (I nn),some (.dat (.list MD)),some (I ff),some (I step),some (.dat (.list (zs.map .str))),o6,o7,o8] m':=fun zs m' o6 o7 o8 hz hg hf'=>by
  simp[tP];exact⟨zs,rfl,by omega,fun ys hp hs=>h ys m' (by rw[hp.length_eq,hz]) (z9 hg hp (W6 hs (hp.nodup_iff.mpr hg.1))) hf'⟩
 simp[Tu,cI];refine⟨by omega,?_⟩
 refine lB (fun i acc d m'=>m'=m2/\(∃ o,d=[o,some (.dat (.list MD)),some (I ff),some (I step)])/\acc=((List.range i).map (f1 ff step)).map .str) ?_ ?_ _ _ _ ⟨rfl,⟨none,rfl⟩,rfl⟩
 ·rintro acc d m3 ⟨rfl,_,rfl⟩;have g1:Nm0 ((List.range nn).map (f1 ff step)):=U6 (by omega) hst (by omega)
  obtain⟨zs,ez⟩:∃ zs,zs=(List.range nn).map (f1 ff step):=⟨_,rfl⟩;have hz:zs.length=nn:=by rw[ez];simp
  rw[<- ez]at g1 ⊢;simp[Ol];refine eR (by decide) (by decide) hf2 fun w m4 w0 w1 hf4=>?_
  simp[PyData.eqv,PyData.canLay0,PyData.depth]
  by_cases c:w=0
  ·right
   refine⟨c,?_⟩;simp[Qo];simp[Ca,cI];refine eR (by decide) (by decide) hf4 fun e8 m5 v0 v1 hf5=>?_
   obtain⟨en,rfl⟩:∃ en:Nat,e8=en:=⟨e8.toNat,by omega⟩
   refine⟨_,rfl,by omega,by omega,?_⟩
   rw[Int.toNat_natCast];refine lB (fun i acc d m'=>Feeds m' a/\(∃ o,d=[o,some (.cel a),some (.dat (.str "abcdefghijklmnopqrstuvwxyz"))])/\∃ zs:List Str,acc=zs.map .str/\zs.length=i/\(∀ z∈zs,z.length=1)/\∀ z∈zs,gc z) ?_ ?_ _ _ _ ⟨hf5,⟨none,rfl⟩,[],rfl,rfl,by simp,by simp⟩
   ·rintro acc d m6 ⟨hf6,_,us,rfl,hu,hu1,hu2⟩;have hsum:=Et hu1
    refine⟨us,rfl,by decide,by rw[hsum];omega,?_⟩
    have hbase:(Txt.join (Str.ofString "") us).length<=7:=by
     unfold Txt.join;rw[size_glued,hsum,show(Str.ofString "").length=0 by decide +kernel]
     omega
    have gb:gc (Txt.join (Str.ofString "") us):=by
     unfold Txt.join
     first
      | rw[Str.glued_eq_join]
      | rw[StrLaws.glued_eq_join]
      | rw[glued_eq_join]
     exact Ck us hu2
    obtain⟨base,eb⟩:∃ b,Txt.join (Str.ofString "") us=b:=⟨_,rfl⟩;rw[eb]at hbase gb ⊢;simp[Os];refine⟨sz (by omega),?_⟩
    refine eR (by omega) (by omega) hf6 fun at_ m7 a0 a1 hf7=>?_
    simp[Od,cI];refine⟨by omega,?_⟩
    obtain⟨x,ex⟩:∃ x,x=Txt.slice base none (some at_):=⟨_,rfl⟩;obtain⟨y,ey⟩:∃ y,y=Txt.slice base (some at_) none:=⟨_,rfl⟩;have lx:x.length<=7:=by rw[ex];exact Nat.le_trans (sN _ _ _) hbase
    have ly:y.length<=7:=by rw[ey];exact Nat.le_trans (sN _ _ _) hbase
    have gx:gc x:=by rw[ex];exact Co gb _ _
    have gy:gc y:=by rw[ey];exact Co gb _ _
    refine lB (fun i acc d m'=>m'=m7/\(∃ o,d=[o,some (I ff),some (.dat (.str "abcdefghijklmnopqrstuvwxyz")),some (.dat (.str base)),some (I at_)])/\acc=((List.range i).map (f2 x y ff)).map .str) ?_ ?_ _ _ _ ⟨rfl,⟨none,rfl⟩,rfl⟩
    ·rintro acc d m8 ⟨rfl,_,rfl⟩;exact fin _ _ _ _ _ (by simp) (FG gx gy (by rw[ex,ey];exact Wt hbase a0 (by omega)) (by omega) (by omega)) hf7
    ·rintro i acc d m8 k hi ⟨rfl,⟨o,rfl⟩,rfl⟩ hk;have el:=d6 ff i
     simp[<- ex,<- ey];have l1:∀ c:Nat,(({cps:=#[c]}:Str)).length=1:=fun _=>rfl
     refine⟨sz (by omega),mH (El (by decide) (by decide)),sz (by decide +kernel),_,el,sz (by rw[l1];omega),sz (by omega),sz (by rw[strLen_append,l1];omega),ai (show i<1000 by omega) (sz (by decide)),hk _ _ _ ⟨rfl,⟨_,rfl⟩,?_⟩⟩
     rw[List.range_succ];simp[f2,mF]
   ·rintro i acc d m6 k hi ⟨hf6,⟨o,rfl⟩,us,rfl,hu,hu1,hu2⟩ hk;simp;refine eR (by decide) (by decide) hf6 fun q m7 q0 q1 hf7=>?_
    obtain⟨qn,rfl⟩:∃ qn:Nat,q=qn:=⟨q.toNat,by omega⟩
    have ec:bR (Str.ofString "abcdefghijklmnopqrstuvwxyz").cps.toList (qn:Int)=some (97+qn):=eE (Hl qn (by omega))
    refine⟨sz (by decide),_,ec,_,rfl,ai (by omega) (sz (n:=100) (by decide)),hk _ _ _ ⟨hf7,⟨_,rfl⟩,us++[⟨#[97+qn]⟩],by simp,by simp[hu],fun z hz=>?_,fun z hz=>?_⟩⟩
    ·rcases List.mem_append.mp hz with hz | hz
     ·exact hu1 z hz
     ·have:z=⟨#[97+qn]⟩:=by simpa using hz
      rw[this];rfl
    ·rcases List.mem_append.mp hz with hz | hz
     ·exact hu2 z hz
     ·have:z=⟨#[97+qn]⟩:=by simpa using hz
      rw[this];exact Cq (by omega)
  ·left
   exact⟨c,fin zs m4 _ _ _ hz g1 hf4⟩
 ·rintro i acc d m3 k hi ⟨rfl,⟨o,rfl⟩,rfl⟩ hk;have em:=B8 ff step i
  simp;refine⟨mH (El (by omega) (by omega)),_,em,?_⟩
  refine⟨ai (show i<1000 by omega) (sz (by decide)),hk _ _ _ ⟨rfl,⟨_,rfl⟩,?_⟩⟩
  rw[List.range_succ];simp
theorem Ew(i n:Nat):dJ (i:Int) (n+1)=I i::dJ ((i+1:Nat):Int) n:=by
 unfold dJ;rw[List.range_succ_eq_map,aq,List.map_map]
 congr 1
 refine List.map_congr_left fun k _=>?_;have:(i:Int)+((k+1:Nat):Int)=((i+1:Nat):Int)+(k:Int):=by omega
 show D.dat (.int ((i:Int)+((k+1:Nat):Int)))=D.dat (.int (((i+1:Nat):Int)+(k:Int)))
 rw[this]
theorem rY{g:DG}{b:DS}{E:Ends2}(N:Nat)(J:Nat->bS->Mu->Prop)(fin:∀ d m,J N d m->E.nx d m)
  (step:∀ i d m (k:bS->Mu->Prop),i<N->J i d m->(∀ d' m',J (i+1) d' m'->k d' m')->g (I i) d m fun d' m'=>b {E with nx:=k,ct:=k,bk:=E.nx} d' m') :
  ∀ (n i:Nat),i+n=N->∀ d m,J i d m->dW g b E (dJ (i:Int) n) d m
 | 0,i,e,d,m,h=>by
  have:i=N:=by omega
  subst this;exact fin d m h
 | n+1,i,e,d,m,h=>by
  rw[Ew];exact step i d m _ (by omega) h (rY N J fin step n (i+1) (by omega))
theorem M1{n:Nat}{x:D}(h:x∈dJ 0 n):∃ i:Int,x=I i/\0<=i/\i<n:=by
 unfold dJ at h;obtain⟨i,hi,rfl⟩:=List.mem_map.mp h;have:=List.mem_range.mp hi
 exact⟨_,rfl,by omega,by omega⟩
theorem Lu{xs:List PyData}{n:Nat}(h:n<=xs.length):iA xs (some (n:Int)) none=xs.drop n:=by
 unfold iA;have e1:HT.sIx xs.length 0 (some (n:Int))=n:=by
  have q:¬ ((n:Int)<0):=by omega
  simp[HT.sIx,q];exact Nat.min_eq_left h
 have e2:HT.sIx xs.length xs.length none=xs.length:=rfl
 rw[e1,e2];exact List.take_of_length_le (by rw[List.length_drop];omega)
theorem HG:∀ ds m R,ds.length=Nf.length->Ap ds m R->uZ (EN R) (bY Op ds) m:=by
 rintro ds m R hl ⟨a,b,rfl,h⟩;simp[uZ,Cs,Pz];refine⟨fun n d m'=>m'=m/\∃ x y:Int,d=[some (I x),some (I y)]/\n=y.natAbs/\Int.gcd x y=Int.gcd a b,⟨_,rfl,a,b,rfl,rfl,rfl⟩,?_⟩;rintro n d m' ⟨rfl,x,y,rfl,rfl,hg⟩
 by_cases hy:y=0
 ·subst hy;rw[Int.gcd_zero_right]at hg;have e:(if x<0 then -x else x)=((a.gcd b:Nat):Int):=by rw[<- hg];split<;>omega
  simp[PyData.eqv,PyData.canLay0,PyData.depth];rw[e];exact h
 ·simp[PyData.eqv,PyData.canLay0,PyData.depth,hy];refine⟨fun d' m''=>m''=m'/\d'=[some (I y),some (I (x.fmod y))],?_,by simp⟩
  rintro d' m'' ⟨rfl,rfl⟩;exact⟨_,Ia x y hy,rfl,y,x.fmod y,rfl,rfl,by rw[Ka];exact hg⟩
theorem Kn.refl{m:Mu}:Kn m m:=fun _ _=>rfl
theorem Kn.trans{m m1 m2:Mu}(h:Kn m m1)(g:Kn m1 m2):Kn m m2:=fun c h2=>by
 have e:=h c h2
 rw[g c (by rw[e];exact h2),e]
theorem Kn.new{m:Mu}{c:Addr}{x:Cel}(h:m c=none):Kn m (bW m c x):=fun b hb=>cZ fun e=>by rw[e,h]at hb;cases hb
theorem Kn.kp{a:Addr}{m m':Mu}(h:Kn m m'):Kp a m m':=fun c _ hc=>h c hc
theorem Kn.get{m m':Mu}{c:Addr}{x:Cel}(h:Kn m m')(hc:m c=some x):m' c=some x:=by rw[h c (by rw[hc];rfl)];exact hc
theorem Kp.get{a:Addr}{m m':Mu}{c:Addr}{x:Cel}(h:Kp a m m')(ne:c≠a)(hc:m c=some x):m' c=some x:=by rw[h c ne (by rw[hc];rfl)];exact hc
theorem Feeds.kn{a:Addr}{m m':Mu}(h:Feeds m a)(k:Kn m m'):Feeds m' a:=by
 obtain⟨xs,e,f⟩:=h;exact⟨xs,k.get e,f⟩
theorem TmAll.of:∀ {ts:List (Str×Bool)} {ps:List PyData} {i:Nat} {t:Str×Bool},TmAll ts ps->ts[i]?=some t->∃ p x y,ps[i]?=some p/\Tm p t.2 x y
 | t::ts,q::ps,0,u,h,e=>by
  cases e
  obtain⟨x,y,g⟩:=h.1;exact⟨_,x,y,rfl,g⟩
 | t::ts,q::ps,i+1,u,h,e=>by
  obtain⟨p,x,y,e2,g⟩:=TmAll.of h.2 (by simpa using e)
  exact⟨p,x,y,by simpa using e2,g⟩
 | [],[],i,p,_,e=>by simp at e
 | [],_::_,_,_,h,_=>h.elim
 | _::_,[],_,_,h,_=>h.elim
theorem He{ts:List (Str×Bool)}{ps:List PyData}{z:Str}(ht:TmAll ts ps)(hz:z∈ts.map (·.1)):∃ k x y,ps[(ts.map (·.1)).idxOf z]?=some (FT ts ps z)/\Tm (FT ts ps z) k x y/\ts[(ts.map (·.1)).idxOf z]?=some (z,k)/\(z,k)∈ts:=by
 have hj:(ts.map (·.1)).idxOf z<ts.length:=by
  have:=List.idxOf_lt_length_iff.mpr hz
  simpa using this
 have e0:(ts[(ts.map (·.1)).idxOf z]).1=z:=by
  have:=List.getElem_idxOf (x:=z) (xs:=ts.map (·.1)) (by simpa using hj)
  rw[List.getElem_map]at this;exact this
 obtain⟨p,x,y,e1,t1⟩:=ht.of (List.getElem?_eq_getElem hj);have e2:FT ts ps z=p:=by
  show ps.getD _ _=p
  rw[List.getD_eq_getElem?_getD,e1];rfl
 have e3:ts[(ts.map (·.1)).idxOf z]=(z,(ts[(ts.map (·.1)).idxOf z]).2):=Prod.ext e0 rfl
 exact⟨(ts[(ts.map (·.1)).idxOf z]).2,x,y,by rw[e2];exact e1,by rw[e2];exact t1,by rw[List.getElem?_eq_getElem hj];exact congrArg some e3,by rw[<- e3];exact List.getElem_mem hj⟩
theorem Lf{ts:List (Str×Bool)}{ps:List PyData}{e:Str×Bool}{k:Bool}{x y:Int×Int}(h:Tm (FT ts ps e.1) k x y):gO ts ps e=if e.2 then y else x:=by
 unfold gO;rw[E6 h]
theorem Jc{ts:List (Str×Bool)}{ps:List PyData}{e:Str×Bool}(ht:TmAll ts ps)(he:e.1∈ts.map (·.1)):0<(gO ts ps e).2/\Bd 800 (gO ts ps e).1/\Bd 800 (gO ts ps e).2:=by
 obtain⟨k,x,y,_,h,_,_⟩:=He ht he;rw[Lf h]
 cases e.2
 ·exact⟨h.px,h.b1,h.b2⟩
 ·exact⟨h.py,h.b3,h.b4⟩
theorem EG(k:Bool):decide (kd k=Str.ofString "point")=!k:=by cases k<;>decide +kernel
@[simp] theorem Dx(x y z:PyData)(xs:List PyData):bR (x::y::z::xs) 2=some z:=by
 have:(2:Int)<xs.length+1+1+1:=by omega
 simp[bR,dQ,this]
@[simp] theorem IF(x y z w:PyData)(xs:List PyData):bR (x::y::z::w::xs) 3=some w:=by
 have:(3:Int)<xs.length+1+1+1+1:=by omega
 simp[bR,dQ,this]
@[simp] theorem IJ(x y z w v:PyData)(xs:List PyData):bR (x::y::z::w::v::xs) 4=some v:=by
 have:(4:Int)<xs.length+1+1+1+1+1:=by omega
 simp[bR,dQ,this]
theorem Kd{m0:Mu}{c:Addr}{th:Option D}{L:List PyData}{E:Ends2}(hc:m0 c=none):∀ (todo:List (Str×Bool)) (acc:List PyData) (o2 o3:Option D) (m:Mu),acc.length+2*todo.length<=40->Kn m0 m->m c=some (.l acc)->acc++(bT todo).map cG=L->(∀ o2 o3 m',Kn m0 m'->m' c=some (.l L)->E.nx [th,some (.cel c),o2,o3] m') ->
  dW (gT 2 (bV (gN 2) (bV (gN 3) dF))) mX E (todo.map fun t=>.dat (.tuple [.str t.1,.str (kd t.2)])) [th,some (.cel c),o2,o3] m
 | [],acc,o2,o3,m,_,hk,hm,e,h=>by
  simp[bT]at e;subst e;simpa[dW] using h o2 o3 m hk hm
 | t::todo,acc,o2,o3,m,hl,hk,hm,e,h=>by
  rw[List.length_cons]at hl;have ih:=Kd (th:=th) (L:=L) (E:=E) hc todo
  simp only[aq,dW];obtain⟨K,hK⟩:∃ K,K=dW (gT 2 (bV (gN 2) (bV (gN 3) dF))) mX E (todo.map fun t=>.dat (.tuple [.str t.1,.str (kd t.2)])):=⟨_,rfl⟩;rw[<- hK]at ih ⊢;have q1:acc.length<sizeLine:=ai (show acc.length<1000 by omega) (sz (by decide))
  have q2:acc.length+1<sizeLine:=ai (show acc.length+1<1000 by omega) (sz (by decide))
  have kn:∀ {m:Mu} {x:Cel},Kn m0 m->Kn m0 (bW m c x):=fun hk b hb=>by
   rw[cZ fun z=>by rw[z,hc]at hb;cases hb]
   exact hk b hb
  obtain⟨z,k⟩:=t
  cases k with
  | false =>
   simp (decide:=true) [mX,sX,hm,q1,q2,sz,kd,cO,sY];refine ih _ _ _ _ ?_ (kn hk) cO ?_ h
   ·simp;omega
   ·rw[<- e];simp[bT]
  | true =>
   simp (decide:=true) [mX,sX,hm,q1,q2,sz,kd,cO,sY];refine ih _ _ _ _ ?_ (kn hk) cO ?_ h
   ·simp;omega
   ·rw[<- e];simp[bT]
theorem E2:∀ ds m R,ds.length=Fy.length->rF ds m R->sZ (EN R) (bY Ld ds) m:=by
 rintro ds m R hl ⟨ts,rfl,hn,h⟩;simp[sZ,sz];intro c hc;simp[Qy];have q:=Kd (m0:=m) (c:=c) (th:=some (.dat (TH ts))) (L:=(bT ts).map cG) (E:={nx:=Au (EN R),rt:=R}) hc ts [] none none (bW m c (.l [])) (by simp;omega) (.new hc) cO rfl (fun o2 o3 m' k' hm'=>by
  simp[Au];exact h c m' hc k' hm')
 simpa[Function.comp_def] using q
theorem BC:∀ ds m R,ds.length=Jj.length->nK ds m R->zP (EN R) (bY Bq ds) m:=by
 rintro ds m R hl ⟨ts,ps,e,rfl,nm,ht,he,h⟩;have n6:ts.length<=6:=by simpa using nm.le
 obtain⟨k,x,y,e1,h1,e2,e3⟩:=He ht he;rw[Lf h1]at h;have hj:(ts.map (·.1)).idxOf e.1<ts.length:=(List.getElem?_eq_some_iff.mp e2).1
 simp[zP];refine⟨by omega,?_⟩
 refine rY (N:=ts.length) (fun i d m'=>m'=m/\(∃ o,d=[some (.dat (TH ts)),some (.dat (.tuple ps)),some (.dat (cG e)),o])/\i<=(ts.map (·.1)).idxOf e.1) ?_ ?_ ts.length 0 (by omega) _ _ ⟨rfl,⟨_,rfl⟩,Nat.zero_le _⟩
 ·rintro d m1 ⟨_,_,hi⟩;omega
 ·rintro i d m1 K hi ⟨rfl,⟨o,rfl⟩,hi2⟩ hk;have ti:=List.getElem?_eq_getElem hi
  have et:=zE ti
  by_cases c:i=(ts.map (·.1)).idxOf e.1
  ·have e4:ts[i]=(e.1,k):=by
    rw[<- c,ti]at e2;exact Option.some.inj e2
   have e5:bR ps (i:Int)=some (FT ts ps e.1):=eE (by rw[c];exact e1)
   rw[e4]at et;have eq:=h1.eq
   simp[Ac];refine⟨_,et,?_⟩;simp;refine⟨_,et,?_⟩;simp[EG,e5];rw[eq]
   cases k with
   | false =>
    cases h1.pt rfl
    have e6:(if e.2=true then x else x)=x:=by split<;>rfl
    rw[e6]at h;simpa using h
   | true =>
    cases hb:e.2 with
    | false=>rw[hb]at h;simpa using h
    | true=>rw[hb]at h;simpa using h
  ·have ne:¬ (ts[i].1=e.1):=fun z=>by
    have:(ts.map (·.1)).idxOf e.1<=i:=by
     have h3:i<(ts.map (·.1)).length:=by simpa using hi
     have h4:(ts.map (·.1))[i]=e.1:=by simpa using z
     rw[<- h4,List.Nodup.idxOf_getElem nm.1];exact aj _
    omega
   simp[Ac];refine⟨_,et,?_⟩;simp[ne];exact hk _ _ ⟨rfl,⟨_,rfl⟩,by omega⟩
theorem Dg{ts:List (Str×Bool)}{ps:List PyData}{x:Str×Bool}{m:Mu}{R:DK}(nm:Nm (ts.map (·.1)))(ht:TmAll ts ps)(hx:x.1∈ts.map (·.1))(h:R (.dat (fq (gO ts ps x))) m):nK [.dat (TH ts),.dat (.tuple ps),.dat (cG x)] m R:=⟨ts,ps,x,rfl,nm,ht,hx,h⟩
theorem Xn:∀ z∈kP,PyData.strOk z=true:=by decide +kernel
theorem Ln{n:Nat}{x:Int}(hn:0<n):∃ j:Nat,x.fmod (n:Int)=j/\j<n:=by
 have h1:=Int.fmod_nonneg_of_pos x (b:=(n:Int)) (by omega)
 have h2:=Int.fmod_lt_of_pos x (b:=(n:Int)) (by omega)
 exact⟨(x.fmod n).toNat,by omega,by omega⟩
theorem pK{xs:List PyData}{P:PyData->Prop}{r:Int}{K:PyData->Prop}(h:∀ p∈xs,P p)(h0:0<=r)(h1:r<(xs.length:Int))(k:∀ p,P p->K p):∃ p,bR xs r=some p/\K p:=by
 obtain⟨p,e,g⟩:=oM h h0 h1
 exact⟨p,e,k p g⟩
theorem fO:∀ {ts:List (Str×Bool)} {x:Str×Bool},x∈bT ts->x.1∈ts.map (·.1)
 | t::ts,x,h=>by
  simp only[bT,List.mem_cons,List.mem_append]at h;rcases h with rfl | h | h
  ·simp
  ·cases hb:t.2 with
   | true =>
    rw[hb]at h;simp at h;subst h;simp
   | false=>rw[hb]at h;simp at h
  ·exact ap _ (fO h)
theorem Fm:∀ ts:List (Str×Bool),(bT ts).length<=2*ts.length
 | []=>aj _
 | t::ts=>by
  have:=Fm ts
  cases hb:t.2<;>simp[bT,hb]<;>omega
theorem DH{i:Int}(h1:-2000000<=i)(h2:i<=2000000):Bd 190 i:=by
 refine Bd.mono (m:=30) ?_ (by decide)
 unfold Bd;have e:(2:Nat)^30=1073741824:=by decide
 omega
theorem Dp{ts:List (Str×Bool)}{ps:List PyData}{e:Str×Bool}(hb:∀ p∈ps,jR 60 p):Bd 60 (gO ts ps e).1/\Bd 60 (gO ts ps e).2:=by
 have h:jR 60 (FT ts ps e.1):=by
  unfold FT FN;rw[List.getD_eq_getElem?_getD]
  cases q:ps[(ts.map (·.1)).idxOf e.1]? with
  | none=>exact⟨show(0:Int).natAbs<2^60 by decide,show(1:Int).natAbs<2^60 by decide,show(0:Int).natAbs<2^60 by decide,show(1:Int).natAbs<2^60 by decide⟩
  | some p=>exact hb p (List.mem_of_getElem? q)
 unfold gO;obtain⟨h1,h2,h3,h4⟩:=h
 split
 ·exact⟨h3,h4⟩
 ·exact⟨h1,h2⟩
end K17
namespace TX
open PySem PySem.W PySem.NumText PyProof.Rows
theorem first_cut{c:Nat}:∀ {p q A B:List Nat},c∉p->c∉q->p++c::A=q++c::B->p=q/\A=B
 | [],[],A,B,_,_,e=>⟨rfl,by simpa using e⟩
 | [],b::q,A,B,_,hq,e=>by
  have:c=b:=by simpa using (List.cons.inj e).1
  exact absurd List.mem_cons_self (this▸hq)
 | a::p,[],A,B,hp,_,e=>by
  have:a=c:=by simpa using (List.cons.inj e).1
  exact absurd List.mem_cons_self (this▸hp)
 | a::p,b::q,A,B,hp,hq,e=>by
  obtain⟨e1,e2⟩:=List.cons.inj e;obtain⟨e3,e4⟩:=first_cut (fun h=>hp (ap _ h)) (fun h=>hq (ap _ h)) e2;exact⟨by rw[e1,e3],e4⟩
theorem ext{x y:Str}(h:x.cps.toList=y.cps.toList):x=y:=by
 cases x;cases y
 simp at h;rw[h]
theorem join_cons(c:Nat)(p q:Str)(r:List Str):(Str.join ⟨#[c]⟩ (p::q::r)).cps.toList=p.cps.toList++c::(Str.join ⟨#[c]⟩ (q::r)).cps.toList:=by
 simp[Str.join,Str.cps_append]
theorem Jy(c:Nat):∀ {ps qs:List Str},ps≠[]->qs≠[]->(∀ p∈ps,c∉p.cps.toList)->(∀ q∈qs,c∉q.cps.toList)->Str.join ⟨#[c]⟩ ps=Str.join ⟨#[c]⟩ qs->ps=qs
 | [p],[q],_,_,_,_,e=>by simpa[Str.join] using e
 | [p],q::q'::r,_,_,hp,_,e=>by
  have e1:=congrArg (fun z:Str=>z.cps.toList) e
  simp only[join_cons]at e1;simp only[Str.join]at e1;exact absurd (show c∈p.cps.toList by rw[e1];simp) (hp p List.mem_cons_self)
 | p::p'::r,[q],_,_,_,hq,e=>by
  have e1:=congrArg (fun z:Str=>z.cps.toList) e
  simp only[join_cons]at e1;simp only[Str.join]at e1;exact absurd (show c∈q.cps.toList by rw[<- e1];simp) (hq q List.mem_cons_self)
 | p::p'::r,q::q'::r',_,_,hp,hq,e=>by
  have e1:=congrArg (fun z:Str=>z.cps.toList) e
  simp only[join_cons]at e1;obtain⟨e2,e3⟩:=first_cut (hp p List.mem_cons_self) (hq q List.mem_cons_self) e1;have e4:=Jy c (by simp) (by simp) (fun z hz=>hp z (ap _ hz)) (fun z hz=>hq z (ap _ hz)) (ext e3)
  rw[ext e2,e4]
theorem R8(x y:Str):Txt.split x y≠[]:=by
 unfold Txt.split
 split
 ·simp
 ·split
  ·simp
  ·unfold Builtin.Str.partsBetween;intro e;have:=congrArg List.length e
   simp at this
theorem sp_is:(Str.ofString " ")=⟨#[32]⟩:=by decide +kernel
theorem split_join{ws:List Str}(h:ws≠[])(hf:∀ w∈ws,32∉w.cps.toList):Txt.split (Txt.join " " ws) " "=ws:=by
 have e:=StrLaws.join_split (Txt.join (Str.ofString " ") ws) (Str.ofString " ")
 refine Jy 32 (R8 _ _) h ?_ hf ?_
 ·have q:=StrLaws.split_free (Txt.join (Str.ofString " ") ws) 32
  rw[<- sp_is]at q;exact q
 ·rw[<- sp_is,e];exact StrLaws.glued_eq_join _ _
abbrev sI(i:Int):Str:=Str.ofString (toString i)
theorem nat_digits(m:Nat):AllDigits (sI m).cps.toList/\(sI m).cps.toList≠[]/\digitsVal (sI m).cps.toList=m:=by
 refine⟨fun c hc=>?_,?_,by rw[KIN.signs_num,KIN.val_back]⟩
 ·rw[KIN.signs_num]at hc;obtain⟨ch,hch,e⟩:=List.mem_map.mp hc;have r:=digit_range (Nat.isDigit_of_mem_toDigits (by decide) (by decide) hch)
  rw[<- e];exact r
 ·rw[KIN.signs_num];intro e;have h:=toDigits_len_ge 10 m
  rw[List.map_eq_nil_iff.mp e]at h;exact absurd h (by decide)
theorem Ei(m:Nat):(sI (-((m+1:Nat):Int))).cps.toList=45::(sI ((m+1:Nat):Int)).cps.toList:=by
 have e:toString (-((m+1:Nat):Int))="-"++toString ((m+1:Nat):Int):=rfl
 rw[sI,e,signs_ofString,signs_ofString,String.toList_append];rfl
theorem dl:∀ (k m:Nat),m<10^(k+1)->(Nat.toDigits 10 m).length<=k+1
 | 0,m,h=>by rw[Nat.toDigits_of_lt_base (by simpa using h)];simp
 | k+1,m,h=>by
  by_cases c:m<10
  ·rw[Nat.toDigits_of_lt_base c];simp
  ·have hm:m%10<10:=Nat.mod_lt m (by decide)
   have t:Nat.toDigits 10 (m / 10)++Nat.toDigits 10 (m%10)=Nat.toDigits 10 (10*(m / 10)+m%10):=Nat.toDigits_append_toDigits (by decide) (by omega) hm
   rw[Nat.div_add_mod]at t;have q:=dl k (m / 10) (by rw[Nat.pow_succ]at h;omega)
   rw[<- t,List.length_append,Nat.toDigits_of_lt_base hm];simp;omega
theorem len6{m:Nat}(h:m<=999999):(sI (m:Int)).length<=6:=by
 have e:(sI (m:Int)).length=(sI (m:Int)).cps.toList.length:=by simp[Str.length]
 rw[e,KIN.signs_num,ar];exact dl 5 m (by omega)
theorem len_pos(m:Nat):1<=(sI (m:Int)).length:=by
 have e:(sI (m:Int)).length=(sI (m:Int)).cps.toList.length:=by simp[Str.length]
 rw[e];have:=(nat_digits m).2.1
 cases q:(sI (m:Int)).cps.toList with
 | nil=>exact absurd q this
 | cons _ _=>simp
theorem int_reads{a:Int}(h:a.natAbs<=999999):PySem.intText? (sI a)=some a/\(sI a).length<=7:=by
 by_cases c:a<0
 ·obtain⟨m,rfl⟩:∃ m:Nat,a=-((m+1:Nat):Int):=⟨a.natAbs-1,by omega⟩
  have e:=Ei m
  have l6:=len6 (m:=m+1) (by omega)
  have hx:(sI (-((m+1:Nat):Int))).length=(sI (((m+1:Nat):Int))).length+1:=by
   have:=congrArg List.length e
   simpa[Str.length] using this
  obtain⟨d1,d2,d3⟩:=nat_digits (m+1);have q:=intText_neg e d1 d2 (by omega)
  rw[d3]at q;exact⟨q,by omega⟩
 ·obtain⟨m,rfl⟩:∃ m:Nat,a=(m:Int):=⟨a.natAbs,by omega⟩
  have l6:=len6 (m:=m) (by omega)
  obtain⟨d1,d2,d3⟩:=nat_digits m;have q:=intText_digits d1 d2 (by omega)
  rw[d3]at q;exact⟨q,by omega⟩
theorem rem_minus{a:Int}:Txt.removeprefix (sI a) "-"=sI (a.natAbs:Int):=by
 rw[StrLaws.removeprefix_eq];have hy:(Str.ofString "-")=⟨#[45]⟩:=by decide +kernel
 rw[hy]
 by_cases c:a<0
 ·obtain⟨m,rfl⟩:∃ m:Nat,a=-((m+1:Nat):Int):=⟨a.natAbs-1,by omega⟩
  have e:=Ei m
  have s0:Builtin.Str.subAt (sI (-((m+1:Nat):Int))) ⟨#[45]⟩ 0=true:=by
   refine((StrLaws.subAt_one _ 45 0).mpr ?_).2;rw[e];rfl
  have hl:(⟨#[45]⟩:Str).length=1:=rfl
  have hx:(sI (-((m+1:Nat):Int))).length=(sI (((m+1:Nat):Int))).length+1:=by
   have:=congrArg List.length e
   simpa[Str.length] using this
  rw[hl,s0,decide_eq_true (by omega)]
  simp only[Bool.and_self,if_true];refine ext ?_;rw[e];have:((-((m+1:Nat):Int)).natAbs:Int)=((m+1:Nat):Int):=by omega
  rw[this];simp only[List.drop_succ_cons,List.drop_zero,hx];rw[List.take_of_length_le];simp[Str.length]
 ·obtain⟨m,rfl⟩:∃ m:Nat,a=(m:Int):=⟨a.natAbs,by omega⟩
  have s0:¬ Builtin.Str.subAt (sI (m:Int)) ⟨#[45]⟩ 0=true:=fun h=>by
   by_cases hl:1<=(sI (m:Int)).length
   ·have q:=(StrLaws.subAt_one (sI (m:Int)) 45 0).mp ⟨by show 0+1<=_;omega,h⟩
    have r:=(nat_digits m).1 45 (List.mem_of_getElem? q)
    omega
   ·exact hl (len_pos m)
  rw[if_neg (by simp[s0])]
  simp
theorem part_at{x y:Str}{c:Nat}(hx:c∉x.cps.toList):Txt.partition (x++⟨#[c]⟩++y) ⟨#[c]⟩=(x,⟨#[c]⟩,y):=by
 have hz:(x++⟨#[c]⟩++y).cps.toList=x.cps.toList++c::y.cps.toList:=by simp[Str.cps_append]
 obtain⟨z,ez⟩:∃ z,z=x++⟨#[c]⟩++y:=⟨_,rfl⟩;rw[<- ez]at hz ⊢;have hn:∀ k,k<x.cps.toList.length->¬ StrLaws.At z ⟨#[c]⟩ z.length k:=fun k hk h=>by
  have q:=(StrLaws.subAt_one z c k).mp h
  rw[hz,List.getElem?_append_left hk]at q;exact hx (List.mem_of_getElem? q)
 have ha:StrLaws.At z ⟨#[c]⟩ z.length x.cps.toList.length:=(StrLaws.subAt_one z c _).mpr (by rw[hz,List.getElem?_append_right (aj _)];simp)
 unfold Txt.partition;rcases StrLaws.occ_head z ⟨#[c]⟩ 1 (aj _) with⟨_,h⟩ | ⟨i,r,e,h1,h2⟩
 ·exact absurd ha (h _)
 ·have ei:i=x.cps.toList.length:=by
   rcases Nat.lt_trichotomy i x.cps.toList.length with h | h | h
   ·exact absurd h1 (hn i h)
   ·exact h
   ·exact absurd ha (h2 _ h)
  rw[e];subst ei;have l1:(⟨#[c]⟩:Str).length=1:=rfl
  have lz:z.length=x.cps.toList.length+1+y.cps.toList.length:=by
   have:=congrArg List.length hz
   simp at this;simp[Str.length];omega
  refine Prod.ext (ext ?_) (Prod.ext rfl (ext ?_))
  ·show(z.cps.extract 0 _).toList=_
   rw[Array.toList_extract,hz];simp
  ·show(z.cps.extract _ _).toList=_
   rw[Array.toList_extract,hz,l1,lz];have q:=List.drop_left (l₁:=x.cps.toList++[c]) (l₂:=y.cps.toList)
   simp at q ⊢;rw[q];rw[List.take_of_length_le (by simp)]
theorem part_no{x:Str}{c:Nat}(hx:c∉x.cps.toList):Txt.partition x ⟨#[c]⟩=(x,Str.empty,Str.empty):=by
 unfold Txt.partition;rcases StrLaws.occ_head x ⟨#[c]⟩ 1 (aj _) with⟨e,_⟩ | ⟨i,r,e,h1,h2⟩
 ·rw[e]
 ·exact absurd (List.mem_of_getElem? ((StrLaws.subAt_one x c i).mp h1)) hx
end TX
namespace K17
open PySem PySem.Spec PyProof.Rows L2 DL K01
theorem Sf{zs:List Str}(h:∀ z∈zs,PyData.strOk z=true):PyData.canLayAll0 (zs.map .str)=true:=by
 induction zs with
 | nil=>simp[PyData.canLayAll0]
 | cons z zs ih =>
  simp only[aq,PyData.canLayAll0,PyData.canLay0,h z List.mem_cons_self,ih fun y hy=>h y (ap _ hy),Bool.and_self]
theorem vX:∀ zs:List Str,PyData.depthAll (zs.map .str)<=1
 | []=>by simp[PyData.depthAll]
 | z::zs=>by
  have:=vX zs
  simp only[aq,PyData.depthAll,PyData.depth];omega
theorem GR:∀ s1∈S3,∀ s2∈S3,∀ s3∈S3,∀ s4∈S3,wc true s1 s2 s3 s4∈kP:=by decide +kernel
theorem X0:∀ s∈S3,wc false s s s s∈WS false false:=by decide +kernel
theorem E9:∀ s∈S3,∀ t∈S3,(s=0->t=-1)->wc false s t s t∈WS false true:=by decide +kernel
theorem K6:∀ s∈S3,∀ t∈S3,(s=0->t=1)->wc false t s s t∈WS true false:=by decide +kernel
theorem iU(x y:Int×Int):eM x y∈S3:=by
 rw[pA]
 split
 ·simp[S3]
 ·split<;>simp[S3]
theorem Mf{x y:Int×Int}(h:eM x y=0):x.1*y.2=y.1*x.2:=by
 rw[pA]at h
 split at h
 ·cases h
 ·split at h
  ·cases h
  ·omega
theorem HY{p q:PyData}{k l:Bool}{a0 a1 b0 b1:Int×Int}(hp:Tm p k a0 a1)(hq:Tm q l b0 b1):wd (k&&l) a0 a1 b0 b1∈WS k l:=by
 cases k with
 | true =>
  cases l with
  | true=>exact GR _ (iU _ _) _ (iU _ _) _ (iU _ _) _ (iU _ _)
  | false =>
   rw[hq.pt rfl];refine K6 _ (iU _ _) _ (iU _ _) fun h=>?_;have st:=hp.st rfl
   have z:=Mf h
   have lt:b0.1*a1.2<a1.1*b0.2:=rL hq.px hp.px hp.py (Int.le_of_eq z.symm) st
   rw[pA,if_neg (by omega),if_pos lt]
 | false =>
  rw[hp.pt rfl]
  cases l with
  | true =>
   refine E9 _ (iU _ _) _ (iU _ _) fun h=>?_;rw[pA,if_pos];exact rL hp.px hq.px hq.py (Int.le_of_eq (Mf h)) (hq.st rfl)
  | false =>
   rw[hq.pt rfl];exact X0 _ (iU _ _)
theorem pC{ts:List (Str×Bool)}{t:Str×Bool}(nd:(ts.map (·.1)).Nodup)(h:t∈ts):cS ts t.1=t.2:=by
 induction ts with
 | nil=>cases h
 | cons u ts ih =>
  rw[aq,List.nodup_cons]at nd;unfold cS;rw[List.find?_cons];rcases List.mem_cons.mp h with rfl | h
  ·simp
  ·have ne:u.1≠t.1:=fun e=>nd.1 (by rw[e];exact List.mem_map.mpr ⟨t,h,rfl⟩)
   rw[decide_eq_false ne];exact ih nd.2 h
theorem wP{n k:Nat}{r:Int}{j:Nat}(hk:(k:Int)<n)(r0:0<=r)(r1:r<(n:Int)-1)(e:((k:Int)+1+r).fmod (n:Int)=j):k≠j:=by
 rintro rfl;rw[Int.fmod_eq_emod_of_nonneg _ (by omega)]at e
 by_cases c:(k:Int)+1+r<n
 ·rw[Int.emod_eq_of_lt (by omega) c]at e
  omega
 ·have q:((k:Int)+1+r)%(n:Int)=(k:Int)+1+r-n:=by
   rw[<- Int.sub_emod_right,Int.emod_eq_of_lt (by omega) (by omega)]
  omega
theorem Rw{ws:List Str}{w:Str}{Q:List PyData->Mu->Prop}{m:Mu}:∀ (todo:List Str) (acc:List Str) (o:Option D),acc.length+todo.length<=100->Q ((acc++todo.filter fun z=>decide (z∈ws\/z=w)).map .str) m ->
  cN (gN 0) (eA (bG (aF kO (aA 0) (aA 2))) (bG (aF cJ (aA 0) (aA 1)))) (aA 0) (todo.map fun z=>.dat (.str z)) (acc.map .str) [o,some (.dat (.str w)),some (.dat (.tuple (ws.map .str)))] m Q
 | [],acc,o,_,h=>by simpa[cN] using h
 | z::todo,acc,o,hl,h=>by
  rw[List.length_cons]at hl;have ih:=Rw (ws:=ws) (w:=w) (Q:=Q) (m:=m) todo
  simp only[aq,cN];obtain⟨K,hK⟩:∃ K,K=cN (gN 0) (eA (bG (aF kO (aA 0) (aA 2))) (bG (aF cJ (aA 0) (aA 1)))) (aA 0) (todo.map fun z=>D.dat (.str z)):=⟨_,rfl⟩;rw[<- hK]at ih ⊢;have q:acc.length<sizeLine:=ai (show acc.length<1000 by omega) (sz (by decide))
  have y1:(z∈ws\/z=w)->K (acc.map .str++[.str z]) [some (.dat (.str z)),some (.dat (.str w)),some (.dat (.tuple (ws.map .str)))] m Q:=fun c=>by
   have:=ih (acc++[z]) (some (.dat (.str z))) (by simp;omega) (by rw[List.filter_cons,if_pos (decide_eq_true c)]at h;simpa using h)
   rwa [List.map_append]at this
  have y2:¬ (z∈ws\/z=w)->K (acc.map .str) [some (.dat (.str z)),some (.dat (.str w)),some (.dat (.tuple (ws.map .str)))] m Q:=fun c =>
   ih acc (some (.dat (.str z))) (by omega) (by rw[List.filter_cons,if_neg (by simpa using c)]at h;exact h)
  simp[q];refine⟨ws,rfl,?_⟩
  by_cases c1:z∈ws
  ·exact .inr ⟨c1,y1 (.inl c1)⟩
  ·refine .inl ⟨c1,?_⟩
   by_cases c2:z=w
   ·exact .inr ⟨c2,y1 (.inr c2)⟩
   ·exact .inl ⟨c2,y2 (fun c=>c.elim c1 c2)⟩
theorem O5:∀ ds m R,ds.length=Ii.length->wQ ds m R->Aw (EN R) (bY Bs ds) m:=by
 rintro ds m R hl ⟨a,ts,ps,rfl,nm,ht,h2,hf,h⟩;have n6:ts.length<=6:=by simpa using nm.le
 simp[Aw];refine eP (by omega) (by omega) hf fun k m1 k0 k1 hf1 kp1=>?_
 obtain⟨kk,rfl⟩:∃ kk:Nat,k=kk:=⟨k.toNat,by omega⟩
 have hk:kk<ts.length:=by omega
 simp[Qh];refine eP (by omega) (by omega) hf1 fun r m2 r0 r1 hf2 kp2=>?_
 obtain⟨j,ej,hj⟩:=Ln (n:=ts.length) (x:=(kk:Int)+1+r) (by omega)
 refine⟨by intro z;omega,?_⟩
 rw[ej];have e1:=zE (List.getElem?_eq_getElem hk)
 have e2:=zE (List.getElem?_eq_getElem hj)
 obtain⟨p,x,y,f1,t1⟩:=ht.of (List.getElem?_eq_getElem hk);obtain⟨q,z,w,f2,t2⟩:=ht.of (List.getElem?_eq_getElem hj);obtain⟨t,et⟩:∃ t,t=ts[kk]:=⟨_,rfl⟩;obtain⟨u,eu⟩:∃ u,u=ts[j]:=⟨_,rfl⟩;have mt:t.1∈ts.map (·.1):=List.mem_map.mpr ⟨t,by rw[et];exact List.getElem_mem hk,rfl⟩
 have mu:u.1∈ts.map (·.1):=List.mem_map.mpr ⟨u,by rw[eu];exact List.getElem_mem hj,rfl⟩
 rw[<- et]at e1 t1;rw[<- eu]at e2 t2;have g1:bR ps (kk:Int)=some p:=eE f1
 have g2:bR ps (j:Int)=some q:=eE f2
 have kp12:=kp1.trans kp2
 have nek:t.1≠u.1:=fun e=>by
  have g3:(ts.map (·.1))[kk]'(by simpa using hk)=(ts.map (·.1))[j]'(by simpa using hj):=by simpa[<- et,<- eu] using e
  have ne:kk≠j:=by
   have:=wP (n:=ts.length) k1 r0 r1 ej
   omega
  rcases Nat.lt_or_gt_of_ne ne with lt | lt
  ·exact List.pairwise_iff_getElem.mp nm.nd kk j (by simpa using hk) (by simpa using hj) lt g3
  ·exact List.pairwise_iff_getElem.mp nm.nd j kk (by simpa using hj) (by simpa using hk) lt g3.symm
 have k1':cS ts t.1=t.2:=pC nm.nd (by rw[et];exact List.getElem_mem hk)
 have k2':cS ts u.1=u.2:=pC nm.nd (by rw[eu];exact List.getElem_mem hj)
 have fin:∀ (zs:List Str) (w:Str) m',(zs≠[]/\List.Sublist zs (WS t.2 u.2))->Feeds m' a->Kp a m m'->mZ (EN R) [some (.cel a),some (.dat (TH ts)),some (.dat (.tuple ps)),some (I kk),some (I j),some (.dat (jI t.2 u.2)),some (.dat (.str w)),some (.dat (.tuple (zs.map .str)))] m':=fun zs w m' zo hf' kp'=>by
  simp[mZ];refine⟨_,e1,?_⟩;simp;refine⟨_,e2,?_⟩;simp[sz];exact h (.may t.1 u.1 zs) m' ⟨mt,mu,nek,zo.1,by rw[k1',k2'];exact zo.2⟩ hf' kp'
 simp[Hm];refine⟨_,e1,?_⟩;simp;refine⟨_,e2,?_⟩;simp[sz];simp[Ir,g1,g2];refine⟨p,q,t.2,u.2,x,y,z,w,rfl,t1,t2,?_⟩;simp[Lx];refine⟨a,t.2,u.2,rfl,hf2,fun zs m3 hs hf3 kp3=>?_⟩;have kp3:=kp12.trans kp3
 have lz:=Sf fun z hz=>Xn z (nX _ _ z (hs.subset hz))
 have dz:=vX zs
 obtain⟨W,eW⟩:∃ W,W=wd (t.2&&u.2) x y z w:=⟨_,rfl⟩;have hW:W∈WS t.2 u.2:=by rw[eW];exact HY t1 t2
 rw[<- eW];have again:∀ m',Feeds m' a->Kp a m m'->aG (bI 7 (bM gB (aC (dR [none,some 6,some 7] (eZ (aQ 1 nE (aC (aA 5) aI))) (gN 0) (eA (bG (aF kO (aA 0) (aA 2))) (bG (aF cJ (aA 0) (aA 1)))) (aA 0)) aI))) aL {nx:=mZ (EN R),rt:=R} [some (.cel a),some (.dat (TH ts)),some (.dat (.tuple ps)),some (I kk),some (I j),some (.dat (jI t.2 u.2)),some (.dat (.str W)),some (.dat (.tuple (zs.map .str)))] m':=fun m' hf' kp'=>by
  simp only[aG,bI,bM,aC,aI,dR,eZ,aQ,aA,cI];refine⟨_,rfl,rfl,t.2,u.2,rfl,.inl ⟨_,rfl,?_⟩⟩;have q:=Rw (ws:=zs) (w:=W) (m:=m') (Q:=fun xs m2=>gB [D.dat (.list xs)] m2 fun x m1=>mZ (EN R) [some (D.cel a),some (D.dat (TH ts)),some (D.dat (.tuple ps)),some (I kk),some (I j),some (D.dat (jI t.2 u.2)),some (D.dat (.str W)),some x] m1) (WS t.2 u.2) [] none (by have:=(lP t.2 u.2).2;simp;omega) (fin _ W m' ⟨fun e=>by
    have:W∈[]++(WS t.2 u.2).filter fun z=>decide (z∈zs\/z=W):=by simp[hW]
    rw[e]at this;exact absurd this List.not_mem_nil,by rw[List.nil_append];exact List.filter_sublist⟩ hf' kp')
  rw[List.map_map];exact q
 unfold Jp;show eA _ _ _ _ _
 refine⟨_,rfl,[],rfl,sz (by decide),?_⟩
 refine⟨by simpa only[PyData.canLay0] using lz,by simp[PyData.canLay0,PyData.canLayAll0],by simp only[PyData.depth];omega,_,rfl,?_⟩
 cases ev:PyData.eqv (.tuple (zs.map .str)) (.tuple []) with
 | true=>exact again m3 hf3 kp3
 | false =>
  have zne:zs≠[]:=fun e=>by rw[e]at ev;simp[PyData.eqv,PyData.eqvAll]at ev
  rw[if_neg ak];refine⟨_,rfl,rfl,eP (by decide) (by decide) hf3 fun r m4 r0 r1 hf4 kp4=>?_⟩
  refine⟨_,rfl,?_⟩;dsimp only
  split
  ·exact again m4 hf4 (kp3.trans kp4)
  ·exact fin zs W m4 ⟨zne,hs⟩ hf4 (kp3.trans kp4)
end K17
namespace K17
open PySem PySem.Spec PyProof.Rows L2 DL K01
theorem Qg:∀ {ts:List (Str×Bool)},(ts.map (·.1)).Nodup->(bT ts).Nodup
 | [],_=>List.Pairwise.nil
 | t::ts,nd=>by
  rw[aq,List.nodup_cons]at nd;have ih:=Qg nd.2
  have no:∀ b,(t.1,b)∉bT ts:=fun b h=>nd.1 (fO (x:=(t.1,b)) h)
  simp only[bT]
  cases hb:t.2 with
  | false=>simpa using ⟨no _,ih⟩
  | true=>simpa using ⟨no _,no _,ih⟩
theorem z0{t b:Int}(hb:0<b):∃ n:Int×Int,fr t b=fq n/\0<n.2/\Int.gcd n.1 n.2=1/\n.1.natAbs<=t.natAbs/\n.2<=b:=by
 have g0:=yF (t:=t) (b:=b) (by omega)
 have d1:((t.gcd b:Nat):Int)∣t:=Int.gcd_dvd_left ..
 have d2:((t.gcd b:Nat):Int)∣b:=Int.gcd_dvd_right ..
 refine⟨(t / (t.gcd b:Nat),b / (t.gcd b:Nat)),rfl,(Hg g0 d2).mpr hb,?_,?_,?_⟩
 ·have:=Int.gcd_ediv_gcd_ediv_gcd (i:=t) (j:=b) (by omega)
  exact this
 ·exact Int.natAbs_ediv_le_natAbs _ _
 ·exact Int.ediv_le_self _ (by omega)
theorem Qm{t b:Int}{m:Mu}{R:DK}(h0:0<b)(bb:Bd 2000 b)(h:∀ n:Int×Int,0<n.2->Int.gcd n.1 n.2=1->n.1.natAbs<=t.natAbs->n.2<=b->R (.dat (fq n)) m):iN [I t,I b] m R:=by
 obtain⟨n,e,q1,q2,q3,q4⟩:=z0 (t:=t) h0;exact⟨t,b,rfl,h0,bb,by rw[e];exact h n q1 q2 q3 q4⟩
theorem Xj{A B C:DT}{S N:DS}{E:Ends2}{d:bS}{m:Mu}(a b c:Bool)(hA:∀ Q:Bool->Mu->Prop,Q a m->A d m Q)(hB:∀ Q:Bool->Mu->Prop,Q b m->B d m Q)(hC:∀ Q:Bool->Mu->Prop,Q c m->C d m Q)(h1:S E d m)(h2:a=false->b=false->c=false->N E d m):bU (eA A (eA B C)) S N E d m:=by
 refine hA _ ?_
 cases a with
 | true=>exact h1
 | false =>
  refine hB _ ?_
  cases b with
  | true=>exact h1
  | false =>
   refine hC _ ?_
   cases c with
   | true=>exact h1
   | false=>exact h2 rfl rfl rfl
theorem Yj:∀ ds m R,ds.length=Gd.length->pY ds m R->Ss (EN R) (bY Rj ds) m:=by
 rintro ds m R hl ⟨a,ts,ps,rfl,nm,ht,hb,h2,hf,h⟩;have n6:ts.length<=6:=by simpa using nm.le
 have l12:=Fm ts
 have nd:=Qg nm.nd
 obtain⟨L,hL⟩:∃ L,L=(bT ts).map cG:=⟨_,rfl⟩;have lL:L.length=(bT ts).length:=by rw[hL,ar]
 have hfa:(m a).isSome=true:=by obtain⟨xs,e,_⟩:=hf;rw[e];rfl
 refine⟨_,rfl,rfl,ts,rfl,n6,fun c m1 hc kn1 hm1=>?_⟩;have ca:c≠a:=fun e=>by rw[e]at hc;rw[hc]at hfa;cases hfa
 have hf1:=hf.kn kn1
 have kp1:Kp a m m1:=kn1.kp
 rw[<- hL]at hm1;refine⟨_,rfl,_,rfl,_,hm1,rfl,eP (n:=(L.length:Int)) (by omega) (by omega) hf1 fun k m2 k0 k1 hf2 kp2=>?_⟩
 have hm2:=kp2.get ca hm1
 have kp2:=kp1.trans kp2
 obtain⟨kk,rfl⟩:∃ kk:Nat,k=kk:=⟨k.toNat,by omega⟩
 have hk:kk<(bT ts).length:=by omega
 have e5:bR L (kk:Int)=some (cG (bT ts)[kk]):=by rw[hL];exact eE (by rw[List.getElem?_map,List.getElem?_eq_getElem hk];rfl)
 refine⟨_,rfl,_,rfl,_,_,hm2,e5,?_⟩;refine⟨_,rfl,_,rfl,_,rfl,_,rfl,_,hm2,rfl,eP (n:=(L.length:Int)-1) (by omega) (by omega) hf2 fun r m3 r0 r1 hf3 kp3=>?_⟩
 have hm3:=kp3.get ca hm2
 have kp3:=kp2.trans kp3
 obtain⟨j,ej,hj⟩:=Ln (n:=L.length) (x:=(kk:Int)+1+r) (by omega)
 have ne:=wP (n:=L.length) k1 r0 r1 ej
 have hj':j<(bT ts).length:=by omega
 have e6:bR L (j:Int)=some (cG (bT ts)[j]):=by rw[hL];exact eE (by rw[List.getElem?_map,List.getElem?_eq_getElem hj'];rfl)
 refine⟨_,rfl,_,hm3,by intro z;omega,_,_,hm3,by rw[ej];exact e6,?_⟩
 have xy:(bT ts)[kk]≠(bT ts)[j]:=fun e=>by
  rcases Nat.lt_or_gt_of_ne ne with lt | lt
  ·exact List.pairwise_iff_getElem.mp nd kk j hk hj' lt e
  ·exact List.pairwise_iff_getElem.mp nd j kk hj' hk lt e.symm
 have mx:(bT ts)[kk]∈bT ts:=List.getElem_mem hk
 have my:(bT ts)[j]∈bT ts:=List.getElem_mem hj'
 obtain⟨x,ex⟩:∃ x,x=(bT ts)[kk]:=⟨_,rfl⟩;obtain⟨y,ey⟩:∃ y,y=(bT ts)[j]:=⟨_,rfl⟩;rw[<- ex]at xy mx ⊢;rw[<- ey]at xy my ⊢;have hx:=fO mx
 have hy:=fO my
 obtain⟨x0,-,-⟩:=Jc ht hx;obtain⟨y0,-,-⟩:=Jc ht hy;obtain⟨x1,x2⟩:=Dp (ts:=ts) (e:=x) hb;obtain⟨y1,y2⟩:=Dp (ts:=ts) (e:=y) hb;refine⟨_,rfl,_,rfl,_,rfl,rfl,Dg nm ht hx ?_⟩;refine⟨_,rfl,_,rfl,_,rfl,rfl,Dg nm ht hy ?_⟩;obtain⟨X,eX⟩:∃ X,X=gO ts ps x:=⟨_,rfl⟩;obtain⟨Y,eY⟩:∃ Y,Y=gO ts ps y:=⟨_,rfl⟩;rw[<- eX]at x0 x1 x2 ⊢;rw[<- eY]at y0 y1 y2 ⊢;have fin:∀ (n:Int×Int) o7 o8 o9 o10 o11 o13 m',NumOk n->Feeds m' a->Kp a m m'->pI (EN R) [some (.cel a),some (.dat (TH ts)),some (.dat (.tuple ps)),some (.cel c),some (I kk),some (.dat (cG x)),some (.dat (cG y)),o7,o8,o9,o10,o11,some (.dat (fq n)),o13] m':=fun n o7 o8 o9 o10 o11 o13 m' nk hf' kp'=>by
  simp[pI];refine eP (by decide) (by decide) hf' fun q m4 q0 q1 hf4 kp4=>?_
  simp[PyData.eqv,PyData.canLay0,PyData.depth,sz];exact h (.gap x y n _) m4 ⟨mx,my,xy,nk⟩ hf4 (kp'.trans kp4)
 have last:∀ (t:Int) (way:Int) m',Bd 190 t->Feeds m' a->Kp a m m'->wA (EN R) [some (.cel a),some (.dat (TH ts)),some (.dat (.tuple ps)),some (.cel c),some (I kk),some (.dat (cG x)),some (.dat (cG y)),some (.dat (fq X)),some (.dat (fq Y)),some (I t),some (I (X.2*Y.2)),some (I way),none,none] m':=fun t way m' bt hf' kp'=>by
  have bb:Bd 190 (X.2*Y.2):=(x2.mul y2).mono (by decide)
  have pb:0<X.2*Y.2:=Int.mul_pos x0 y0
  obtain⟨B,eB⟩:∃ B,B=X.2*Y.2:=⟨_,rfl⟩;rw[<- eB]at bb pb ⊢;unfold wA;refine⟨_,rfl,_,rfl,rfl,Qm pb (bb.mono (by decide)) fun n n0 n1 n2 n3=>?_⟩
  have B0:wK {nx:=pI (EN R),rt:=R} [some (.cel a),some (.dat (TH ts)),some (.dat (.tuple ps)),some (.cel c),some (I kk),some (.dat (cG x)),some (.dat (cG y)),some (.dat (fq X)),some (.dat (fq Y)),some (I t),some (I B),some (I way),some (.dat (fq n)),none] m':=by
   unfold wK;simp only[aG,bI,dD,aC,aI,aE,jG,aF,aQ,aA,List.length_cons,List.length_nil];refine⟨_,rfl,_,rfl,_,rfl,_,rfl,trivial,eP (n:=999999) (by decide) (by decide) hf' fun q m4 q0 q1 hf4 kp4=>?_⟩
   refine⟨_,rfl,(sz (by decide):9<=sizeLine),?_⟩
   have z1:1<=sizeLine:=sz (by decide)
   have z10:9+1<=sizeLine:=sz (by decide)
   show sU _ _ _
   unfold sU;refine⟨_,rfl,_,rfl,_,rfl,_,rfl,z1,?_⟩;refine⟨z10,_,rfl,rfl,eP (n:=10) (by decide) (by decide) hf4 fun r m5 r0 r1 hf5 kp5=>?_⟩
   refine pK (P:=fun p=>∃ i:Int,p=.int i/\-999999<=i/\i<=999999) ?_ r0 r1 ?_
   ·intro p hp;simp only[List.cons_append,List.nil_append,List.mem_cons,List.not_mem_nil,or_false]at hp;rcases hp with rfl | rfl | rfl | rfl | rfl | rfl | rfl | rfl | rfl | rfl<;>exact⟨_,rfl,by omega,by omega⟩
   rintro _ ⟨i,rfl,i1,i2⟩;show Ad _ _ _
   unfold Ad;refine⟨_,rfl,_,rfl,(sz (by decide):4<=sizeLine),_,rfl,rfl,eP (n:=4) (by decide) (by decide) hf5 fun s m6 s0 s1 hf6 kp6=>?_⟩
   refine pK (P:=fun p=>∃ i:Int,p=.int i/\0<i/\i<=999999) ?_ s0 s1 ?_
   ·intro p hp;simp only[List.mem_cons,List.not_mem_nil,or_false]at hp;rcases hp with rfl | rfl | rfl | rfl<;>exact⟨_,rfl,by decide,by decide⟩
   rintro _ ⟨d,rfl,d1,d2⟩;refine⟨rfl,Qm d1 (Bd.mono (m:=190) (DH (by omega) (by omega)) (by decide)) fun n' n0' n1' n2' n3'=>?_⟩
   exact fin n' _ _ _ _ _ _ m6 ⟨by omega,by omega,by omega,by omega,n1'⟩ hf6 (kp'.trans (kp4.trans (kp5.trans kp6)))
  show xP (EN R) _ _
  unfold xP;show bU _ _ _ _ _ _
  refine Xj (decide (way=2)) (decide (999999<(if n.1<0 then -n.1 else n.1))) (decide (999999<n.2)) (fun Q q=>?_) (fun Q q=>?_) (fun Q q=>?_) B0 fun f1 f2 f3=>?_
  ·simp[PyData.eqv,PyData.canLay0,PyData.depth]
   by_cases c:way=2
   ·rw[decide_eq_true c]at q;exact .inr ⟨c,q⟩
   ·rw[decide_eq_false c]at q;exact .inl ⟨c,q⟩
  ·simp
   by_cases c:999999<(if n.1<0 then -n.1 else n.1)
   ·rw[decide_eq_true c]at q;exact .inr ⟨c,q⟩
   ·rw[decide_eq_false c]at q;exact .inl ⟨Int.not_lt.mp c,q⟩
  ·simp
   by_cases c:999999<n.2
   ·rw[decide_eq_true c]at q;exact .inr ⟨c,q⟩
   ·rw[decide_eq_false c]at q;exact .inl ⟨Int.not_lt.mp c,q⟩
  ·have g2:=of_decide_eq_false f2
   have g3:=of_decide_eq_false f3
   exact fin n _ _ _ _ _ _ m' ⟨by omega,by omega,by split at g2<;>omega,by split at g2<;>omega,n1⟩ hf' kp'
 unfold Oe;simp;refine⟨x1.mulOk y2 (by decide),y1.mulOk x2 (by decide),?_⟩
 simp[Ts];refine⟨x2.mulOk y2 (by decide),?_⟩
 have bt:Bd 121 (X.1*Y.2-Y.1*X.2):=(x1.mul y2).sub (y1.mul x2)
 obtain⟨T,eT⟩:∃ T,T=X.1*Y.2-Y.1*X.2:=⟨_,rfl⟩;rw[<- eT]at bt ⊢;simp[Oj];refine eP (by decide) (by decide) hf3 fun way m4 w0 w1 hf4 kp4=>?_
 have kp4:=kp3.trans kp4
 simp[Mp]
 by_cases c1:way<2
 ·refine .inr ⟨c1,sz (by decide),?_⟩
  refine eP (by decide) (by decide) hf4 fun q m5 q0 q1 hf5 kp5=>?_
  refine pK (P:=fun p=>∃ i:Int,p=.int i/\Bd 121 i) ?_ q0 q1 ?_
  ·intro p hp;simp at hp;rcases hp with rfl | rfl | rfl
   ·exact⟨0,rfl,Bd.mono (m:=2) (by unfold Bd;decide) (by decide)⟩
   ·exact⟨1,rfl,Bd.mono (m:=2) (by unfold Bd;decide) (by decide)⟩
   ·exact⟨-1,rfl,Bd.mono (m:=2) (by unfold Bd;decide) (by decide)⟩
  ·rintro _ ⟨i,rfl,bi⟩;exact last (T+i) way m5 ((bt.add bi).mono (by decide)) hf5 (kp4.trans kp5)
 ·exact .inl ⟨by omega,last T way m4 (bt.mono (by decide)) hf4 kp4⟩
end K17
namespace K17
open PySem PySem.Spec PyProof.Rows L2 DL K01
theorem AS:∀ ds m R,ds.length=Me.length->uR ds m R->uP (EN R) (bY Lj ds) m:=by
 rintro ds m R hl ⟨a,ts,ps,n,rfl,nm,ht,hb,n0,n1,hf,h⟩;have n6:ts.length<=6:=by simpa using nm.le
 have hfa:(m a).isSome=true:=by obtain⟨xs,e,_⟩:=hf;rw[e];rfl
 simp[uP];refine⟨ts,rfl,n6,fun e m1 he kn1 hm1=>?_⟩;have ea:e≠a:=fun z=>by rw[z]at he;rw[he]at hfa;cases hfa
 have hf1:=hf.kn kn1
 have hfa1:(m1 a).isSome=true:=by obtain⟨xs,e,_⟩:=hf1;rw[e];rfl
 simp[Cv,sz];intro c hc;have ca:c≠a:=fun z=>by rw[z]at hc;rw[hc]at hfa1;cases hfa1
 have ce:c≠e:=fun z=>by rw[z,hm1]at hc;cases hc
 have kn2:Kn m1 (bW m1 c (.l [])):=.new hc
 have hf2:=hf1.kn kn2
 have hm2:=kn2.get hm1
 obtain⟨m2,em2⟩:∃ m2,m2=bW m1 c (.l []):=⟨_,rfl⟩;have hc2:m2 c=some (.l []):=by rw[em2,cO]
 rw[<- em2]at hf2 hm2 ⊢;simp[Ek];refine eP (by omega) (by omega) hf2 fun r m3 r0 r1 hf3 kp3=>?_
 obtain⟨rn,rfl⟩:∃ rn:Nat,r=rn:=⟨r.toNat,by omega⟩
 refine⟨_,rfl,by omega,by omega,?_⟩
 rw[Int.toNat_natCast];refine rY (N:=rn) (fun i d m'=>(∃ o6,d=[some (.cel a),some (.dat (TH ts)),some (.dat (.tuple ps)),some (I n),some (.cel e),some (.cel c),o6])/\Feeds m' a/\m' e=some (.l ((bT ts).map cG))/\∃ ss:List Say,m' c=some (.l (ss.map cL))/\ss.length<=i/\∀ s∈ss,dB ts s) ?_ ?_ rn 0 (by omega) _ _ ⟨⟨_,rfl⟩,hf3,kp3.get ea hm2,[],kp3.get ca hc2,by simp,by simp⟩
 ·rintro d m4 ⟨⟨o6,rfl⟩,hf4,_,ss,hs,hl,ok⟩;simp[Hk,hs,sz];exact h ss m4 (by omega) ok hf4
 ·rintro i d m4 K hi ⟨⟨o6,rfl⟩,hf4,he4,ss,hs,hl,ok⟩ hk;have q1:(ss.map cL).length<sizeLine:=ai (show _<1000 by rw[ar];omega) (sz (by decide))
  -- what an item does
  have add:∀ s m5,dB ts s->Feeds m5 a->Kp a m4 m5->K [some (.cel a),some (.dat (TH ts)),some (.dat (.tuple ps)),some (I n),some (.cel e),some (.cel c),some (I i)] (bW m5 c (.l (ss.map cL++[cL s]))):=fun s m5 os hf5 kp5=>by
   refine hk _ _ ⟨⟨_,rfl⟩,?_,?_,ss++[s],by rw[cO,List.map_append];rfl,by simp;omega,fun z hz=>?_⟩
   ·obtain⟨xs,q,f⟩:=hf5;exact⟨xs,by rw[cZ (Ne.symm ca)];exact q,f⟩
   ·rw[cZ (Ne.symm ce)];exact kp5.get ea he4
   ·rcases List.mem_append.mp hz with hz | hz
    ·exact ok z hz
    ·cases List.mem_singleton.mp hz
     exact os
  have skip:∀ m5,Feeds m5 a->Kp a m4 m5->K [some (.cel a),some (.dat (TH ts)),some (.dat (.tuple ps)),some (I n),some (.cel e),some (.cel c),some (I i)] m5:=fun m5 hf5 kp5=>hk _ _ ⟨⟨_,rfl⟩,hf5,kp5.get ea he4,ss,kp5.get ca hs,by omega,ok⟩
  have gap:∀ m5,Feeds m5 a->Kp a m4 m5->1<(bT ts).length->pY [.cel a,.dat (TH ts),.dat (.tuple ps)] m5 fun x m6=>∃ xs p,x=.dat p/\m6 c=some (.l xs)/\xs.length<sizeLine/\K [some (.cel a),some (.dat (TH ts)),some (.dat (.tuple ps)),some (I n),some (.cel e),some (.cel c),some (I i)] (bW m6 c (.l (xs++[p]))):=fun m5 hf5 kp5 c1 =>
   ⟨a,ts,ps,rfl,nm,ht,hb,by omega,hf5,fun s m6 os hf6 kp6=>⟨_,_,rfl,(kp5.trans kp6).get ca hs,q1,add s m6 os hf6 (kp5.trans kp6)⟩⟩
  have le:((List.map cG (bT ts)).length:Int)=((bT ts).length:Int):=by rw[ar]
  simp[Qs,hs]
  by_cases c0:1<ts.length
  ·refine .inr ⟨by omega,eP (by decide) (by decide) hf4 fun q m5 q0 q2 hf5 kp5=>?_⟩
   simp
   by_cases c2:q<3
   ·refine .inr ⟨c2,⟨_,kp5.get ca hs⟩,a,ts,ps,rfl,nm,ht,by omega,hf5,fun s m6 os hf6 kp6=>⟨_,_,rfl,(kp5.trans kp6).get ca hs,q1,add s m6 os hf6 (kp5.trans kp6)⟩⟩
   ·refine .inl ⟨by omega,_,kp5.get ea he4,?_⟩
    by_cases c1:1<(bT ts).length
    ·exact .inr ⟨by rw[le];omega,⟨_,kp5.get ca hs⟩,gap m5 hf5 kp5 c1⟩
    ·exact .inl ⟨by rw[le];omega,skip m5 hf5 kp5⟩
  ·refine .inl ⟨by omega,_,he4,?_⟩
   by_cases c1:1<(bT ts).length
   ·exact .inr ⟨by rw[le];omega,gap m4 hf4 .refl c1⟩
   ·exact .inl ⟨by rw[le];omega,skip m4 hf4 .refl⟩
end K17
namespace K17
open PySem PySem.Spec PyProof.Rows L2 DL K01
theorem sH{f:DE}{m:Mu}{rest:List (Option D)}(h:PyData->PyData):∀ (xs:List PyData) (acc:List PyData) (o:Option D) (Q:List PyData->Mu->Prop),(∀ x∈xs,∀ K:DK,K (.dat (h x)) m->f (some (.dat x)::rest) m K)->acc.length+xs.length<=1000->Q (acc++xs.map h) m->cN (gN 0) cV f (xs.map .dat) acc (o::rest) m Q
 | [],acc,o,Q,_,_,hq=>by simpa[cN] using hq
 | x::xs,acc,o,Q,hs,hn,hq=>by
  simp only[List.length_cons]at hn;rw[aq,cN];show f (some (.dat x)::rest) m _
  refine hs x List.mem_cons_self _ ?_;exact⟨_,rfl,ai (by omega:acc.length<1000) (sz (by decide)),sH h xs _ _ Q (fun y hy=>hs y (ap _ hy)) (by simp;omega) (by simpa using hq)⟩
def rX:PyData->PyData
 | .str z=>.bool (Txt.contains "abcdefghijklmnopqrstuvwxyz" z)
 | _=>.none
theorem CS(z:Str):(fE z).map rX=(z.cps.toList.map fun c=>Txt.contains "abcdefghijklmnopqrstuvwxyz" ⟨#[c]⟩).map PyData.bool:=by
 simp[fE,rX,Function.comp_def]
theorem Hj(z:Str):z.cps.toList.length=z.length:=by simp[Str.length]
theorem Fb{k j:bF}{p:PyData}:∀ {kvs:List (bF×PyData)},(∃ q,dU kvs j=some q)\/j=k->∃ q,dU (gE kvs k p) j=some q:=by
 intro kvs h;unfold gE
 split
 ·rename_i ha;rcases h with⟨q,hq⟩ | rfl
  ·unfold dU at hq ⊢;rw[List.find?_map]
   cases e:kvs.find? (fun kv=>decide (kv.1=j)) with
   | none=>rw[e]at hq;cases hq
   | some kv =>
    have:(fun kv:bF×PyData=>decide (kv.1=j))∘(fun kv=>if kv.1=k then (kv.1,p) else kv)=fun kv=>decide (kv.1=j):=by
     funext kv
     simp only[Function.comp]
     split<;>rfl
    rw[this,e];exact⟨_,rfl⟩
  ·unfold dU;rw[List.find?_map];have:(fun kv:bF×PyData=>decide (kv.1=j))∘(fun kv=>if kv.1=j then (kv.1,p) else kv)=fun kv=>decide (kv.1=j):=by
    funext kv
    simp only[Function.comp]
    split<;>rfl
   rw[this];obtain⟨kv,hm,hd⟩:=List.any_eq_true.mp ha
   cases e:kvs.find? (fun kv=>decide (kv.1=j)) with
   | none=>exact absurd hd (by simpa using List.find?_eq_none.mp e kv hm)
   | some kv=>exact⟨_,rfl⟩
 ·rename_i ha;unfold dU;rw[List.find?_append];rcases h with⟨q,hq⟩ | rfl
  ·unfold dU at hq
   cases e:kvs.find? (fun kv=>decide (kv.1=j)) with
   | none=>rw[e]at hq;cases hq
   | some kv=>exact⟨_,rfl⟩
  ·cases e:kvs.find? (fun kv=>decide (kv.1=j)) with
   | none=>exact⟨p,by simp⟩
   | some kv=>exact⟨_,rfl⟩
theorem Z9{k:bF}{p:PyData}{kvs:List (bF×PyData)}{kv:bF×PyData}(h:kv∈gE kvs k p):kv∈kvs\/kv=(k,p):=by
 unfold gE at h
 split at h
 ·obtain⟨x,hx,e⟩:=List.mem_map.mp h
  split at e
  ·rename_i hk;subst e;exact .inr (by rw[hk])
  ·subst e;exact .inl hx
 ·rcases List.mem_append.mp h with h | h
  ·exact .inl h
  ·exact .inr (by simpa using h)
theorem Pi:∀ {r acc:List (bF×PyData)} {kv:bF×PyData},kv∈eC acc r->kv∈acc\/kv∈r
 | [],acc,kv,h=>.inl h
 | x::r,acc,kv,h=>by
  have:kv∈eC (gE acc x.1 x.2) r:=h
  rcases Pi this with h | h
  ·rcases Z9 h with h | h
   ·exact .inl h
   ·exact .inr (by rw[h];exact List.mem_cons_self)
  ·exact .inr (ap _ h)
theorem Ha:∀ {r acc:List (bF×PyData)} {j:bF},((∃ q,dU acc j=some q)\/∃ kv∈r,kv.1=j)->∃ q,dU (eC acc r) j=some q
 | [],acc,j,h=>by
  rcases h with h | ⟨kv,h,_⟩
  ·exact h
  ·cases h
 | x::r,acc,j,h=>by
  show ∃ q,dU (eC (gE acc x.1 x.2) r) j=some q
  refine Ha ?_;rcases h with h | ⟨kv,h,e⟩
  ·exact .inl (Fb (.inl h))
  ·rcases List.mem_cons.mp h with rfl | h
   ·exact .inl (Fb (.inr e.symm))
   ·exact .inr ⟨kv,h,e⟩
theorem AM{k:bF}{p:PyData}{kvs:List (bF×PyData)}(h:dU kvs k=some p):(k,p)∈kvs:=by
 unfold dU at h
 cases e:kvs.find? (fun kv=>decide (kv.1=k)) with
 | none=>rw[e]at h;cases h
 | some kv =>
  rw[e]at h
  cases h
  have:=List.find?_some e
  have hk:kv.1=k:=by simpa using this
  rw[<- hk];exact List.mem_of_find?_eq_some e
def dY(ts:List (Str×Bool)):List (bF×PyData):=ts.map fun t=>(Sum.inr t.1,PyData.str (kd t.2))
theorem vV(ts:List (Str×Bool)):TH ts=.tuple ((dY ts).map fun kv=>.tuple [hX kv.1,kv.2]):=by
 unfold dY;simp[hX,Function.comp_def]
theorem BQ{ts:List (Str×Bool)}(nd:(ts.map (·.1)).Nodup){a:Str}{k l:Bool}(h:(a,k)∈ts)(g:(a,l)∈ts):k=l:=by
 induction ts with
 | nil=>cases h
 | cons t ts ih =>
  rw[aq,List.nodup_cons]at nd;rcases List.mem_cons.mp h with h1 | h1<;>rcases List.mem_cons.mp g with g1 | g1
  ·rw[<- h1]at g1;cases g1;rfl
  ·exact absurd (List.mem_map.mpr ⟨_,g1,by rw[<- h1]⟩) nd.1
  ·exact absurd (List.mem_map.mpr ⟨_,h1,by rw[<- g1]⟩) nd.1
  ·exact ih nd.2 h1 g1
theorem xA{ts:List (Str×Bool)}(nd:(ts.map (·.1)).Nodup){a:Str}{k:Bool}(h:(a,k)∈ts):dU (eC [] (dY ts)) (.inr a)=some (.str (kd k)):=by
 obtain⟨q,hq⟩:=Ha (r:=dY ts) (acc:=[]) (j:=.inr a) (.inr ⟨_,List.mem_map.mpr ⟨(a,k),h,rfl⟩,rfl⟩);rcases Pi (AM hq) with g | g
 ·cases g
 ·obtain⟨u,hu,e⟩:=List.mem_map.mp g;obtain⟨u1,u2⟩:=u;simp at e;obtain⟨rfl,rfl⟩:=e;rw[hq,BQ nd hu h]
theorem Wm(k:Bool):dU lE (kd k)=some (.int (if k then 2 else 1)):=by cases k<;>with_unfolding_all rfl
theorem Hu{m:Mu}{Q:List PyData->bS->Mu->Prop}:∀ (ts:List (Str×Bool)) (acc:List PyData) (o0 o1 o2:Option D),acc.length+2*ts.length<=100->(∀ d,Q (acc++(bT ts).map cG) d m) ->
  cR (gD (gT 2 (bV (gN 0) (bV (gN 1) dF))) cV (fD (nT lE (aA 1))) (DL.stepI (gN 2) cV (cY (aC (aA 0) (aC (aA 2) aI))))) (ts.map fun t=>.dat (.tuple [.str t.1,.str (kd t.2)])) acc [o0,o1,o2] m Q
 | [],acc,o0,o1,o2,_,h=>by simpa[cR,bT] using h _
 | t::ts,acc,o0,o1,o2,hl,h=>by
  simp at hl;have hz:∀ n,n<=100->n<=sizeLine:=fun n hn=>sz (by omega)
  have hz1:acc.length<sizeLine:=ai (by omega) (sz (n:=100) (by decide))
  have hz2:acc.length+1<sizeLine:=ai (by omega) (sz (n:=100) (by decide))
  obtain⟨K,hK⟩:∃ K,K=cR (gD (gT 2 (bV (gN 0) (bV (gN 1) dF))) cV (fD (nT lE (aA 1))) (DL.stepI (gN 2) cV (cY (aC (aA 0) (aC (aA 2) aI))))) (ts.map fun t=>.dat (.tuple [.str t.1,.str (kd t.2)])):=⟨_,rfl⟩;simp only[aq,cR,gD];rw[<- hK];have ih:=fun acc' o0 o1 o2 q1 q2=>Hu (m:=m) (Q:=Q) ts acc' o0 o1 o2 q1 q2
  rw[<- hK]at ih;have g:=Wm t.2
  cases hk:t.2 with
  | false =>
   rw[hk]at g;simp;refine⟨_,g,?_⟩;simp;show cR _ [I 0] acc _ m _
   simp[cR,DL.stepI,sz,hz1];refine ih _ _ _ _ (by simp;omega) fun d=>?_
   simpa[bT,cG,hk] using h d
  | true =>
   rw[hk]at g;simp;refine⟨_,g,?_⟩;simp;show cR _ [I 0,I 1] acc _ m _
   simp[cR,DL.stepI,sz,hz1,hz2];refine ih _ _ _ _ (by simp;omega) fun d=>?_
   simpa[bT,cG,hk] using h d
theorem Jt(ts:List (Str×Bool)):mN ts=.list ((dY ts).map fun kv=>.tuple [hX kv.1,kv.2]):=by
 unfold dY;simp[hX,Function.comp_def]
theorem Q0:∀ ds m R,ds.length=Qa.length->pQ ds m R->uY (EN R) (bY Bk ds) m:=by
 rintro ds m R hl ⟨i,rfl,h⟩;simpa[uY,DL.isK] using h
theorem N4:∀ ds m R,ds.length=Fn.length->rB ds m R->wG (EN R) (bY Nb ds) m:=by
 rintro ds m R hl ⟨n,rfl,nk,h⟩;have g:(Int.gcd n.1 n.2:Int)=1:=by rw[nk.gcd];rfl
 simp[wG,DL.isK,PyData.eqv,PyData.canLay0,PyData.depth];simp[Ta];simp[Ey];refine⟨n.1,rfl,?_⟩;simp;refine⟨n.2,rfl,?_⟩;have:=nk.pos
 simp[Hi,this];refine⟨n.1,n.2,rfl,?_⟩;simpa[g,PyData.eqv,PyData.canLay0,PyData.depth] using h
theorem Y8:∀ c<26,Txt.contains "abcdefghijklmnopqrstuvwxyz" ⟨#[97+c]⟩=true:=by decide +kernel
theorem EI:∀ ds m R,ds.length=Kr.length->zJ ds m R->uT (EN R) (bY Bg ds) m:=by
 rintro ds m R hl ⟨z,rfl,hz,h⟩;obtain⟨h1,h2,h3⟩:=hz;have zs:z.length<=sizeLine:=sz (by omega)
 simp[uT,zs,DL.isK];refine .inr ⟨by omega,.inr ⟨by omega,?_⟩⟩
 simp[Ji,cI];rw[show List.map (D.dat∘fun c=>PyData.str {cps:=#[c]}) z.cps.toList=(fE z).map D.dat from by rw[fE,List.map_map]]
 refine sH rX (fE z) [] _ _ ?_ ?_ ?_
 ·intro x hx K hK;obtain⟨c,hc,rfl⟩:=List.mem_map.mp hx;simpa[rX] using hK
 ·rw[List.length_nil,fE,ar,Hj];omega
 ·rw[List.nil_append,CS];refine⟨_,rfl,?_⟩;have e:(z.cps.toList.map fun c=>Txt.contains "abcdefghijklmnopqrstuvwxyz" ⟨#[c]⟩).all id=true:=by
   rw[List.all_map,List.all_eq_true];intro c hc;obtain⟨q1,q2⟩:=h1 c hc;have:=Y8 (c-97) (by omega)
   rw[show 97+(c-97)=c by omega]at this
   exact this
  rw[e];exact h
theorem Tf{m:Mu}{Q:List PyData->Mu->Prop}:∀ (ts:List (Str×Bool)) (acc:List PyData) (d:bS),acc.length+ts.length<=100->d.length=2->Q (acc++ts.map fun t=>.str t.1) m ->
  cN (gT 2 (bV (gN 0) (bV (gN 1) dF))) cV (aA 0) (ts.map fun t=>.dat (.tuple [.str t.1,.str (kd t.2)])) acc d m Q
 | [],acc,d,_,_,h=>by simpa[cN] using h
 | t::ts,acc,[o1,o2],hl,_,h=>by
  simp only[List.length_cons]at hl;have ih:=Tf (m:=m) (Q:=Q) ts (acc++[.str t.1]) [some (.dat (.str t.1)),some (.dat (.str (kd t.2)))] (by simp;omega) rfl (by simpa using h)
  obtain⟨K,hK⟩:∃ K,K=cN (gT 2 (bV (gN 0) (bV (gN 1) dF))) cV (aA 0) (ts.map fun t=>D.dat (.tuple [.str t.1,.str (kd t.2)])):=⟨_,rfl⟩;simp only[aq,cN];rw[<- hK]at ih ⊢;have q:acc.length<sizeLine:=ai (show acc.length<1000 by omega) (sz (by decide))
  simpa[q] using ih
theorem M2:∀ ds m R,ds.length=Te.length->qS ds m R->yO (EN R) (bY Pg ds) m:=by
 rintro ds m R hl ⟨p,ts,rfl,hp,hn,h⟩;have q:=Tf (m:=m) (Q:=fun ps m2=>R (.dat (.list ps)) m2) ts [] [none,none] (by simp;omega) rfl (by simpa[sL,Function.comp_def] using h)
 rcases hp with rfl | rfl<;>(simp[yO,cI];simpa[Function.comp_def] using q)
theorem O2:∀ ds m R,ds.length=Bx.length->xJ ds m R->zN (EN R) (bY Ov ds) m:=by
 rintro ds m R hl ⟨p,ts,rfl,hp,hn,h⟩;have q:=Hu (m:=m) (Q:=fun ps _ m2=>R (.dat (.list ps)) m2) ts [] none none none (by simp;omega) fun d=>by simpa using h
 rcases hp with rfl | rfl<;>(simp[zN,cI];simpa[Function.comp_def] using q)
theorem zV{ts:List (Str×Bool)}(nd:(ts.map (·.1)).Nodup){a:Str}(h:a∈ts.map (·.1)):(a,cS ts a)∈ts:=by
 obtain⟨t,ht,rfl⟩:=List.mem_map.mp h;rw[pC nd ht];exact ht
theorem GJ:∀ ds m R,ds.length=Kt.length->sK ds m R->xG (EN R) (bY Sr ds) m:=by
 rintro ds m R hl ⟨p,ts,a,b,rfl,hp,nm,ha,hb,h⟩;have g1:=xA nm.nd (zV nm.nd ha)
 have g2:=xA nm.nd (zV nm.nd hb)
 have n6:ts.length<=6:=by simpa using nm.le
 have go:∀ c,m c=none->vC (EN R) [some (.dat p),some (.dat (.str a)),some (.dat (.str b)),some (.cel c)] (bW m c (.d (eC [] (dY ts)))):=fun c hc=>by
  simp[vC];refine⟨_,cO,_,g1,_,cO,_,g2,?_⟩;simp[sz];exact h _ (.new hc)
 unfold xG;rcases hp with rfl | rfl
 ·exact .inl ⟨_,rfl,dY ts,by rw[<- vV],sz (by simp[dY];omega),go⟩
 ·exact .inr ⟨_,rfl,dY ts,by rw[<- Jt],sz (by simp[dY];omega),go⟩
end K17
namespace K17
open PySem PySem.Spec PyProof.Rows L2 DL K01
theorem em(x:Str):Str.empty++x=x:=TX.ext (by simp[Str.cps_append,Str.empty])
theorem mS{i:Int}(h:i.natAbs<=999999):i.natAbs.log2<1920:=ai (log2_lt (k:=20) (by omega) (by decide)) (by decide)
theorem kY{i:Int}(h:i.natAbs<=999999):(sI i).length<=7:=(TX.int_reads h).2
theorem GH:∀ ds m R,ds.length=Kg.length->qI ds m R->wU (EN R) (bY Km ds) m:=by
 rintro ds m R hl ⟨n,rfl,nk,h⟩;have n1:n.1.natAbs<=999999:=by have:=nk.lo;have:=nk.hi;omega
 have n2:n.2.natAbs<=999999:=by have:=nk.pos;have:=nk.le;omega
 have l1:=kY n1
 have l2:=kY n2
 simp[wU,Dn];unfold dH at h
 by_cases c:1<n.2
 ·rw[if_pos c]at h;refine .inr ⟨c,mS n1,?_⟩;rw[em];have l1':(Str.ofString n.1.repr).length<=7:=l1
  have l2':(Str.ofString n.2.repr).length<=7:=l2
  have ls:(Str.ofString "/").length=1:=by decide +kernel
  refine⟨sz (by omega),sz (by rw[strLen_append,ls];omega),mS n2,sz (by rw[strLen_append,strLen_append,ls];omega),h⟩
 ·rw[if_neg c]at h;exact .inl ⟨by omega,mS n1,h⟩
def vT:PyData->PyData
 | .str z=>.bool (Txt.contains "0123456789" z)
 | _=>.none
theorem U5(c:Nat):Txt.contains "0123456789" ⟨#[c]⟩=decide (c∈(Str.ofString "0123456789").cps.toList):=StrLaws.found_one _ _
theorem A6:(Str.ofString "0123456789").cps.toList=[48,49,50,51,52,53,54,55,56,57]:=by decide +kernel
theorem a7(c:Nat):Txt.contains "0123456789" ⟨#[c]⟩=decide (48<=c/\c<=57):=by
 rw[U5,A6,Bool.eq_iff_iff,decide_eq_true_eq,decide_eq_true_eq];simp;omega
theorem DJ:∀ ds m R,ds.length=Kf.length->mC ds m R->zM (EN R) (bY Rl ds) m:=by
 rintro ds m R hl ⟨z,rfl,hz,h⟩;simp[zM];refine⟨sz (by omega),?_⟩
 by_cases c1:1<=z.length
 ·rw[decide_eq_true c1]at h;refine .inr ⟨by omega,?_⟩
  by_cases c2:z.length<=6
  ·rw[decide_eq_true c2]at h;refine .inr ⟨by omega,?_⟩
   rw[show List.map (D.dat∘fun c=>PyData.str {cps:=#[c]}) z.cps.toList=(fE z).map D.dat from by rw[fE,List.map_map]]
   refine sH vT (fE z) [] _ _ ?_ ?_ ?_
   ·intro x hx K hK;obtain⟨c,hc,rfl⟩:=List.mem_map.mp hx;simpa[vT] using hK
   ·rw[List.length_nil,fE,ar,Hj];omega
   ·refine⟨z.cps.toList.map fun c=>Txt.contains "0123456789" ⟨#[c]⟩,by simp[fE,vT,Function.comp_def],?_⟩
    have e:(z.cps.toList.map fun c=>Txt.contains "0123456789" ⟨#[c]⟩).all id=mW z:=by
     unfold mW;rw[List.all_map,Bool.eq_iff_iff,List.all_eq_true,List.all_eq_true];refine forall_congr' fun c=>forall_congr' fun hc=>?_;simp only[Function.comp_apply,id];rw[a7]
    rw[e];exact h
  ·rw[decide_eq_false c2]at h;exact .inl ⟨by omega,by simpa using h⟩
 ·rw[decide_eq_false c1]at h;exact .inl ⟨by omega,by simpa using h⟩
theorem xC{m:Mu}{R:DK}{k:Nat}(h:k<=999999)(q:R (.dat (.bool true)) m):mC [.dat (.str (sI (k:Int))),I 6] m R:=by
 have l1:=TX.len6 h
 have l2:=TX.len_pos k
 refine⟨sI (k:Int),rfl,Nat.le_trans l1 (by decide),?_⟩
 have e:mW (sI (k:Int))=true:=by
  unfold mW;rw[List.all_eq_true];exact fun c hc=>decide_eq_true ((TX.nat_digits k).1 c hc)
 rw[e,decide_eq_true (show 1<=(sI (k:Int)).length from l2),decide_eq_true (show(sI (k:Int)).length<=6 from l1)]
 exact q
theorem Mt:Str.ofString "/"=⟨#[47]⟩:=by decide +kernel
theorem HX{n:Int×Int}{m:Mu}{R:DK}(nk:NumOk n)(q:R (.dat (.bool true)) m):rB [.dat (fq n)] m R:=⟨n,rfl,nk,q⟩
theorem Om(i:Int):47∉(sI i).cps.toList:=int_text_free' 47 ⟨by decide,by decide⟩ i
theorem pF(x:Str)(h:∀ c∈x.cps.toList,c<1114112):PyData.strOk x=true:=by
 unfold PyData.strOk;rw[Array.all_eq_true'];intro c hc;exact decide_eq_true (h c (by simpa using hc))
theorem U8{m:Mu}{R:DK}{i:Int}(h0:0<=i)(h:i<=999999)(q:R (.dat (.bool true)) m):mC [.dat (.str (sI i)),I 6] m R:=by
 obtain⟨k,rfl⟩:∃ k:Nat,i=k:=⟨i.toNat,by omega⟩
 exact xC (by omega) q
theorem Bn{n:Int×Int}{m:Mu}{R:DK}(nk:NumOk n)(h:R (.dat (fq n)) m)(o1 o2 o3 o4:Option D):Rx (EN R) [some (.dat (.str (dH n))),o1,o2,o3,o4,some (.dat (fq n))] m:=by
 refine⟨_,rfl,rfl,HX nk ⟨_,rfl,?_⟩⟩;simp only[if_true];refine⟨_,rfl,rfl,n,rfl,nk,_,rfl,_,rfl,?_⟩;simp only[decide_true,if_true];exact⟨_,rfl,h⟩
theorem Zw:∀ ds m R,ds.length=Lm.length->uU ds m R->Iz (EN R) (bY Ru ds) m:=by
 rintro ds m R hl ⟨n,rfl,nk,h⟩;have n1:n.1.natAbs<=999999:=by have:=nk.lo;have:=nk.hi;omega
 have n2:n.2.natAbs<=999999:=by have:=nk.pos;have:=nk.le;omega
 obtain⟨r1,l1⟩:=TX.int_reads n1;obtain⟨r2,l2⟩:=TX.int_reads n2;have e2:((n.2.natAbs:Nat):Int)=n.2:=by have:=nk.pos;omega
 have hz:(dH n).length<=15:=by
  unfold dH;have ls:(Str.ofString "/").length=1:=by decide +kernel
  split
  ·rw[strLen_append,strLen_append,ls];show(TX.sI n.1).length+1+(TX.sI n.2).length<=15
   omega
  ·show(TX.sI n.1).length<=15
   omega
 refine⟨_,rfl,_,rfl,sz (by omega),_,rfl,by decide +kernel,?_⟩
 by_cases c:1<n.2
 ·have e:Txt.partition (dH n) (Str.ofString "/")=(sI n.1,Str.ofString "/",sI n.2):=by
   unfold dH;rw[if_pos c,Mt];exact TX.part_at (Om _)
  rw[e];refine⟨_,rfl,rfl,rfl,?_⟩;show mO (EN R) [some (.dat (.str (dH n))),some (I 6),some (.dat (.str (sI n.1))),some (.dat (.str "/")),some (.dat (.str (sI n.2))),none] m
  unfold mO;refine⟨_,rfl,_,rfl,sz (Nat.le_trans l1 (by decide)),_,rfl,_,rfl,rfl,?_⟩
  rw[show Txt.removeprefix (sI n.1) (Str.ofString "-")=sI (n.1.natAbs:Int) from TX.rem_minus]
  refine xC n1 ⟨_,rfl,?_⟩;simp only[Bool.not_true,Bool.false_eq_true,if_false];refine⟨_,rfl,_,rfl,?_⟩;simp only[show decide (Str.ofString "/"=Str.ofString "")=false by decide +kernel,Bool.not_true,Bool.not_false,Bool.false_eq_true,if_false,if_true]
  refine⟨_,rfl,_,rfl,rfl,U8 (by have:=nk.pos;omega) nk.le ⟨_,rfl,?_⟩⟩
  simp only[Bool.not_true,Bool.false_eq_true,if_false];show mV (EN R) _ _
  unfold mV;refine⟨_,rfl,Nat.le_trans l1 (by decide),_,r1,_,rfl,_,rfl,?_⟩
  simp only[show decide (Str.ofString "/"=Str.ofString "")=false by decide +kernel,Bool.not_true,Bool.not_false,Bool.false_eq_true,if_false,if_true]
  refine⟨_,rfl,Nat.le_trans l2 (by decide),_,r2,_,rfl,(sz (by decide):2<=sizeLine),?_⟩
  exact Bn nk h _ _ _ _
 ·have c1:n.2=1:=by have:=nk.pos;omega
  have e0:dH n=sI n.1:=by unfold dH;rw[if_neg c]
  have e:Txt.partition (dH n) (Str.ofString "/")=(sI n.1,Str.empty,Str.empty):=by
   rw[e0,Mt];exact TX.part_no (Om _)
  rw[e];refine⟨_,rfl,rfl,rfl,?_⟩;show mO (EN R) [some (.dat (.str (dH n))),some (I 6),some (.dat (.str (sI n.1))),some (.dat (.str Str.empty)),some (.dat (.str Str.empty)),none] m
  unfold mO;refine⟨_,rfl,_,rfl,sz (Nat.le_trans l1 (by decide)),_,rfl,_,rfl,rfl,?_⟩
  rw[show Txt.removeprefix (sI n.1) (Str.ofString "-")=sI (n.1.natAbs:Int) from TX.rem_minus]
  refine xC n1 ⟨_,rfl,?_⟩;simp only[Bool.not_true,Bool.false_eq_true,if_false];refine⟨_,rfl,_,rfl,?_⟩;simp only[show decide (Str.empty=Str.ofString "")=true by decide +kernel,Bool.not_true,Bool.not_false,Bool.false_eq_true,if_false,if_true]
  show mV (EN R) _ _
  unfold mV;refine⟨_,rfl,Nat.le_trans l1 (by decide),_,r1,_,rfl,_,rfl,?_⟩
  simp only[show decide (Str.empty=Str.ofString "")=true by decide +kernel,Bool.not_true,Bool.not_false,Bool.false_eq_true,if_false,if_true]
  refine⟨_,rfl,(sz (by decide):2<=sizeLine),?_⟩
  have q:=Bn nk h (some (I 6)) (some (.dat (.str (sI n.1)))) (some (.dat (.str Str.empty))) (some (.dat (.str Str.empty)))
  rw[show fq n=.tuple [.int n.1,.int 1] by rw[<- c1]]at q
  exact q
end K17
namespace K17
open PySem PySem.Spec PyProof.Rows L2 DL K01
theorem U0:∀ ds m R,ds.length=Ip.length->iW ds m R->tS (EN R) (bY Gq ds) m:=by
 rintro ds m R hl ⟨ws,i,k,z,rfl,hi,hn,h⟩;have lt:i<ws.length:=(List.getElem?_eq_some_iff.mp hi).1
 have e:bR (ws.map PyData.str) (i:Int)=some (.str z):=eE (by rw[List.getElem?_map,hi];rfl)
 simp[tS,sz (show(ws.map PyData.str).length<=1000 by simp;omega)]
 refine⟨by omega,?_⟩
 simp[Hx];exact⟨_,e,h⟩
theorem FR:∀ ds m R,ds.length=Ry.length->mL ds m R->vL (EN R) (bY Sb ds) m:=by
 rintro ds m R hl ⟨p,ts,ws,i,k,z,rfl,hp,nm,hi,hn,hz,h⟩;have n6:ts.length<=6:=by simpa using nm.le
 simp[vL];refine⟨ws,i,k,z,rfl,hi,hn,?_⟩;simp[Fw];refine⟨p,ts,rfl,hp,n6,ts.map (·.1),rfl,by rw[decide_eq_true hz];rfl,?_⟩
 simpa[Kh] using h
theorem Pr{ts:List (Str×Bool)}(nm:Nm (ts.map (·.1))){x:Str×Bool}(hx:x∈bT ts):dU (eC [] (dY ts)) (.inr x.1)=some (.str (kd (cS ts x.1))):=xA nm.nd (zV nm.nd (fO hx))
theorem Px:∀ {ts:List (Str×Bool)} {a:Str},(a,true)∈bT ts->(a,true)∈ts
 | t::ts,a,h=>by
  simp only[bT,List.mem_cons,List.mem_append]at h;rcases h with h | h | h
  ·cases h
  ·cases hb:t.2 with
   | true =>
    rw[hb]at h;simp at h;rw[h,<- hb];exact List.mem_cons_self
   | false=>rw[hb]at h;simp at h
  ·exact ap _ (Px h)
theorem i8:∀ ds m R,ds.length=Kw.length->mP ds m R->tQ (EN R) (bY Ra ds) m:=by
 rintro ds m R hl ⟨p,ts,x,rfl,hp,nm,hx,h⟩;have g:=Pr nm hx
 have n6:ts.length<=6:=by simpa using nm.le
 have gd:=nm.gd x.1 (fO hx)
 simp[tQ];have l8:=gd.2.2
 have le:(Str.ofString ".end").length=4:=by decide +kernel
 have lb:(Str.ofString ".begin").length=6:=by decide +kernel
 have go:∀ c,m c=none->(cS ts x.1=false/\R (.dat (.str x.1)) (bW m c (.d (eC [] (dY ts)))))\/cS ts x.1=true/\nB (EN R) [some (.dat p),some (.dat (cG x)),some (.dat (.str x.1)),some (.dat (.int (if x.2=true then 1 else 0)))] (bW m c (.d (eC [] (dY ts)))):=fun c hc=>by
  have hh:=h _ (Kn.new hc (x:=.d (eC [] (dY ts))))
  unfold dX at hh
  cases hk:cS ts x.1 with
  | false =>
   rw[hk,if_neg ak]at hh;exact .inl ⟨rfl,hh⟩
  | true =>
   rw[hk,if_pos rfl]at hh;refine .inr ⟨rfl,?_⟩
   cases h2:x.2 with
   | true =>
    rw[h2,if_pos rfl]at hh;simp[nB,PyData.eqv,PyData.canLay0,PyData.depth,em];exact⟨sz (by omega),sz (by rw[strLen_append,le];omega),hh⟩
   | false =>
    rw[h2,if_neg ak]at hh;simp[nB,PyData.eqv,PyData.canLay0,PyData.depth,em];exact⟨sz (by omega),sz (by rw[strLen_append,lb];omega),hh⟩
 have fin:∀ c,m c=none->∀ T E:Prop,(R (.dat (.str x.1)) (bW m c (.d (eC [] (dY ts))))->T)->(nB (EN R) [some (.dat p),some (.dat (cG x)),some (.dat (.str x.1)),some (.dat (.int (if x.2=true then 1 else 0)))] (bW m c (.d (eC [] (dY ts))))->E)->if decide (kd (cS ts x.1)="point")=true then T else E:=fun c hc T E h1 h2=>by
  rcases go c hc with⟨hk,q⟩ | ⟨hk,q⟩
  ·rw[hk,if_pos (by decide +kernel)];exact h1 q
  ·rw[hk,if_neg (by decide +kernel)];exact h2 q
 unfold Gw;rcases hp with rfl | rfl
 ·exact .inl ⟨_,rfl,dY ts,by rw[<- vV],sz (by simp[dY];omega),fun c hc=>⟨_,rfl,c,_,_,_,rfl,rfl,cO,g,_,rfl,fin c hc _ _ (fun q=>⟨_,rfl,q⟩) fun q=>q⟩⟩
 ·exact .inr ⟨_,rfl,dY ts,by rw[<- Jt],sz (by simp[dY];omega),fun c hc=>⟨_,rfl,c,_,_,_,rfl,rfl,cO,g,_,rfl,fin c hc _ _ (fun q=>⟨_,rfl,q⟩) fun q=>q⟩⟩
theorem t9:∀ ds m R,ds.length=Gp.length->qE ds m R->sV (EN R) (bY Mz ds) m:=by
 rintro ds m R hl ⟨ts,x,rfl,nm,hx,h⟩;have g:=Pr nm hx
 have n6:ts.length<=6:=by simpa using nm.le
 have gd:=nm.gd x.1 (fO hx)
 have l8:=gd.2.2
 have le:(Str.ofString ".end").length=4:=by decide +kernel
 have lb:(Str.ofString ".begin").length=6:=by decide +kernel
 unfold sV;refine⟨_,rfl,dY ts,by rw[<- vV],sz (by simp[dY];omega),fun c hc=>⟨_,rfl,_,rfl,c,_,_,_,rfl,rfl,cO,g,_,rfl,?_⟩⟩
 have hh:=h _ (Kn.new hc (x:=.d (eC [] (dY ts))))
 unfold dX at hh;show if decide (kd (cS ts x.1)="point")=true then _ else _
 cases hk:cS ts x.1 with
 | false =>
  rw[hk,if_neg ak]at hh;rw[if_pos (by decide +kernel)]
  exact⟨_,rfl,_,rfl,hh⟩
 | true =>
  rw[hk,if_pos rfl]at hh;rw[if_neg (by decide +kernel)]
  show qB _ _ _
  cases h2:x.2 with
  | true =>
   rw[h2,if_pos rfl]at hh;simp[qB,sz,h2,bR,dQ];exact⟨sz (by rw[le];omega),hh⟩
  | false =>
   rw[h2,if_neg ak]at hh;simp[qB,sz,h2,bR,dQ];exact⟨sz (by rw[lb];omega),hh⟩
end K17
namespace K17
open PySem PySem.Spec PyProof.Rows L2 DL K01
theorem xY:∀ {zs:List Str} {B:Nat},(∀ z∈zs,z.length<=B)->(zs.map (·.length)).sum<=zs.length*B
 | [],_,_=>by simp
 | z::zs,B,h=>by
  have:=xY fun y hy=>h y (ap _ hy)
  have q:=h z List.mem_cons_self
  simp only[aq,List.sum_cons,List.length_cons,Nat.add_mul,Nat.one_mul];omega
theorem Tb:∀ z∈kP,z.length<=8:=by decide +kernel
theorem lK{ts:List (Str×Bool)}(nm:Nm (ts.map (·.1))){x:Str×Bool}(hx:x∈bT ts):(dX ts x).length<=14:=by
 have gd:=nm.gd x.1 (fO hx)
 have l8:=gd.2.2
 have le:(Str.ofString ".end").length=4:=by decide +kernel
 have lb:(Str.ofString ".begin").length=6:=by decide +kernel
 unfold dX
 split
 ·rw[strLen_append]
  split
  ·rw[le];omega
  ·rw[lb];omega
 ·omega
theorem zR{n:Int×Int}(nk:NumOk n):(dH n).length<=15:=by
 have n1:n.1.natAbs<=999999:=by have:=nk.lo;have:=nk.hi;omega
 have n2:n.2.natAbs<=999999:=by have:=nk.pos;have:=nk.le;omega
 have l1:=kY n1
 have l2:=kY n2
 have ls:(Str.ofString "/").length=1:=by decide +kernel
 unfold dH
 split
 ·rw[strLen_append,strLen_append,ls];omega
 ·omega
theorem kS{ts:List (Str×Bool)}(nm:Nm (ts.map (·.1))){s:Say}(ok:dB ts s):(∀ z∈cU ts s,z.length<=15)/\(cU ts s).length<=16:=by
 cases s with
 | may a b ws =>
  obtain⟨ha,hb,_,_,sub⟩:=ok;refine⟨fun z hz=>?_,?_⟩
  ·simp only[cU,List.mem_cons]at hz;rcases hz with rfl | rfl | rfl | hz
   ·decide +kernel
   ·exact Nat.le_trans (nm.gd _ ha).2.2 (by decide)
   ·exact Nat.le_trans (nm.gd _ hb).2.2 (by decide)
   ·exact Nat.le_trans (Tb z (nX _ _ z (sub.subset hz))) (by decide)
  ·have:=sub.length_le
   have:=(lP (cS ts a) (cS ts b)).2
   simp[cU];omega
 | gap x y n st =>
  obtain⟨hx,hy,_,nk⟩:=ok;have e1:=lK nm hx
  have e2:=lK nm hy
  have e3:=zR nk
  refine⟨fun z hz=>?_,?_⟩
  ·simp only[cU,List.mem_cons]at hz;rcases hz with rfl | rfl | rfl | rfl | hz
   ·decide +kernel
   ·omega
   ·omega
   ·omega
   ·split at hz
    ·simp at hz;subst hz;decide +kernel
    ·simp at hz
  ·simp only[cU]
   split<;>simp
theorem Db{ts:List (Str×Bool)}(nm:Nm (ts.map (·.1))){s:Say}(ok:dB ts s):((cU ts s).map (·.length)).sum+(cU ts s).length<=1048576:=by
 obtain⟨h1,h2⟩:=kS nm ok;have:=xY h1
 omega
theorem rR:(Str.ofString " ").length<=16:=by decide +kernel
theorem Vp(g a b n:Str):Txt.join " " [g,a,b,n]=Str.empty++g++" "++a++" "++b++" "++n:=by
 unfold Txt.join;rw[StrLaws.glued_eq_join];exact TX.ext (by simp[Str.join,Str.cps_append,Str.empty])
theorem BN:(Str.ofString " strict")=Str.ofString " "++Str.ofString "strict":=by decide +kernel
theorem Uf(g a b n:Str):Txt.join " " [g,a,b,n,"strict"]=Str.empty++(Str.empty++g++" "++a++" "++b++" "++n)++" strict":=by
 unfold Txt.join;rw[StrLaws.glued_eq_join,BN];exact TX.ext (by simp[Str.join,Str.cps_append,Str.empty])
theorem gH:Str.empty.length=0:=rfl
theorem gW:(Str.ofString "gap").length=3:=by decide +kernel
theorem fM:(Str.ofString " ").length=1:=by decide +kernel
theorem B9:(Str.ofString " strict").length=7:=by decide +kernel
theorem FK:∀ ds m R,ds.length=Jf.length->oB ds m R->qL (EN R) (bY To ds) m:=by
 rintro ds m R hl ⟨ts,s,rfl,nm,ok,h⟩;have ws:=Db nm ok
 cases s with
 | may a b vs =>
  have hh:=h m .refl
  obtain⟨ha,hb,_,_,sub⟩:=ok;have l1:=sub.length_le
  have l2:=(lP (cS ts a) (cS ts b)).2
  simp[qL,cL];exact⟨sz (show 3+vs.length<=1000 by omega),"may" :: a::b::vs,rfl,rR,ws,hh⟩
 | gap x y n st =>
  obtain⟨hx,hy,_,nk⟩:=ok;have e1:=lK nm hx
  have e2:=lK nm hy
  have e3:=zR nk
  simp[qL,Mv,cL];refine .inl ⟨by decide +kernel,?_⟩
  unfold On;refine⟨_,rfl,.inr ⟨_,rfl,sz (by rw[gW];omega),_,rfl,sz (by simp only[strLen_append,gH,gW];omega),_,rfl,sz (by simp only[strLen_append,gH,gW,fM];omega),_,rfl,_,rfl,rfl,TH ts,ts,x,rfl,.inl rfl,nm,hx,fun m1 k1=>.inr ⟨_,rfl,sz (by omega),_,rfl,sz (by simp only[strLen_append,gH,gW,fM];omega),_,rfl,sz (by simp only[strLen_append,gH,gW,fM];omega),_,rfl,_,rfl,rfl,TH ts,ts,y,rfl,.inl rfl,nm,hy,fun m2 k2=>.inr ⟨_,rfl,sz (by omega),_,rfl,sz (by simp only[strLen_append,gH,gW,fM];omega),_,rfl,sz (by simp only[strLen_append,gH,gW,fM];omega),_,rfl,rfl,n,rfl,nk,.inr ⟨_,rfl,sz (by omega),_,rfl,sz (by simp only[strLen_append,gH,gW,fM];omega),?_⟩⟩⟩⟩⟩
  have hh:=h m2 (k1.trans k2)
  unfold eJ at hh;simp only[cU]at hh
  cases st with
  | true =>
   simp only[if_true]at hh;rw[Uf]at hh;refine⟨_,rfl,_,rfl,?_⟩;simp only[if_true];refine⟨_,rfl,.inr ⟨_,rfl,sz (by simp only[strLen_append,gH,gW,fM];omega),_,rfl,sz (by simp only[strLen_append,gH,gW,fM];omega),_,rfl,sz (by simp only[strLen_append,gH,gW,fM,B9];omega),hh⟩⟩
  | false =>
   simp only[Bool.false_eq_true,if_false]at hh;rw[Vp]at hh;refine⟨_,rfl,_,rfl,?_⟩;simp only[Bool.false_eq_true,if_false];exact⟨_,rfl,hh⟩
end K17
namespace K17
open PySem PySem.Spec PyProof.Rows L2 DL K01
theorem BG:∀ ds m R,ds.length=Tc.length->zX ds m R->oQ (EN R) (bY Dt ds) m:=by
 rintro ds m R hl ⟨ts,s,rfl,nm,ok,h⟩;have ws:=Db nm ok
 cases s with
 | may a b vs =>
  have hh:=h m .refl
  obtain⟨ha,hb,_,_,sub⟩:=ok;have l1:=sub.length_le
  have l2:=(lP (cS ts a) (cS ts b)).2
  simp[oQ,cL,sz,bR,dQ];exact⟨sz (by omega),"may" :: a::b::vs,rfl,rR,ws,hh⟩
 | gap x y n st =>
  obtain⟨hx,hy,_,nk⟩:=ok;have e1:=lK nm hx
  have e2:=lK nm hy
  have e3:=zR nk
  have n1:n.1.natAbs<=999999:=by have:=nk.lo;have:=nk.hi;omega
  have n2:n.2.natAbs<=999999:=by have:=nk.pos;have:=nk.le;omega
  have l1:=kY n1
  have l2:=kY n2
  have ls:(Str.ofString "/").length=1:=by decide +kernel
  have fin:vA (EN R) [some (.dat (TH ts)),some (.dat (cL (.gap x y n st))),some (.dat (.str (dH n))),none] m:=by
   unfold vA;refine⟨_,rfl,_,rfl,_,rfl,rfl,ts,x,rfl,nm,hx,fun m1 k1=>⟨_,rfl,_,rfl,_,rfl,rfl,ts,y,rfl,nm,hy,fun m2 k2=>⟨_,rfl,_,rfl,(sz (by decide):4<=sizeLine),?_⟩⟩⟩
   have hh:=h m2 (k1.trans k2)
   unfold eJ at hh;simp only[cU]at hh ws;unfold Da
   cases st with
   | true =>
    simp[cL,sz,bR,dQ];exact⟨sz (show 4+1<=1000 by decide),["gap",dX ts x,dX ts y,dH n,"strict"],rfl,rR,by simpa using ws,by simpa using hh⟩
   | false =>
    simp[cL,sz,bR,dQ];exact⟨sz (show 4+0<=1000 by decide),["gap",dX ts x,dX ts y,dH n],rfl,rR,by simpa using ws,by simpa using hh⟩
  simp[oQ,cL];refine .inl ⟨by decide +kernel,?_⟩
  simp[Qz,bR,dQ];refine⟨mS n1,?_⟩;simp[Ko,bR,dQ];have l1':(Str.ofString n.1.repr).length<=7:=l1
  have l2':(Str.ofString n.2.repr).length<=7:=l2
  by_cases c:1<n.2
  ·refine .inr ⟨c,sz (by rw[ls];omega),mS n2,sz (by rw[strLen_append,ls];omega),?_⟩
   have q:=fin
   unfold dH at q;rw[if_pos c]at q;exact q
  ·refine .inl ⟨by omega,?_⟩
   have q:=fin
   unfold dH at q;rw[if_neg c]at q;exact q
theorem Lr(a b:Str):Txt.join " " [a,b]=a++" "++b:=by
 unfold Txt.join;rw[StrLaws.glued_eq_join];exact TX.ext (by simp[Str.join,Str.cps_append])
theorem sA(k:Bool):(kd k).length<=7:=by cases k<;>decide +kernel
theorem tV{m:Mu}{f:DE}{Q:List PyData->Mu->Prop}(hf:∀ (t:Str×Bool) K,eO t.1->K (.dat (.str (fU t))) m->f [some (.dat (.str t.1)),some (.dat (.str (kd t.2)))] m K):∀ (ts:List (Str×Bool)) (acc:List PyData) (d:bS),(∀ t∈ts,eO t.1)->acc.length+ts.length<=100->d.length=2->Q (acc++ts.map fun t=>.str (fU t)) m ->
  cN (gT 2 (bV (gN 0) (bV (gN 1) dF))) cV f (ts.map fun t=>.dat (.tuple [.str t.1,.str (kd t.2)])) acc d m Q
 | [],acc,d,_,_,_,h=>by simpa[cN] using h
 | t::ts,acc,[o1,o2],hg,hl,_,h=>by
  simp only[List.length_cons]at hl;have ih:=tV (Q:=Q) hf ts (acc++[.str (fU t)]) [some (.dat (.str t.1)),some (.dat (.str (kd t.2)))] (fun u hu=>hg u (ap _ hu)) (by simp;omega) rfl (by simpa using h)
  obtain⟨K,hK⟩:∃ K,K=cN (gT 2 (bV (gN 0) (bV (gN 1) dF))) cV f (ts.map fun t=>D.dat (.tuple [.str t.1,.str (kd t.2)])):=⟨_,rfl⟩;simp only[aq,cN];rw[<- hK]at ih ⊢;have q:acc.length<sizeLine:=ai (show acc.length<1000 by omega) (sz (by decide))
  exact⟨_,rfl,rfl,rfl,hf t _ (hg t List.mem_cons_self) ⟨_,rfl,q,ih⟩⟩
theorem yN{ts:List (Str×Bool)}{f:DE}{o:Option D}{m0:Mu}{Q:List PyData->Mu->Prop}(hf:∀ s m K,dB ts s->Kn m0 m->(∀ m',Kn m0 m'->K (.dat (.str (eJ ts s))) m')->f [some (.dat (cL s)),o] m K):∀ (ss:List Say) (acc:List PyData) (o1:Option D) (m:Mu),(∀ s∈ss,dB ts s)->acc.length+ss.length<=100->Kn m0 m->(∀ m',Kn m0 m'->Q (acc++ss.map fun s=>.str (eJ ts s)) m') ->
  cN (gN 0) cV f (ss.map fun s=>.dat (cL s)) acc [o1,o] m Q
 | [],acc,o1,m,_,_,k,h=>by simpa[cN] using h m k
 | s::ss,acc,o1,m,ok,hl,k,h=>by
  simp only[List.length_cons]at hl;have ih:=fun m' k'=>yN (Q:=Q) hf ss (acc++[.str (eJ ts s)]) (some (.dat (cL s))) m' (fun u hu=>ok u (ap _ hu)) (by simp;omega) k' (by simpa using h)
  obtain⟨K,hK⟩:∃ K,K=cN (gN 0) cV f (ss.map fun s=>D.dat (cL s)):=⟨_,rfl⟩;simp only[aq,cN];rw[<- hK]at ih ⊢;have q:acc.length<sizeLine:=ai (show acc.length<1000 by omega) (sz (by decide))
  exact hf s m _ (ok s List.mem_cons_self) k fun m' k'=>⟨_,rfl,q,ih m' k'⟩
theorem rP(ts:List (Str×Bool))(ss:List Say):(dL ts ss).map PyData.str=(ts.map fun t=>PyData.str (fU t))++ss.map fun s=>PyData.str (eJ ts s):=by
 simp[dL,Function.comp_def]
theorem V7:∀ ds m R,ds.length=Fu.length->tU ds m R->wJ (EN R) (bY Hh ds) m:=by
 rintro ds m R hl ⟨ts,ss,rfl,nm,hs,ok,h⟩;have n6:ts.length<=6:=by simpa using nm.le
 have gd:∀ t∈ts,eO t.1:=fun t ht=>nm.gd _ (List.mem_map.mpr ⟨t,ht,rfl⟩)
 unfold wJ;simp[cI,bR,dQ];refine tV (fun t K g hk=>?_) ts [] [none,none] gd (by simp;omega) rfl ?_
 ·have k7:=sA t.2
  have g8:=g.2.2
  unfold fU at hk;rw[Lr]at hk;exact⟨_,rfl,sz (by rw[fM];omega),_,rfl,sz (by rw[strLen_append,fM];omega),hk⟩
 ·refine yN (ts:=ts) (m0:=m) (fun s m1 K os k1 hk=>?_) ss [] none m ok (by simp;omega) .refl fun m' k'=>?_
  ·exact⟨_,rfl,_,rfl,_,rfl,rfl,ts,s,rfl,nm,os,fun m2 k2=>hk m2 (k1.trans k2)⟩
  ·rw[List.nil_append,List.nil_append,<- rP];exact⟨sz (by simp;omega),h m' k'⟩
theorem Z3:∀ ds m R,ds.length=Gn.length->qZ ds m R->Ah (EN R) (bY Dl ds) m:=by
 rintro ds m R hl ⟨ts,ss,rfl,nm,hs,ok,h⟩;have n6:ts.length<=6:=by simpa using nm.le
 have gd:∀ t∈ts,eO t.1:=fun t ht=>nm.gd _ (List.mem_map.mpr ⟨t,ht,rfl⟩)
 simp[Ah];unfold Hq;refine⟨_,rfl,.inr ⟨_,rfl,?_⟩⟩;rw[List.map_map];refine tV (fun t K g hk=>?_) ts [] [none,none] gd (by simp;omega) rfl ?_
 ·have k7:=sA t.2
  have g8:=g.2.2
  unfold fU at hk;rw[Lr]at hk;refine⟨_,rfl,.inr ⟨_,rfl,sz (by omega),_,rfl,sz (by simp only[strLen_append,gH];omega),_,rfl,sz (by simp only[strLen_append,gH,fM];omega),_,rfl,.inr ⟨_,rfl,sz (by omega),_,rfl,sz (by simp only[strLen_append,gH,fM];omega),?_⟩⟩⟩
  rw[em];exact hk
 ·refine⟨_,rfl,.inr ⟨_,rfl,?_⟩⟩;rw[List.map_map];refine yN (ts:=ts) (m0:=m) (fun s m1 K os k1 hk=>?_) ss [] none m ok (by simp;omega) .refl fun m' k'=>?_
  ·exact⟨_,rfl,_,rfl,rfl,ts,s,rfl,nm,os,fun m2 k2=>hk m2 (k1.trans k2)⟩
  ·rw[List.nil_append,List.nil_append];refine⟨sz (by simp;omega),fun c hc=>?_⟩
   rw[<- rP];refine h c _ ?_ ?_ cO
   ·cases q:m c with
    | none=>rfl
    | some x =>
     have e:=k' c (by rw[q];rfl)
     rw[hc,q]at e
     cases e
   ·exact k'.trans (.new hc)
end K17
namespace K17
open PySem PySem.Spec PyProof.Rows L2 DL K01
theorem zF{z:Str}(g:eO z):46∉z.cps.toList:=fun h=>by have:=g.1 46 h;omega
theorem J5{a b s t:Str}(ha:eO a)(hb:eO b)(h:a++s=b++t)(hs:∃ r,s.cps.toList=46::r)(ht:∃ r,t.cps.toList=46::r):a=b/\s=t:=by
 obtain⟨r,er⟩:=hs;obtain⟨u,eu⟩:=ht;have e:=congrArg (fun z:Str=>z.cps.toList) h
 simp only[Str.cps_append,Array.toList_append,er,eu]at e;obtain⟨e1,e2⟩:=TX.first_cut (zF ha) (zF hb) e;exact⟨TX.ext e1,TX.ext (by rw[er,eu,e2])⟩
theorem Qq{a b s:Str}(hb:eO b)(h:a++s=b)(hs:∃ r,s.cps.toList=46::r):False:=by
 obtain⟨r,er⟩:=hs;refine zF hb ?_;rw[<- h,Str.cps_append,Array.toList_append,er];simp
theorem Y5:∃ r,(Str.ofString ".end").cps.toList=46::r:=⟨[101,110,100],by decide +kernel⟩
theorem CY:∃ r,(Str.ofString ".begin").cps.toList=46::r:=⟨[98,101,103,105,110],by decide +kernel⟩
def kT(b:Bool):Str:=if b then ".end" else ".begin"
theorem pX(b:Bool):∃ r,(kT b).cps.toList=46::r:=by
 cases b
 ·exact CY
 ·exact Y5
theorem A9{b c:Bool}(h:kT b=kT c):b=c:=by
 cases b<;>cases c<;>first | rfl | exact absurd h (by decide +kernel)
theorem DU{ts:List (Str×Bool)}(nm:Nm (ts.map (·.1))){x y:Str×Bool}(hx:x∈bT ts)(hy:y∈bT ts)(h:dX ts x=dX ts y):x=y:=by
 have gx:=nm.gd _ (fO hx)
 have gy:=nm.gd _ (fO hy)
 have pt:∀ {z:Str×Bool},z∈bT ts->cS ts z.1=false->z.2=false:=fun {z} hz hk=>by
  cases e:z.2 with
  | false=>rfl
  | true =>
   have:(z.1,true)∈ts:=Px (by rw[<- e];exact hz)
   rw[pC nm.nd this]at hk
   cases hk
 unfold dX at h
 cases kx:cS ts x.1<;>cases ky:cS ts y.1<;>simp only[kx,ky,if_true,if_false,Bool.false_eq_true]at h
 ·exact Prod.ext h (by rw[pt hx kx,pt hy ky])
 ·exact(Qq gx (s:=kT y.2) h.symm (pX _)).elim
 ·exact(Qq gy (s:=kT x.2) h (pX _)).elim
 ·obtain⟨e1,e2⟩:=J5 gx gy (s:=kT x.2) (t:=kT y.2) h (pX _) (pX _);exact Prod.ext e1 (A9 e2)
theorem Gs{p:PyData}{ts:List (Str×Bool)}(hp:gY p ts)(nm:Nm (ts.map (·.1))){x:Str×Bool}(hx:x∈bT ts){m0:Mu}{E:Ends2}(h:∀ m',Kn m0 m'->E.rt (.dat (cG x)) m'):∀ (todo:List (Str×Bool)) (o:Option D) (m:Mu),(∀ y∈todo,y∈bT ts)->x∈todo->Kn m0 m ->
  dW (gN 2) uW E (todo.map fun y=>.dat (cG y)) [some (.dat p),some (.dat (.str (dX ts x))),o] m
 | y::todo,o,m,hy,hm,k=>by
  have ih:=Gs hp nm hx h todo (some (.dat (cG y)))
  obtain⟨K,hK⟩:∃ K,K=dW (gN 2) uW E (todo.map fun y=>D.dat (cG y)):=⟨_,rfl⟩;simp only[aq,dW];rw[<- hK]at ih ⊢;refine⟨_,rfl,_,rfl,rfl,p,ts,y,rfl,hp,nm,hy y List.mem_cons_self,fun m1 k1=>⟨_,rfl,_,rfl,?_⟩⟩;show if decide (dX ts y=dX ts x)=true then _ else _
  by_cases c:y=x
  ·subst c;rw[if_pos (by simp)]
   exact⟨_,rfl,h m1 (k.trans k1)⟩
  ·rw[if_neg (by simpa using fun e=>c (DU nm (hy y List.mem_cons_self) hx e))]
   refine ih m1 (fun z hz=>hy z (ap _ hz)) ?_ (k.trans k1);rcases List.mem_cons.mp hm with e | e
   ·exact absurd e.symm c
   ·exact e
theorem M7:∀ ds m R,ds.length=Lg.length->pL ds m R->xN (EN R) (bY Cl ds) m:=by
 rintro ds m R hl ⟨p,ts,x,rfl,hp,nm,hx,h⟩;have n6:ts.length<=6:=by simpa using nm.le
 unfold xN;refine⟨_,rfl,rfl,p,ts,rfl,hp,n6,.inl ⟨_,rfl,?_⟩⟩;rw[List.map_map];exact Gs hp nm hx h (bT ts) none m (fun y hy=>hy) hx .refl
end K17
namespace K17
open PySem PySem.Spec PyProof.Rows L2 DL K01
theorem nR{ws:List Str}(i:Nat){z:Str}{k:Int}{m:Mu}{R:DK}(hi:ws[i]?=some z)(hn:ws.length<=100)(h:R (.dat (.str z)) m):iW [.dat (sL ws),I i,I k] m R:=⟨ws,i,k,z,rfl,hi,hn,h⟩
theorem v7(x y:Str×Bool):(cG x).eqv (cG y)=decide (x=y):=by
 rw[Bool.eq_iff_iff,decide_eq_true_eq];obtain⟨a,b⟩:=x;obtain⟨c,d⟩:=y
 cases b<;>cases d<;>simp[cG,PyData.eqv,PyData.eqvAll]
theorem Lv{ts:List (Str×Bool)}(nm:Nm (ts.map (·.1))){x:Str×Bool}(hx:x∈bT ts):(cG x).canLay0=true:=by
 have g:=nm.gd _ (fO hx)
 have o:PyData.strOk x.1=true:=pF _ fun c hc=>by have:=g.1 c hc;omega
 simp[cG,PyData.canLay0,PyData.canLayAll0,o]
theorem EL:∀ ds m R,ds.length=Kj.length->Af ds m R->An (EN R) (bY Bv ds) m:=by
 rintro ds m R hl ⟨p,ts,x,y,n,s,k,rfl,hp,nm,ok,h⟩;have wl:=(kS nm ok).2
 obtain⟨hx,hy,ne,nk⟩:=ok;obtain⟨W,eW⟩:∃ W,W=cU ts (.gap x y n s):=⟨_,rfl⟩;have w1:W[1]?=some (dX ts x):=by rw[eW];rfl
 have w2:W[2]?=some (dX ts y):=by rw[eW];rfl
 have w3:W[3]?=some (dH n):=by rw[eW];rfl
 rw[<- eW]at wl ⊢;unfold An;refine⟨_,rfl,_,rfl,_,rfl,rfl,nR 1 w1 (by omega) ⟨rfl,p,ts,x,rfl,hp,nm,hx,fun m1 k1=>?_⟩⟩
 show xO (EN R) _ _
 unfold xO;refine⟨_,rfl,_,rfl,?_⟩;show if false=true then _ else _
 rw[if_neg ak];show Ay (EN R) _ _
 unfold Ay;refine⟨_,rfl,_,rfl,_,rfl,rfl,nR 2 w2 (by omega) ⟨rfl,p,ts,y,rfl,hp,nm,hy,fun m2 k2=>?_⟩⟩
 show xS (EN R) _ _
 unfold xS;refine⟨_,rfl,_,rfl,?_⟩;show if false=true then _ else _
 rw[if_neg ak];refine⟨_,rfl,_,rfl,Lv nm hy,Lv nm hx,by simp[cG,PyData.depth,PyData.depthAll],_,rfl,?_⟩
 rw[v7,decide_eq_false (Ne.symm ne)];show if false=true then _ else _
 rw[if_neg ak];show vS (EN R) _ _
 unfold vS;refine⟨_,rfl,_,rfl,rfl,nR 3 w3 (by omega) ⟨rfl,n,rfl,nk,?_⟩⟩
 show yV (EN R) _ _
 unfold yV;refine⟨_,rfl,_,rfl,?_⟩;show if false=true then _ else _
 rw[if_neg ak];show rE (EN R) [some (.dat p),some (.dat (sL W)),some (I k),some (.dat (cG x)),some (.dat (cG y)),some (.dat (fq n)),none] m2
 have hh:=h m2 (k1.trans k2)
 have fin:sM (EN R) [some (.dat p),some (.dat (sL W)),some (I k),some (.dat (cG x)),some (.dat (cG y)),some (.dat (fq n)),some (.dat (.bool s))] m2:=by
  unfold sM;exact⟨_,rfl,_,rfl,_,rfl,_,rfl,_,rfl,(sz (by decide):5<=sizeLine),hh⟩
 have zl:(W.map PyData.str).length<=sizeLine:=sz (by simp;omega)
 cases s with
 | true =>
  have l5:W.length=5:=by rw[eW];rfl
  have w4:bR (W.map PyData.str) 4=some (.str "strict"):=by rw[eW];rfl
  simp[rE,zl,l5];simp[sP,w4];simp[yY,zl,l5];exact fin
 | false =>
  have l4:W.length=4:=by rw[eW];rfl
  simp[rE,zl,l4];simp[sP];simp[yY,zl,l4];exact fin
end K17
namespace K17
open PySem PySem.Spec PyProof.Rows L2 DL K01
theorem Gv{z:Str}{r:List Str}:∀ {L:List Str},(z::r).Sublist L->r.Sublist (L.drop (L.idxOf z+1))
 | [],h=>by cases h
 | a::L,h=>by
  by_cases c:a=z
  ·subst c;rw[List.idxOf_cons_self,List.drop_succ_cons,List.drop_zero]
   cases h with
   | cons _ h=>exact(List.sublist_cons_self _ _).trans h
   | cons_cons _ h=>exact h
  ·have e:(a::L).idxOf z=L.idxOf z+1:=by
    have q:(a==z)=false:=by simpa using c
    rw[List.idxOf_cons,q];rfl
   rw[e,List.drop_succ_cons]
   cases h with
   | cons _ h=>exact Gv h
   | cons_cons _ h=>exact absurd rfl c
theorem Qx{W:List Str}{p:PyData}{k:Int}{a b:Str}{E:Ends2}{m:Mu}(hn:W.length<=100)(h:∀ d5 o,E.nx [some (.dat p),some (.dat (sL W)),some (I k),some (.dat (.str a)),some (.dat (.str b)),d5,o] m):∀ (todo:List Str) (i:Nat) (L:List Str) (o:Option D),W.drop i=todo->todo.Sublist L ->
  dW (gN 6) mQ E (dJ (i:Int) todo.length) [some (.dat p),some (.dat (sL W)),some (I k),some (.dat (.str a)),some (.dat (.str b)),some (.dat (.tuple (L.map .str))),o] m
 | [],i,L,o,_,_=>by simpa[dW,dJ] using h _ _
 | z::todo,i,L,o,e,hs=>by
  have hz:W[i]?=some z:=by rw[<- List.head?_drop,e];rfl
  have e':W.drop (i+1)=todo:=by rw[<- List.tail_drop,e];rfl
  have ih:=Qx hn h todo (i+1) (L.drop (L.idxOf z+1)) (some (I i)) e' (Gv hs)
  have mz:z∈L:=hs.subset List.mem_cons_self
  have at_:bR (W.map PyData.str) (i:Int)=some (.str z):=eE (by rw[List.getElem?_map,hz];rfl)
  obtain⟨K,hK⟩:∃ K,K=dW (gN 6) mQ E (dJ ((i+1:Nat):Int) todo.length):=⟨_,rfl⟩;rw[List.length_cons,Ew];simp only[dW];rw[<- hK]at ih ⊢;show mQ _ [some (.dat p),some (.dat (sL W)),some (I k),some (.dat (.str a)),some (.dat (.str b)),some (.dat (.tuple (L.map .str))),some (I i)] m
  unfold mQ;refine⟨_,rfl,_,rfl,_,at_,_,rfl,L,rfl,_,rfl,?_⟩;rw[decide_eq_true mz];show if false=true then _ else _
  rw[if_neg ak];show xE _ _ _
  unfold xE;refine⟨_,rfl,_,rfl,L,.inl rfl,_,rfl,_,rfl,_,at_,z,rfl,mz,?_⟩;refine⟨_,rfl,.inl ⟨_,rfl,?_⟩⟩;have lt:L.idxOf z<L.length:=List.idxOf_lt_length_of_mem mz
  have cf:=Lu (xs:=L.map PyData.str) (n:=L.idxOf z+1) (by simp;omega)
  rw[<- List.map_drop]at cf;show K [some (.dat p),some (.dat (sL W)),some (I k),some (.dat (.str a)),some (.dat (.str b)),some (.dat (.tuple (iA (L.map .str) (some ((L.idxOf z:Int)+1)) none))),some (I i)] m
  rw[show((L.idxOf z:Int)+1)=((L.idxOf z+1:Nat):Int) by omega,cf]
  exact ih
theorem Pd{p:PyData}{ts:List (Str×Bool)}{ws:List Str}(i:Nat){k:Int}{z:Str}{m:Mu}{R:DK}(hp:gY p ts)(nm:Nm (ts.map (·.1)))(hi:ws[i]?=some z)(hn:ws.length<=100)(hz:z∈ts.map (·.1))(h:R (.dat (.str z)) m):mL [.dat p,.dat (sL ws),I i,I k] m R:=⟨p,ts,ws,i,k,z,rfl,hp,nm,hi,hn,hz,h⟩
theorem X3:∀ ds m R,ds.length=Mb.length->xT ds m R->Al (EN R) (bY Iq ds) m:=by
 rintro ds m R hl ⟨p,ts,a,b,vs,k,rfl,hp,nm,ok,h⟩;have wl:=(kS nm ok).2
 obtain⟨ha,hb,ne,vne,sub⟩:=ok;obtain⟨W,eW⟩:∃ W,W=cU ts (.may a b vs):=⟨_,rfl⟩;have w1:W[1]?=some a:=by rw[eW];rfl
 have w2:W[2]?=some b:=by rw[eW];rfl
 have wd:W.drop 3=vs:=by rw[eW];rfl
 have wl3:W.length=vs.length+3:=by rw[eW];simp[cU]
 rw[<- eW]at wl ⊢;obtain⟨v,vs',rfl⟩:∃ v vs',vs=v::vs':=by
  cases vs with
  | nil=>exact absurd rfl vne
  | cons v vs'=>exact⟨v,vs',rfl⟩
 have w3:W[3]?=some v:=by rw[eW];rfl
 have zl:(W.map PyData.str).length<=sizeLine:=sz (by simp;omega)
 unfold Al;refine⟨_,rfl,_,rfl,_,rfl,rfl,Pd 1 hp nm w1 (by omega) ha ?_⟩
 show Ao (EN R) _ _
 unfold Ao;refine⟨_,rfl,_,rfl,_,rfl,rfl,Pd 2 hp nm w2 (by omega) hb ?_⟩
 show zZ (EN R) _ _
 unfold zZ;refine⟨_,rfl,_,rfl,_,rfl,?_⟩;rw[decide_eq_false (Ne.symm ne)];show if false=true then _ else _
 rw[if_neg ak];show tK (EN R) _ _
 unfold tK;refine⟨_,rfl,_,rfl,_,rfl,rfl,p,ts,a,b,rfl,hp,nm,ha,hb,fun m1 k1=>⟨rfl,cS ts a,cS ts b,rfl,?_⟩⟩;show zL (EN R) _ _
 unfold zL;refine⟨_,rfl,_,rfl,rfl,nR 3 w3 (by omega) ?_⟩
 show tW (EN R) [some (.dat p),some (.dat (sL W)),some (I k),some (.dat (.str a)),some (.dat (.str b)),some (.dat (.tuple ((WS (cS ts a) (cS ts b)).map .str))),none] m1
 unfold tW;refine⟨_,rfl,3,_,rfl,rfl,⟨by decide,by decide,by simp<;>omega,by simp<;>omega⟩,?_⟩
 have e:(((W.map PyData.str).length:Nat)-3:Int).toNat=(v::vs').length:=by rw[ar,wl3];simp
 rw[e];refine Qx (by omega) (fun d5 o=>?_) (v::vs') 3 _ none wd sub
 show xI (EN R) _ _
 have hh:=h m1 k1
 have cf:=Lu (xs:=W.map PyData.str) (n:=3) (by simp;omega)
 rw[<- List.map_drop,wd]at cf;unfold xI;refine⟨_,rfl,_,rfl,_,rfl,_,rfl,.inr (.inl ⟨_,rfl,?_⟩)⟩;rw[show iA (W.map PyData.str) (some 3) none=(v::vs').map PyData.str from cf]
 exact⟨_,rfl,(sz (by decide):4<=sizeLine),hh⟩
theorem BV:∀ ds m R,ds.length=Jq.length->oW ds m R->rZ (EN R) (bY Pb ds) m:=by
 rintro ds m R hl ⟨p,ts,s,k,rfl,hp,nm,ok,h⟩
 cases s with
 | may a b vs =>
  have w0:bR ((cU ts (.may a b vs)).map PyData.str) 0=some (.str "may"):=(show bR _ ((0:Nat):Int)=_ from eE rfl)
  unfold rZ;refine⟨_,rfl,_,w0,_,rfl,?_⟩;dsimp only;rw[if_pos (by decide +kernel)]
  exact⟨_,rfl,_,rfl,_,rfl,rfl,p,ts,a,b,vs,k,rfl,hp,nm,ok,h⟩
 | gap x y n st =>
  have w0:bR ((cU ts (.gap x y n st)).map PyData.str) 0=some (.str "gap"):=(show bR _ ((0:Nat):Int)=_ from eE rfl)
  unfold rZ;refine⟨_,rfl,_,w0,_,rfl,?_⟩;dsimp only;rw[if_neg (by decide +kernel)]
  show zW (EN R) _ _
  unfold zW;refine⟨_,rfl,_,w0,_,rfl,?_⟩;dsimp only;rw[if_pos (by decide +kernel)]
  exact⟨_,rfl,_,rfl,_,rfl,rfl,p,ts,x,y,n,st,k,rfl,hp,nm,ok,h⟩
end K17
namespace K17
open PySem PySem.Spec PyProof.Rows L2 DL K01
theorem CF:∀ z∈kP,32∉z.cps.toList:=by decide +kernel
theorem rW{z:Str}(g:eO z):32∉z.cps.toList:=fun h=>by have:=g.1 32 h;omega
theorem zK{a b:Str}(ha:32∉a.cps.toList)(hb:32∉b.cps.toList):32∉(a++b).cps.toList:=by
 rw[Str.cps_append,Array.toList_append,List.mem_append];exact fun h=>h.elim ha hb
theorem CH(n:Int×Int):32∉(dH n).cps.toList:=by
 have d:∀ i:Int,32∉(sI i).cps.toList:=fun i=>int_text_free' 32 ⟨by decide,by decide⟩ i
 unfold dH
 split
 ·exact zK (zK (d _) (by decide +kernel)) (d _)
 ·exact d _
theorem Nu{ts:List (Str×Bool)}(nm:Nm (ts.map (·.1))){x:Str×Bool}(hx:x∈bT ts):32∉(dX ts x).cps.toList:=by
 have g:=rW (nm.gd _ (fO hx))
 unfold dX
 split
 ·refine zK g ?_
  split<;>decide +kernel
 ·exact g
theorem t4{ts:List (Str×Bool)}(nm:Nm (ts.map (·.1))){s:Say}(ok:dB ts s):∀ z∈cU ts s,32∉z.cps.toList:=by
 intro z hz
 cases s with
 | may a b ws =>
  obtain⟨ha,hb,_,_,sub⟩:=ok;simp only[cU,List.mem_cons]at hz;rcases hz with rfl | rfl | rfl | hz
  ·decide +kernel
  ·exact rW (nm.gd _ ha)
  ·exact rW (nm.gd _ hb)
  ·exact CF z (nX _ _ z (sub.subset hz))
 | gap x y n st =>
  obtain⟨hx,hy,_,nk⟩:=ok;simp only[cU,List.mem_cons]at hz;rcases hz with rfl | rfl | rfl | rfl | hz
  ·decide +kernel
  ·exact Nu nm hx
  ·exact Nu nm hy
  ·exact CH n
  ·split at hz
   ·simp at hz;subst hz;decide +kernel
   ·simp at hz
theorem c7(ts:List (Str×Bool))(s:Say):cU ts s≠[]:=by cases s<;>simp[cU]
theorem Du{ts:List (Str×Bool)}(nm:Nm (ts.map (·.1))){s:Say}(ok:dB ts s):Txt.split (eJ ts s) " "=cU ts s:=TX.split_join (c7 ts s) (t4 nm ok)
theorem oG{ws:List Str}(h:(∀ z∈ws,z.length<=15)/\ws.length<=16):(Txt.join " " ws).length<=1000:=by
 unfold Txt.join;rw[StrLaws.glued_eq_join];have q:=StrLaws.join_length_le (Str.ofString " ") ws
 have s:=xY h.1
 rw[fM]at q;have:=h.2
 omega
theorem A4:∀ ds m R,ds.length=So.length->yH ds m R->tG (EN R) (bY Fd ds) m:=by
 rintro ds m R hl ⟨ts,s,rfl,nm,ok,h⟩;have l:=oG (kS nm ok)
 have e:=Du nm ok
 unfold tG;refine⟨_,rfl,_,rfl,_,rfl,Nat.le_trans l (by decide),_,rfl,by decide +kernel,sz (by rw[e];exact Nat.le_trans (kS nm ok).2 (by decide)),?_⟩
 rw[e];exact⟨rfl,TH ts,ts,s,0,rfl,.inl rfl,nm,ok,h⟩
theorem w8(k:Bool):32∉(kd k).cps.toList:=by cases k<;>decide +kernel
theorem Vi{t:Str×Bool}(g:eO t.1):Txt.split (fU t) " "=[kd t.2,t.1]:=TX.split_join (by simp) fun w hw=>by
 simp at hw;rcases hw with rfl | rfl
 ·exact w8 _
 ·exact rW g
theorem Ll{t:Str×Bool}(g:eO t.1):(fU t).length<=1000:=oG ⟨fun z hz=>by
 simp at hz;rcases hz with rfl | rfl
 ·exact Nat.le_trans (sA _) (by decide)
 ·exact Nat.le_trans g.2.2 (by decide),by simp⟩
theorem FJ:∀ ds m R,ds.length=Bc.length->wL ds m R->wV (EN R) (bY Ny ds) m:=by
 rintro ds m R hl ⟨ts,t,k,rfl,nm,h⟩;have g:eO t.1:=nm.gd _ (by simp)
 have n6:ts.length<=6:=by have:=nm.le;simp at this;omega
 unfold wV;refine⟨_,rfl,_,rfl,rfl,nR 1 rfl (by simp) ?_⟩
 show Aa (EN R) _ _
 unfold Aa;refine⟨_,rfl,rfl,t.1,rfl,g,_,rfl,?_⟩;dsimp only;rw[Bool.not_true,if_neg ak];refine⟨_,rfl,rfl,mN ts,ts,rfl,.inr rfl,n6,.inl ⟨_,rfl,?_⟩⟩;have lt:∀ z∈ts.map (·.1),z.cps.toList<t.1.cps.toList:=fun z hz=>by
  have up:=nm.up
  rw[List.map_append,List.pairwise_append]at up;exact up.2.2 z hz t.1 (by simp)
 refine sH (fun _=>.bool false) ((ts.map (·.1)).map .str) [] _ _ ?_ ?_ ?_
 ·intro x hx K hK;obtain⟨z,hz,rfl⟩:=List.mem_map.mp hx;refine⟨_,rfl,_,rfl,?_⟩;have e:=lt z hz
  simp[e];exact hK
 ·simp;omega
 ·refine⟨ts.map fun _=>false,by simp[Function.comp_def],_,rfl,?_⟩
  rw[show(ts.map fun _=>false).any id=false by simp]
  dsimp only;rw[if_neg ak];show uX (EN R) _ _
  unfold uX;refine⟨_,rfl,_,rfl,?_⟩;dsimp only;rw[if_neg (by simp)]
  show yA (EN R) _ _
  unfold yA;exact⟨_,rfl,_,rfl,_,rfl,_,rfl,(sz (by decide):2<=sizeLine),h⟩
end K17
namespace K17
open PySem PySem.Spec PyProof.Rows L2 DL K01
abbrev eI(t:Str×Bool):PyData:=.tuple [.str t.1,.str (kd t.2)]
theorem M3(k:Bool):kd k∈[Str.ofString "point",Str.ofString "stretch"]:=by cases k<;>decide +kernel
theorem i5(t:Str×Bool):fF (eI t)=true:=by simp[fF,nlPs]
theorem Mm:∀ zs:List Str,nlPs (zs.map .str)=true
 | []=>by simp[nlPs]
 | z::zs=>by simp[nlPs,fF,Mm zs]
theorem Mj(s:Say):fF (cL s)=true:=by
 cases s with
 | may a b ws=>simp[cL,fF,nlPs,Mm]
 | gap x y n st=>simp[cL,fF,nlPs]
theorem g7{rows:Option D}{c e:Addr}{dn:List (Str×Bool)}{t:Str×Bool}{i:Nat}{o5:Option D}{E:Ends2}{m:Mu}(nm:Nm ((dn++[t]).map (·.1)))(ce:c≠e)(hc:m c=some (.l (dn.map eI)))(he:m e=some (.l []))
  (h:E.nx [rows,some (.cel c),some (.cel e),some (I i),some (.dat (.str (fU t))),some (.dat (sL [kd t.2,t.1]))] (bW m c (.l ((dn++[t]).map eI)))) :
  iS E [rows,some (.cel c),some (.cel e),some (I i),some (.dat (.str (fU t))),o5] m:=by
 have g:eO t.1:=nm.gd _ (by simp)
 have n6:dn.length<6:=by have:=nm.le;simp at this;omega
 have sp:=Vi g
 unfold iS;refine⟨_,rfl,_,rfl,Nat.le_trans (Ll g) (by decide),_,rfl,by decide +kernel,sz (by rw[sp];simp),?_⟩
 rw[sp];show nQ E [rows,some (.cel c),some (.cel e),some (I i),some (.dat (.str (fU t))),some (.dat (sL [kd t.2,t.1]))] m
 unfold nQ;refine⟨_,rfl,_,(show bR _ ((0:Nat):Int)=_ from eE rfl),_,rfl,(sz (by decide):2<=sizeLine),["point","stretch"],rfl,_,rfl,?_⟩
 rw[decide_eq_true (M3 t.2)];dsimp only;rw[if_pos rfl];simp[Ke,hc,he];refine⟨by decide,by decide,by decide,by simp[PyData.canLay0],by decide,by simp[PyData.depth],by simp[PyData.eqv];omega,?_⟩
 rw[List.map_append]at h;exact⟨_,rfl,c,rfl,⟨_,hc⟩,c,_,rfl,hc,_,rfl,_,rfl,_,rfl,rfl,dn,t,i,rfl,nm,eI t,rfl,i5 t,_,_,rfl,hc,ai (show _<1000 by simp;omega) (sz (by decide)),h⟩
theorem Ai:∀ {ts:List (Str×Bool)},(∀ t∈ts,eO t.1)->PyData.canLayAll0 (ts.map eI)=true/\PyData.depthAll (ts.map eI)<=5
 | [],_=>by simp[PyData.canLayAll0,PyData.depthAll]
 | t::ts,h=>by
  obtain⟨h1,h2⟩:=Ai fun u hu=>h u (ap _ hu);have g:=h t List.mem_cons_self
  have o:PyData.strOk t.1=true:=pF _ fun c hc=>by have:=g.1 c hc;omega
  have o2:PyData.strOk (kd t.2)=true:=by cases t.2<;>decide +kernel
  refine⟨by simp[eI,PyData.canLayAll0,PyData.canLay0,o,o2,h1],?_⟩
  simp only[aq,PyData.depthAll,eI,PyData.depth];omega
theorem t7{rows:Option D}{c e:Addr}{ts:List (Str×Bool)}{dn:List Say}{s:Say}{i:Nat}{o5:Option D}{E:Ends2}{m:Mu}(nm:Nm (ts.map (·.1)))(n1:1<=ts.length)(ok:dB ts s)(hd:dn.length<24)(hc:m c=some (.l (ts.map eI)))(he:m e=some (.l (dn.map cL)))
  (h:∀ o,E.nx [rows,some (.cel c),some (.cel e),some (I i),some (.dat (.str (eJ ts s))),o] (bW m e (.l ((dn++[s]).map cL)))) :
  iS E [rows,some (.cel c),some (.cel e),some (I i),some (.dat (.str (eJ ts s))),o5] m:=by
 have sp:=Du nm ok
 have wl:=kS nm ok
 unfold iS;refine⟨_,rfl,_,rfl,Nat.le_trans (oG wl) (by decide),_,rfl,by decide +kernel,sz (by rw[sp];exact Nat.le_trans wl.2 (by decide)),?_⟩
 rw[sp];show nQ E [rows,some (.cel c),some (.cel e),some (I i),some (.dat (.str (eJ ts s))),some (.dat (sL (cU ts s)))] m
 unfold nQ;obtain⟨w,w0,wn⟩:∃ w,(cU ts s)[0]?=some w/\w∉[Str.ofString "point",Str.ofString "stretch"]:=by
  cases s with
  | may a b ws=>exact⟨_,rfl,by decide +kernel⟩
  | gap x y n st=>exact⟨_,rfl,by decide +kernel⟩
 have a0:bR ((cU ts s).map PyData.str) 0=some (.str w):=(show bR _ ((0:Nat):Int)=_ from eE (by rw[List.getElem?_map,w0];rfl))
 refine⟨_,rfl,_,a0,_,rfl,(sz (by decide):2<=sizeLine),["point","stretch"],rfl,_,rfl,?_⟩
 rw[decide_eq_false wn];dsimp only;rw[if_neg ak];obtain⟨q1,q2⟩:=Ai (ts:=ts) fun t ht=>nm.gd _ (List.mem_map.mpr ⟨t,ht,rfl⟩);have lay:(PyData.list (ts.map eI)).canLay0=true:=by simpa only[PyData.canLay0] using q1
 have dep:(PyData.list (ts.map eI)).depth<=100:=by simp only[PyData.depth];omega
 have ne:(PyData.list (ts.map eI)).eqv (.list [])=false:=by
  cases ts with
  | nil=>simp at n1
  | cons t ts=>simp[PyData.eqv,PyData.eqvAll]
 simp[Bz,hc,he];refine⟨lay,by decide,dep,ne,by simp[PyData.canLay0],by decide,by simp[PyData.depth],by simp[PyData.eqv];omega,?_⟩
 rw[List.map_append]at h;exact⟨_,rfl,e,rfl,⟨_,he⟩,c,_,rfl,hc,_,rfl,_,rfl,_,rfl,rfl,mN ts,ts,s,i,rfl,.inr rfl,nm,ok,fun m' _=>⟨cL s,rfl,Mj s,_,_,rfl,he,ai (show _<1000 by simp;omega) (sz (by decide)),h _⟩⟩
theorem Gy{rows:Option D}{c e:Addr}{ts:List (Str×Bool)}{E:Ends2}{m0:Mu}(nm:Nm (ts.map (·.1)))(n1:1<=ts.length)(ce:c≠e)(all:List Say)(h24:all.length<=24)(oka:∀ s∈all,dB ts s)
  (h:∀ m' o3 o4 o5,(∀ a,a≠c->a≠e->m' a=m0 a)->m' c=some (.l (ts.map eI))->m' e=some (.l (all.map cL))->E.nx [rows,some (.cel c),some (.cel e),o3,o4,o5] m'):∀ (todo dn:List Say) (i:Nat) (o3 o4 o5:Option D) (m:Mu),all=dn++todo->(∀ a,a≠c->a≠e->m a=m0 a)->m c=some (.l (ts.map eI))->m e=some (.l (dn.map cL)) ->
  dW (gT 2 (bV (gN 3) (bV (gN 4) dF))) iS E (((todo.map fun s=>PyData.str (eJ ts s)).zipIdx i).map fun z=>.dat (.tuple [.int z.2,z.1])) [rows,some (.cel c),some (.cel e),o3,o4,o5] m
 | [],dn,i,o3,o4,o5,m,ea,h0,hc,he=>by
  rw[List.append_nil]at ea;subst ea;exact h m o3 o4 o5 h0 hc he
 | s::todo,dn,i,o3,o4,o5,m,ea,h0,hc,he=>by
  have ih:=Gy nm n1 ce all h24 oka h todo (dn++[s]) (i+1)
  simp only[aq,List.zipIdx_cons,dW];obtain⟨K,hK⟩:∃ K,K=dW (gT 2 (bV (gN 3) (bV (gN 4) dF))) iS E (((todo.map fun s=>PyData.str (eJ ts s)).zipIdx (i+1)).map fun z=>.dat (.tuple [.int z.2,z.1])):=⟨_,rfl⟩;rw[<- hK]at ih ⊢;refine⟨_,rfl,rfl,rfl,?_⟩;have ln:dn.length<24:=by
   have:=congrArg List.length ea
   simp at this;omega
  refine t7 (i:=i) (o5:=o5) nm n1 (oka s (by rw[ea];simp)) ln hc he fun o=>?_
  exact ih _ _ _ _ (by rw[ea];simp) (fun a a1 a2=>by rw[cZ a2];exact h0 a a1 a2) (by rw[cZ ce];exact hc) cO
theorem My{rows:Option D}{c e:Addr}{E:Ends2}{m0:Mu}(ce:c≠e)(all:List (Str×Bool))(nm:Nm (all.map (·.1)))(n1:1<=all.length)(ss:List Say)(h24:ss.length<=24)(oka:∀ s∈ss,dB all s)
  (h:∀ m' o3 o4 o5,(∀ a,a≠c->a≠e->m' a=m0 a)->m' c=some (.l (all.map eI))->m' e=some (.l (ss.map cL))->E.nx [rows,some (.cel c),some (.cel e),o3,o4,o5] m'):∀ (todo dn:List (Str×Bool)) (i:Nat) (o3 o4 o5:Option D) (m:Mu),all=dn++todo->(∀ a,a≠c->a≠e->m a=m0 a)->m c=some (.l (dn.map eI))->m e=some (.l []) ->
  dW (gT 2 (bV (gN 3) (bV (gN 4) dF))) iS E (((todo.map fun t=>PyData.str (fU t))++ss.map fun s=>PyData.str (eJ all s)).zipIdx i |>.map fun z=>.dat (.tuple [.int z.2,z.1])) [rows,some (.cel c),some (.cel e),o3,o4,o5] m
 | [],dn,i,o3,o4,o5,m,ea,h0,hc,he=>by
  rw[List.append_nil]at ea;subst ea;exact Gy nm n1 ce ss h24 oka h ss [] i o3 o4 o5 m rfl h0 hc he
 | t::todo,dn,i,o3,o4,o5,m,ea,h0,hc,he=>by
  have ih:=My ce all nm n1 ss h24 oka h todo (dn++[t]) (i+1)
  simp only[aq,List.cons_append,List.zipIdx_cons,dW];obtain⟨K,hK⟩:∃ K,K=dW (gT 2 (bV (gN 3) (bV (gN 4) dF))) iS E (((todo.map fun t=>PyData.str (fU t))++ss.map fun s=>PyData.str (eJ all s)).zipIdx (i+1) |>.map fun z=>.dat (.tuple [.int z.2,z.1])):=⟨_,rfl⟩;rw[<- hK]at ih ⊢;refine⟨_,rfl,rfl,rfl,?_⟩;have np:Nm ((dn++[t]).map (·.1)):=by
   have sub:List.Sublist ((dn++[t]).map (·.1)) (all.map (·.1)):=by
    rw[ea];exact List.Sublist.map _ (by simp)
   exact⟨nm.nd.sublist sub,Nat.le_trans sub.length_le nm.le,fun z hz=>nm.gd z (sub.subset hz),nm.up.sublist sub⟩
  refine g7 (i:=i) (o5:=o5) np ce hc he ?_;exact ih _ _ _ _ (by rw[ea];simp) (fun a a1 a2=>by rw[cZ a1];exact h0 a a1 a2) cO (by rw[cZ (Ne.symm ce)];exact he)
end K17
namespace K17
open PySem PySem.Spec PyProof.Rows L2 DL K01
def Sh(n d:Nat)(p:PyData):Prop:=p.showable=true/\p.shown.length<=n/\p.depth<=d
theorem Sh.mono{n d n' d':Nat}{p:PyData}(h:Sh n d p)(h1:n<=n')(h2:d<=d'):Sh n' d' p:=⟨h.1,Nat.le_trans h.2.1 h1,Nat.le_trans h.2.2 h2⟩
theorem sJ{n d:Nat}:∀ {ps:List PyData},(∀ p∈ps,Sh n d p)->PyData.showableAll ps=true/\((PyData.shownAll ps).map (·.length)).sum<=n*ps.length/\(PyData.shownAll ps).length=ps.length/\PyData.depthAll ps<=d
 | [],_=>by simp[PyData.showableAll,PyData.shownAll,PyData.depthAll]
 | p::ps,h=>by
  obtain⟨q1,q2,q3,q4⟩:=sJ (ps:=ps) fun y hy=>h y (ap _ hy);obtain⟨p1,p2,p3⟩:=h p List.mem_cons_self;refine⟨?_,?_,?_,?_⟩
  ·simp only[PyData.showableAll,p1,q1,Bool.and_self]
  ·simp only[PyData.shownAll,aq,List.sum_cons,List.length_cons,Nat.mul_succ];omega
  ·simp only[PyData.shownAll,List.length_cons,q3]
  ·simp only[PyData.depthAll];omega
theorem iY{n d N:Nat}{ps:List PyData}(h:∀ p∈ps,Sh n d p)(hN:n*ps.length+2*ps.length+3<=N):Sh N (d+1) (.tuple ps):=by
 obtain⟨q1,q2,q3,q4⟩:=sJ h;refine⟨by simpa only[PyData.showable] using q1,?_,by simp only[PyData.depth];omega⟩
 simp only[PyData.shown];refine Nat.le_trans (PySem.tupleText_len_le _) ?_;rw[q3];omega
theorem Yw{i:Int}(h:Bd 200 i):Sh 1921 1 (.int i):=by
 refine⟨?_,?_,by simp[PyData.depth]⟩
 ·simp only[PyData.showable,decide_eq_true_eq];exact ai (h.log (by decide)) (by decide)
 ·simp only[PyData.shown];exact PyProof.Rows.int_text_len_1921 (ai (h.log (by decide)) (by decide))
theorem j4(b:Bool):Sh 20 1 (.bool b):=by
 refine⟨by simp[PyData.showable],?_,by simp[PyData.depth]⟩
 cases b<;>decide +kernel
theorem vU{i:Int}(h:Bd 62 i):Sh 70 1 (.int i):=by
 refine⟨(Yw (h.mono (by decide))).1,?_,by simp[PyData.depth]⟩
 simp only[PyData.shown];rw[PySem.ofString_length];exact Nat.le_trans (PySem.int_text_length_le (k:=62) (by decide) (h.log (by decide))) (by decide)
theorem F2{n d N:Nat}{ps:List PyData}(h:∀ p∈ps,Sh n d p)(hN:n*ps.length+2*ps.length+3<=N):Sh N (d+1) (.list ps):=by
 obtain⟨q1,q2,q3,q4⟩:=sJ h;refine⟨by simpa only[PyData.showable] using q1,?_,by simp only[PyData.depth];omega⟩
 simp only[PyData.shown];refine Nat.le_trans (PySem.listText_len_le _) ?_;rw[q3];omega
def fR(z:Str):Prop:=∀ c∈z.cps.toList,c<1114112
theorem kM{z:Str}{n:Nat}(h:fR z)(hl:z.length<=n):Sh (10*n+2) 1 (.str z):=by
 refine⟨by simp[PyData.showable],?_,by simp[PyData.depth]⟩
 simp only[PyData.shown];exact Nat.le_trans (StrLaws.reprText_len z fun c hc=>ai (h c hc) (by decide)) (by omega)
theorem EV:∀ c∈(Str.ofString "may").cps.toList,c<1114112:=by decide +kernel
theorem j3:∀ c∈(Str.ofString "gap").cps.toList,c<1114112:=by decide +kernel
theorem lJ{z:Str}(g:eO z):fR z:=fun c hc=>by have:=g.1 c hc;omega
theorem wO{a b:Str}(ha:fR a)(hb:fR b):fR (a++b):=fun c hc=>by
 rw[Str.cps_append,Array.toList_append,List.mem_append]at hc;exact hc.elim (ha c) (hb c)
theorem Rn:∀ z∈kP,∀ c∈z.cps.toList,c<1114112:=by decide +kernel
theorem wF(k:Bool):fR (kd k):=by
 have:∀ c∈(kd k).cps.toList,c<1114112:=by cases k<;>decide +kernel
 exact this
theorem J1(n:Int×Int):fR (dH n):=fun c hc=>by
 have d:∀ i:Int,∀ c∈(sI i).cps.toList,c<1114112:=fun i c hc=>Nat.lt_of_not_le fun q=>int_text_free' c ⟨by omega,.inr (by omega)⟩ i hc
 have s:fR (Str.ofString "/"):=by
  have:∀ c∈(Str.ofString "/").cps.toList,c<1114112:=by decide +kernel
  exact this
 unfold dH at hc
 split at hc
 ·exact wO (wO (d _) s) (d _) c hc
 ·exact d _ c hc
theorem Cb{ts:List (Str×Bool)}(nm:Nm (ts.map (·.1))){x:Str×Bool}(hx:x∈bT ts):fR (dX ts x):=by
 have g:=lJ (nm.gd _ (fO hx))
 have s1:∀ c∈(Str.ofString ".end").cps.toList,c<1114112:=by decide +kernel
 have s2:∀ c∈(Str.ofString ".begin").cps.toList,c<1114112:=by decide +kernel
 unfold dX
 split
 ·refine wO g ?_
  split
  ·exact s1
  ·exact s2
 ·exact g
theorem Sq{ts:List (Str×Bool)}(nm:Nm (ts.map (·.1))){s:Say}(ok:dB ts s):∀ z∈cU ts s,fR z:=by
 intro z hz;have c1:∀ c∈(Str.ofString "may").cps.toList,c<1114112:=by decide +kernel
 have c2:∀ c∈(Str.ofString "gap").cps.toList,c<1114112:=by decide +kernel
 have c3:∀ c∈(Str.ofString "strict").cps.toList,c<1114112:=by decide +kernel
 cases s with
 | may a b ws =>
  obtain⟨ha,hb,_,_,sub⟩:=ok;simp only[cU,List.mem_cons]at hz;rcases hz with rfl | rfl | rfl | hz
  ·exact c1
  ·exact lJ (nm.gd _ ha)
  ·exact lJ (nm.gd _ hb)
  ·exact Rn z (nX _ _ z (sub.subset hz))
 | gap x y n st =>
  obtain⟨hx,hy,_,nk⟩:=ok;simp only[cU,List.mem_cons]at hz;rcases hz with rfl | rfl | rfl | rfl | hz
  ·exact c2
  ·exact Cb nm hx
  ·exact Cb nm hy
  ·exact J1 n
  ·split at hz
   ·simp at hz;subst hz;exact c3
   ·simp at hz
theorem Bm:∀ {ws:List Str},(∀ w∈ws,fR w)->fR (Str.join ⟨#[32]⟩ ws)
 | [],_=>fun c hc=>by simp[Str.join,Str.empty]at hc
 | [w],h=>by simpa only[Str.join] using h w List.mem_cons_self
 | w::v::ws,h=>fun c hc=>by
  rw[TX.join_cons,List.mem_append,List.mem_cons]at hc;rcases hc with hc | rfl | hc
  ·exact h w List.mem_cons_self c hc
  ·decide
  ·exact Bm (fun u hu=>h u (ap _ hu)) c hc
theorem oT{ws:List Str}(h:∀ w∈ws,fR w):fR (Txt.join " " ws):=by
 unfold Txt.join;rw[StrLaws.glued_eq_join,TX.sp_is];exact Bm h
theorem oZ{ts:List (Str×Bool)}(nm:Nm (ts.map (·.1))){a:Str}(h:a∈ts.map (·.1)):Sh 200 1 (.str a):=(kM (n:=8) (lJ (nm.gd _ h)) (nm.gd _ h).2.2).mono (by decide) (by decide)
theorem Gj{ts:List (Str×Bool)}(nm:Nm (ts.map (·.1))){x:Str×Bool}(hx:x∈bT ts):Sh 500 2 (cG x):=by
 refine iY (n:=200) (d:=1) (fun p hp=>?_) (by simp)
 simp at hp;rcases hp with rfl | rfl
 ·exact oZ nm (fO hx)
 ·exact(vU (Bd.mono (m:=2) (by cases x.2<;>(unfold Bd;decide)) (by decide))).mono (by decide) (by decide)
theorem EY{n:Int×Int}(nk:NumOk n):Sh 500 2 (fq n):=by
 have b:∀ i:Int,i.natAbs<=999999->Bd 62 i:=fun i h=>by
  refine Bd.mono (m:=20) ?_ (by decide)
  unfold Bd;have e:(2:Nat)^20=1048576:=by decide
  omega
 refine iY (n:=200) (d:=1) (fun p hp=>?_) (by simp)
 simp at hp;have:=nk.pos
 have:=nk.le
 have:=nk.lo
 have:=nk.hi
 rcases hp with rfl | rfl
 ·exact(vU (b _ (by omega))).mono (by decide) (by decide)
 ·exact(vU (b _ (by omega))).mono (by decide) (by decide)
theorem Qc{ts:List (Str×Bool)}(nm:Nm (ts.map (·.1))){s:Say}(ok:dB ts s):Sh 16000 4 (cL s):=by
 cases s with
 | may a b ws =>
  obtain⟨ha,hb,_,_,sub⟩:=ok;have l1:=sub.length_le
  have l2:=(lP (cS ts a) (cS ts b)).2
  have s1:Sh 2700 3 (.tuple (ws.map .str)):=(iY (n:=200) (d:=1) (fun p hp=>by
   obtain⟨z,hz,rfl⟩:=List.mem_map.mp hp;have q:=nX _ _ z (sub.subset hz)
   exact(kM (n:=8) (Rn z q) (Tb z q)).mono (by decide) (by decide)) (by simp;omega)).mono (aj _) (by decide)
  refine iY (n:=2700) (d:=3) (fun p hp=>?_) (by simp)
  simp at hp;rcases hp with rfl | rfl | rfl | rfl
  ·exact(kM (n:=8) EV (by decide +kernel)).mono (by decide) (by decide)
  ·exact(oZ nm ha).mono (by decide) (by decide)
  ·exact(oZ nm hb).mono (by decide) (by decide)
  ·exact s1
 | gap x y n st =>
  obtain⟨hx,hy,_,nk⟩:=ok;refine iY (n:=2700) (d:=3) (fun p hp=>?_) (by simp)
  simp only[List.mem_cons,List.not_mem_nil,or_false]at hp;rcases hp with rfl | rfl | rfl | rfl | rfl
  ·exact(kM (n:=8) j3 (by decide +kernel)).mono (by decide) (by decide)
  ·exact(Gj nm hx).mono (by decide) (by decide)
  ·exact(Gj nm hy).mono (by decide) (by decide)
  ·exact(EY nk).mono (by decide) (by decide)
  ·exact(j4 st).mono (by decide) (by decide)
theorem O1{ts:List (Str×Bool)}{ss:List Say}(nm:Nm (ts.map (·.1)))(h24:ss.length<=24)(ok:∀ s∈ss,dB ts s):Sh 1000000 6 (TK ts ss):=by
 have n6:ts.length<=6:=by simpa using nm.le
 refine iY (n:=400000) (d:=5) (fun p hp=>?_) (by simp)
 simp only[List.mem_cons,List.not_mem_nil,or_false]at hp;rcases hp with rfl | rfl
 ·refine(iY (n:=500) (d:=2) (N:=4000) (fun p hp=>?_) (by simp;omega)).mono (by decide) (by decide)
  obtain⟨t,ht,rfl⟩:=List.mem_map.mp hp;refine iY (n:=200) (d:=1) (fun p hp=>?_) (by simp)
  simp at hp;rcases hp with rfl | rfl
  ·exact oZ nm (List.mem_map.mpr ⟨t,ht,rfl⟩)
  ·exact(kM (n:=8) (wF _) (Nat.le_trans (sA _) (by decide))).mono (by decide) (by decide)
 ·refine iY (n:=16000) (d:=4) (fun p hp=>?_) (by simp;omega)
  obtain⟨s,hs,rfl⟩:=List.mem_map.mp hp;exact Qc nm (ok s hs)
theorem Np{ts:List (Str×Bool)}(nm:Nm (ts.map (·.1))){s:Say}(ok:dB ts s):Sh 10002 1 (.str (eJ ts s)):=kM (n:=1000) (oT (Sq nm ok)) (oG (kS nm ok))
theorem CV{ts:List (Str×Bool)}{ss:List Say}(nm:Nm (ts.map (·.1)))(h24:ss.length<=24)(ok:∀ s∈ss,dB ts s):Sh 400000 2 (sL (dL ts ss)):=by
 have n6:ts.length<=6:=by simpa using nm.le
 refine F2 (n:=10002) (d:=1) (fun p hp=>?_) (by simp[dL];omega)
 obtain⟨z,hz,rfl⟩:=List.mem_map.mp hp;rcases List.mem_append.mp hz with hz | hz
 ·obtain⟨t,ht,rfl⟩:=List.mem_map.mp hz;have g:=nm.gd _ (List.mem_map.mpr ⟨t,ht,rfl⟩)
  refine kM (n:=1000) (oT fun w hw=>?_) (Ll g);simp at hw;rcases hw with rfl | rfl
  ·exact wF _
  ·exact lJ g
 ·obtain⟨s,hs,rfl⟩:=List.mem_map.mp hz;exact Np nm (ok s hs)
theorem big:1000000<=sizeLine:=by decide
end K17
namespace K17
open PySem PySem.Spec PyProof.Rows L2 DL K01
theorem Z1:∀ ds m R,ds.length=Cf.length->pG ds m R->Aq (EN R) (bY Gc ds) m:=by
 rintro ds m R hl ⟨ts,ss,rfl,nm,n1,h24,ok,h⟩;have n6:ts.length<=6:=by simpa using nm.le
 simp[Aq,sz];intro c hc;simp[Th,sz];intro e he;have ce:c≠e:=fun q=>by rw[q,cO]at he;cases he
 have he0:m e=none:=by rw[cZ (Ne.symm ce)]at he;exact he
 simp[Dr];show dW _ _ _ (jL ((dL ts ss).map PyData.str)) _ _
 unfold jL;rw[rP];refine My (m0:=m) ce ts nm n1 ss h24 ok (fun m' o3 o4 o5 h0 h1 h2=>?_) ts [] 0 none none none _ rfl (fun a a1 a2=>by rw[cZ a2,cZ a1]) (by rw[cZ ce,cO];rfl) cO
 have kn:Kn m m':=fun a ha=>h0 a (fun q=>by rw[q,hc]at ha;cases ha) (fun q=>by rw[q,he0]at ha;cases ha)
 obtain⟨q1,q2⟩:=Ai (ts:=ts) fun t ht=>nm.gd _ (List.mem_map.mpr ⟨t,ht,rfl⟩);have lay:(PyData.list (ts.map eI)).canLay0=true:=by simpa only[PyData.canLay0] using q1
 have dep:(PyData.list (ts.map eI)).depth<=100:=by simp only[PyData.depth];omega
 have ne:(PyData.list (ts.map eI)).eqv (.list [])=false:=by
  cases ts with
  | nil=>simp at n1
  | cons t ts=>simp[PyData.eqv,PyData.eqvAll]
 simp[Oz,h1];refine⟨lay,by decide,dep,ne,?_⟩
 simp[Gx,h1,h2,sz];exact h m' kn
theorem Ni:∀ ts:List (Str×Bool),nlPs (ts.map eI)=true
 | []=>by simp[nlPs]
 | t::ts=>by simp[nlPs,fF,Ni ts]
theorem Nw:∀ ss:List Say,nlPs (ss.map cL)=true
 | []=>by simp[nlPs]
 | s::ss=>by simp[nlPs,Mj,Nw ss]
theorem FQ(ts:List (Str×Bool))(ss:List Say):fF (TK ts ss)=true:=by
 have q1:=Ni ts
 have q2:=Nw ss
 simp only[TK,TH,fF,nlPs,Bool.and_eq_true];exact⟨q1,q2,trivial⟩
theorem Ma:∀ zs:List Str,PyData.eqvAll (zs.map .str) (zs.map .str)=true
 | []=>by simp[PyData.eqvAll]
 | z::zs=>by simp[PyData.eqvAll,PyData.eqv,Ma zs]
theorem Ww{ts:List (Str×Bool)}{ss:List Say}(nm:Nm (ts.map (·.1)))(ok:∀ s∈ss,dB ts s):∀ z∈dL ts ss,PyData.strOk z=true:=fun z hz=>by
 rcases List.mem_append.mp hz with hz | hz
 ·obtain⟨t,ht,rfl⟩:=List.mem_map.mp hz;have g:=nm.gd _ (List.mem_map.mpr ⟨t,ht,rfl⟩)
  refine pF _ (oT fun w hw=>?_);simp at hw;rcases hw with rfl | rfl
  ·exact wF _
  ·exact lJ g
 ·obtain⟨s,hs,rfl⟩:=List.mem_map.mp hz;exact pF _ (oT (Sq nm (ok s hs)))
theorem FM:∀ ds m R,ds.length=Jr.length->nN ds m R->vZ (EN R) (bY Cg ds) m:=by
 rintro ds m R hl ⟨ns,rfl,hn,h⟩;simp[vZ];refine Sy (fun d _=>∃ o1 o2 o3 o4 o5 o6 o7 o8 o9 o10,d=[some (.dat (.list (ns.map .int))),o1,o2,o3,o4,o5,o6,o7,o8,o9,o10]) ?_ _ ?_ _ _ ⟨_,_,_,_,_,_,_,_,_,_,rfl⟩
 ·rintro d m' -;simp[sO];exact h m'
 ·rintro x hx K hK d m1 ⟨o1,o2,o3,o4,o5,o6,o7,o8,o9,o10,rfl⟩;obtain⟨i,rfl,i0,i1⟩:=M1 hx;simp[Dq];refine⟨ns,i,rfl,hn,i0,by omega,fun a m2 hf=>?_⟩
  simp[En];refine⟨a,6,rfl,by decide,by decide,hf,fun ts m3 t1 tn hf3=>?_⟩
  have tl:ts.length<=6:=by simpa using tn.le
  simp[Qe];refine⟨a,ts,rfl,tl,hf3,fun ps m4 tp bp hf4=>?_⟩;refine⟨sz (by decide),eR (by decide) (by decide) hf4 fun r m5 r0 r1 hf5=>?_⟩
  refine pK (P:=fun p=>∃ i:Int,p=.int i/\0<=i/\i<=24) (by simp) r0 r1 ?_
  rintro _ ⟨w,rfl,w0,w1⟩;refine⟨a,ts,ps,w,rfl,tn,tp,bp,w0,w1,hf5,fun ss m6 h24 ok hf6=>?_⟩;obtain⟨k1,k2,k3⟩:=O1 tn h24 ok;obtain⟨y1,y2,y3⟩:=CV tn h24 ok;have k2:=Nat.le_trans k2 big
  have y2:=Nat.le_trans y2 (Nat.le_trans (by decide) big)
  have k3:=Nat.le_trans k3 (show 6<=100 by decide)
  have y3:=Nat.le_trans y3 (show 2<=100 by decide)
  show xM _ _ _
  unfold xM;refine⟨_,rfl,rfl,ts,ss,rfl,tn,h24,ok,fun m7 kn7=>?_⟩;show wH _ _ _
  unfold wH;refine⟨_,rfl,rfl,ts,ss,rfl,tn,h24,ok,fun c m8 hc8 kn8 hm8=>?_⟩;show yL _ _ _
  unfold yL;refine⟨_,rfl,_,hm8,y1,y2,y3,_,rfl,y1,y2,y3,_,rfl,?_⟩;simp only[decide_true,Bool.not_true,Bool.false_eq_true,if_false];have zl:(PyData.list ((dL ts ss).map .str)).canLay0=true:=by simpa only[PyData.canLay0] using Sf (Ww tn ok)
  have zd:(PyData.list ((dL ts ss).map .str)).depth<=100:=by have:=vX (dL ts ss);simp only[PyData.depth];omega
  have ze:(PyData.list ((dL ts ss).map .str)).eqv (.list ((dL ts ss).map .str))=true:=by simpa only[PyData.eqv] using Ma (dL ts ss)
  show wD _ _ _
  unfold wD;refine⟨_,rfl,_,hm8,fun e he=>?_⟩;have ce:c≠e:=fun q=>by rw[<- q,hm8]at he;cases he
  show zU _ _ _
  unfold zU;refine⟨e,_,rfl,cO,_,rfl,rfl,ts,ss,rfl,tn,t1,h24,ok,fun _ _=>⟨TK ts ss,rfl,FQ ts ss,?_⟩⟩;show vH _ _ _
  unfold vH;refine⟨_,rfl,k1,k2,k3,_,rfl,k1,k2,k3,_,rfl,?_⟩;simp only[decide_true,Bool.not_true,Bool.false_eq_true,if_false];refine⟨_,rfl,_,rfl,_,_,by simp only[kL,cO],rfl,zl,zl,zd,_,rfl,?_⟩
  simp only[ze,Bool.not_true,Bool.false_eq_true,if_false];show zY _ _ _
  unfold zY;refine⟨_,rfl,e,_,rfl,cO,?_⟩;show wI _ _ _
  unfold wI;have hc9:bW (bW m8 e (.l ((dL ts ss).map .str))) e (.l []) c=some (.l ((dL ts ss).map .str)):=by rw[cZ ce,cZ ce];exact hm8
  have rl:(dL ts ss).length<=30:=by simp[dL];omega
  refine⟨_,rfl,c,rfl,⟨_,hc9⟩,_,_,rfl,hc9,ai (show _<1000 by simp;omega) (sz (by decide)),?_⟩
  obtain⟨mm,em⟩:∃ mm,mm=bW (bW (bW m8 e (.l ((dL ts ss).map .str))) e (.l [])) c (.l ((dL ts ss).map .str++[.str ""])):=⟨_,rfl⟩;show tN {nx:=K,rt:=R,bk:=sO (EN R),ct:=K} [some (.dat (.list (ns.map .int))),some (I i),some (.cel a),some (.dat (TH ts)),some (.dat (TK ts ss)),some (.dat (sL (dL ts ss))),some (.cel c),some (.cel e),some (.dat (TK ts ss)),o9,o10] _
  unfold tN;refine⟨_,rfl,k1,k2,k3,_,rfl,k1,k2,k3,_,rfl,?_⟩;simp only[decide_true,Bool.not_true,Bool.false_eq_true,if_false];refine⟨_,rfl,rfl,ts,ss,rfl,tn,t1,h24,ok,fun m9 k9=>⟨k1,k2,k3,_,rfl,k1,k2,k3,_,rfl,?_⟩⟩;simp only[decide_true,Bool.not_true,Bool.false_eq_true,if_false];refine⟨_,rfl,rfl,ts,ss,rfl,tn,h24,ok,fun c' m10 hc' k10 hm10=>⟨c',_,rfl,hc',hm10,y1,y2,y3,_,rfl,y1,y2,y3,_,rfl,?_⟩⟩;simp only[decide_true,Bool.not_true,Bool.false_eq_true,if_false];show vI _ _ _
  unfold vI;have lsz:ss.length<=24:=h24
  refine⟨_,rfl,_,rfl,_,rfl,by simp<;>omega,by simp<;>omega,?_⟩
  rw[show(((ss.map cL).length:Nat):Int).toNat=ss.length by simp]
  refine rY ss.length (fun _ d _=>∃ o9 o10,d=[some (.dat (.list (ns.map .int))),some (I i),some (.cel a),some (.dat (TH ts)),some (.dat (TK ts ss)),some (.dat (sL (dL ts ss))),some (.cel c),some (.cel e),some (.dat (TK ts ss)),o9,o10]) ?_ ?_ ss.length 0 (by omega) _ _ ⟨_,_,rfl⟩
  ·rintro d m' ⟨p9,p10,rfl⟩;exact hK _ _ ⟨_,_,_,_,_,_,_,_,_,_,rfl⟩
  ·rintro j d m' k hj ⟨p9,p10,rfl⟩ hk;have oks:=ok _ (List.getElem_mem hj)
   obtain⟨s,es⟩:∃ s,s=ss[j]:=⟨_,rfl⟩;rw[<- es]at oks;have Am:bR (ss.map cL) (j:Int)=some (cL s):=eE (by rw[List.getElem?_map,List.getElem?_eq_getElem hj,es];rfl)
   have Dx:bR ((dL ts ss).map PyData.str) (((ts.length+j:Nat)):Int)=some (.str (eJ ts s)):=eE (by
    rw[rP,List.getElem?_append_right (by simp)]
    simp[List.getElem?_eq_getElem hj,es])
   obtain⟨u1,u2,u3⟩:=Np tn oks;obtain⟨v1,v2,v3⟩:=Qc tn oks;have u2:=Nat.le_trans u2 (Nat.le_trans (by decide) big)
   have v2:=Nat.le_trans v2 (Nat.le_trans (by decide) big)
   have u3:=Nat.le_trans u3 (show 1<=100 by decide)
   have v3:=Nat.le_trans v3 (show 4<=100 by decide)
   show zQ _ [some (.dat (.list (ns.map .int))),some (I i),some (.cel a),some (.dat (TH ts)),some (.dat (TK ts ss)),some (.dat (sL (dL ts ss))),some (.cel c),some (.cel e),some (.dat (TK ts ss)),some (I j),p10] m'
   unfold zQ;refine⟨_,rfl,_,rfl,_,rfl,_,(by rw[ar];exact Dx),?_⟩
   show yK _ [some (.dat (.list (ns.map .int))),some (I i),some (.cel a),some (.dat (TH ts)),some (.dat (TK ts ss)),some (.dat (sL (dL ts ss))),some (.cel c),some (.cel e),some (.dat (TK ts ss)),some (I j),some (.dat (.str (eJ ts s)))] m'
   unfold yK;refine⟨_,rfl,_,rfl,_,rfl,_,rfl,_,Am,rfl,ts,s,rfl,tn,oks,fun m11 k11=>⟨u1,u2,u3,_,rfl,u1,u2,u3,_,rfl,?_⟩⟩;simp only[decide_true,Bool.not_true,Bool.false_eq_true,if_false];show xL _ _ _
   unfold xL;refine⟨_,rfl,_,rfl,rfl,ts,s,rfl,tn,oks,fun m12 k12=>⟨v1,v2,v3,_,rfl,_,rfl,_,rfl,_,Am,v1,v2,v3,_,rfl,?_⟩⟩;simp only[decide_true,Bool.not_true,Bool.false_eq_true,if_false];exact hk _ _ ⟨_,_,rfl⟩
end K17
namespace HD
open PySem PySem.W
section
variable {α β:Type}{tb:String->Option Builtin}{p:Program}{w:World}{n₀:Nat}{ann:Option Value}{c:Code}{B:List Frame}
theorem Qk{b:Nat}:∀ {n m:Nat} {s s1 s2:Shared} {t t1 t2:Thread},segGo tb p w n₀ ann b n s t=some (s1,t1)->segGo tb p w n₀ ann b m s1 t1=some (s2,t2)->segGo tb p w n₀ ann b (n+m) s t=some (s2,t2)
 | 0,m,s,s1,s2,t,t1,t2,h,k=>by
  obtain⟨rfl,rfl⟩:s=s1/\t=t1:=by simpa[segGo] using h
  rw[Nat.zero_add];exact k
 | n+1,m,s,s1,s2,t,t1,t2,h,k=>by
  rw[show n+1+m=n+m+1 by omega]
  unfold segGo at h ⊢
  cases he:endAt b t with
  | some f=>rw[he]at h;cases h
  | none =>
   rw[he]at h
   cases hk:stepOk n₀ ann t with
   | false=>rw[hk]at h;cases h
   | true =>
    rw[hk]at h
    cases hs:step (denote tb) p w s t with
    | halt o s'=>rw[hs]at h;cases h
    | go s' t'=>rw[hs]at h;exact Qk h k
def R(N:Nat)(tb:String->Option Builtin)(p:Program)(w:World)(n₀:Nat)(ann:Option Value)(c:Code)(B:List Frame)(m:Sem α)(s:Shared)(pos:Pos)(a:α)(s':Shared)(pos':Pos):Prop :=
 ∀ (K:α->Sem Fin) (H:Value->Sem Fin) (gd:Bool->Bool) (lv:List Value->List Value),∃ n,n<=N/\segGo tb p w n₀ ann B.length n s ⟨m.wrap K H gd lv,c,pos,B⟩=some (s',⟨K a,c,pos',B⟩)
variable {s s1 s':Shared}{pos pos1 pos':Pos}{N N1 N2:Nat}
theorem R.pure{a:α}:R 0 tb p w n₀ ann c B (Pure.pure a) s pos a s pos:=fun K H gd lv=>⟨0,aj _,rfl⟩
theorem R.mono{m:Sem α}{a:α}(hN:N1<=N)(h:R N1 tb p w n₀ ann c B m s pos a s' pos'):R N tb p w n₀ ann c B m s pos a s' pos':=fun K H gd lv=>let ⟨n,l,e⟩:=h K H gd lv;⟨n,Nat.le_trans l hN,e⟩
theorem R.bind{m:Sem α}{f:α->Sem β}{a:α}{b:β}(h:R N1 tb p w n₀ ann c B m s pos a s1 pos1)(k:R N2 tb p w n₀ ann c B (f a) s1 pos1 b s' pos'):R (N1+N2) tb p w n₀ ann c B (m>>=f) s pos b s' pos':=fun K H gd lv=>by
 obtain⟨n1,l1,e1⟩:=h (fun a=>(f a).wrap K H gd lv) H gd lv;obtain⟨n2,l2,e2⟩:=k K H gd lv;refine⟨n1+n2,Nat.add_le_add l1 l2,?_⟩;have e:(m>>=f).wrap K H gd lv=m.wrap (fun a=>(f a).wrap K H gd lv) H gd lv:=by
  rw[Sem.bind_eq_wrap',Sem.wrap_wrap];rfl
 rw[e];exact Qk e1 e2
theorem R.hold{m:Sem α}{vs:List Value}{a:α}(h:R N tb p w n₀ ann c B m s pos a s' pos'):R N tb p w n₀ ann c B (holding vs m) s pos a s' pos':=by
 unfold holding
 split
 ·exact h
 ·intro K H gd lv;rw[Sem.keep_eq_wrap,Sem.wrap_wrap];exact h K H _ _
theorem R.leaf{m:Sem α}{a:α}{sT sT':SharedT}(n:Nat)(h:∀ (K:α->Sem Fin) (H:Value->Sem Fin) (gd:Bool->Bool) (lv:List Value->List Value),segGoT tb p w n₀ ann B.length n sT ⟨m.wrap K H gd lv,c,pos,B⟩=some (sT',⟨K a,c,pos',B⟩)):R n tb p w n₀ ann c B m sT.abs pos a sT'.abs pos':=fun K H gd lv=>⟨n,aj _,segGo_of (h K H gd lv)⟩
theorem R.piece{m:Sem Flow}{q:Pos}(h:R N tb p w n₀ ann c [topFrame q] m s pos .next s' pos'):∃ n,n<=N+1/\segRun tb p w n₀ ann 1 n s ⟨m.wrap doneF deadEnd id id,c,pos,[topFrame q]⟩=some (.next,s',c,pos'):=by
 obtain⟨n,l,e⟩:=h doneF deadEnd id id;exact⟨n+1,Nat.succ_le_succ l,seg_go (N:=1) e rfl⟩
end
end HD
namespace HD
open PySem PySem.W
section
variable {α β:Type}{tb:String->Option Builtin}{p:Program}{w:World}{n₀:Nat}{ann:Option Value}{c:Code}{B:List Frame}{s s1 s':Shared}{pos pos1 pos':Pos}
def pJ:Stmt->List (Option Expr) | .Assign [.Name _ _] (.Dict ks _ _) _=>ks | _=>[]
def oO:Stmt->List Expr | .Assign [.Name _ _] (.Dict _ vs _) _=>vs | _=>[]
def nW:Stmt->Pos | .Assign [.Name _ _] (.Dict _ _ dp) _=>dp | _=>default
def vK:Stmt->Pos | .Assign [.Name _ px] (.Dict _ _ _) _=>px | _=>default
def yR:Stmt->Pos | .Assign _ _ sp=>sp | _=>default
end
end HD
set_option maxHeartbeats 0
namespace H17
open PySem PySem.W HD
abbrev prog:Program:=PySem.Challenge.pw_whens_k17_talks_shown_and_read
abbrev q0:Pos:=⟨0,0,0,0⟩
def st:Stmt:=prog.main.body.getD 9 (.Pass q0)
def mf(k:Nat)(cl:Value)(g:Addr)(clo:List (Str×Addr))(d kd dc pm:Value)(an:Option Addr)(cd ct:Value)(bi:Addr):Obj:=match prog.main.body.getD k (.Pass q0) with
 | .FunctionDef n a b _ _ _ s _ _ _=>⟨cl,none,.func ⟨n,n,a,.stmts b,s,g,clo,d,kd,dc,pm,an,cd,ct,bi⟩,#[]⟩
 | _=>⟨cl,none,.plain,#[]⟩
def mm(k j:Nat)(q:Str)(cl:Value)(g:Addr)(clo:List (Str×Addr))(d kd dc pm:Value)(an:Option Addr)(cd ct:Value)(bi:Addr):Obj:=match prog.main.body.getD k (.Pass q0) with
 | .ClassDef _ _ _ bo _ _ _ _ _ _ _=>match bo.getD j (.Pass q0) with
  | .FunctionDef n a b _ _ _ s _ _ _=>⟨cl,none,.func ⟨n,q,a,.stmts b,s,g,clo,d,kd,dc,pm,an,cd,ct,bi⟩,#[]⟩
  | _=>⟨cl,none,.plain,#[]⟩
 | _=>⟨cl,none,.plain,#[]⟩
def mq(k:Nat)(m:Str)(t c:Nat):Obj:=mf k (.type "function") 3 [] .none .none .none (.str m t) none (.ref c) .none 0
def tq(xs:List Value):Obj:=⟨.type "tuple",none,.seq xs.toArray,#[]⟩
def tz(xs:List Str)(t:Nat):Obj:=tq (xs.zipIdx.map fun p=>.str p.1 (t+p.2))
def co(n q:Str)(t l a f r k:Nat):Obj:=⟨.type "code",none,.fields #[.str n t,.str q (t+1),.str "/claim/cut.py" (t+2),.int l 0,.int a 0,.int 0 0,.int 0 0,.int f 0,.ref r,.bool true,.int 181 0,.ref (r+1),.none,.ref (r+2),.ref (r+3),.ref (r+4),.int k 0,.int l 0,.str "/claim/cut.py" (k+1)],#[]⟩
def lf(o:Obj):BT:=.node o .nil .nil
def o3(P:Params):Obj:=⟨.type "dict",none,.dict #[⟨PyData.keyHash P "__name__",.str "__name__" 165,.str "law_whens_k17_talks_shown_and_read" 510⟩,⟨PyData.keyHash P "__doc__",.str "__doc__" 166,.none⟩,⟨PyData.keyHash P "__package__",.str "__package__" 167,.none⟩,⟨PyData.keyHash P "__loader__",.str "__loader__" 168,Value.builtin "__main__.__loader__#opaque"⟩,⟨PyData.keyHash P "__spec__",.str "__spec__" 169,.none⟩,⟨PyData.keyHash P "__annotations__",.str "__annotations__" 170,.ref 6⟩,⟨PyData.keyHash P "__builtins__",.str "__builtins__" 171,.ref 4⟩,⟨PyData.keyHash P "__file__",.str "__file__" 173,.str "/claim/cut.py" 172⟩,⟨PyData.keyHash P "__cached__",.str "__cached__" 174,.none⟩,⟨PyData.keyHash P "SayError",.str "SayError" 206,.ref 24⟩,⟨PyData.keyHash P "NoText",.str "NoText" 233,.ref 44⟩,⟨PyData.keyHash P "is_whole",.str "is_whole" 242,.ref 53⟩,⟨PyData.keyHash P "common",.str "common" 250,.ref 60⟩,⟨PyData.keyHash P "is_fraction",.str "is_fraction" 259,.ref 67⟩,⟨PyData.keyHash P "ORDER",.str "ORDER" 275,.ref 68⟩,⟨PyData.keyHash P "POINT_WORDS",.str "POINT_WORDS" 304,.ref 69⟩,⟨PyData.keyHash P "END_COUNTS",.str "END_COUNTS" 311,.ref 76⟩,⟨PyData.keyHash P "words_of",.str "words_of" 318,.ref 83⟩,⟨PyData.keyHash P "LETTERS",.str "LETTERS" 322,.str "abcdefghijklmnopqrstuvwxyz" 321⟩,⟨PyData.keyHash P "LONGEST_NAME",.str "LONGEST_NAME" 324,.int 8 323⟩,⟨PyData.keyHash P "MOST_THINGS",.str "MOST_THINGS" 326,.int 6 325⟩,⟨PyData.keyHash P "is_name",.str "is_name" 332,.ref 88⟩,⟨PyData.keyHash P "names_of",.str "names_of" 338,.ref 93⟩,⟨PyData.keyHash P "kinds_of",.str "kinds_of" 348,.ref 100⟩,⟨PyData.keyHash P "ends_of",.str "ends_of" 354,.ref 105⟩,⟨PyData.keyHash P "MOST_SAYINGS",.str "MOST_SAYINGS" 356,.int 24 355⟩,⟨PyData.keyHash P "FIGURES",.str "FIGURES" 360,.str "0123456789" 359⟩,⟨PyData.keyHash P "MOST_FIGURES",.str "MOST_FIGURES" 362,.int 6 361⟩,⟨PyData.keyHash P "shown_number",.str "shown_number" 371,.ref 112⟩,⟨PyData.keyHash P "are_figures",.str "are_figures" 377,.ref 117⟩,⟨PyData.keyHash P "read_number",.str "read_number" 389,.ref 124⟩,⟨PyData.keyHash P "shown_end",.str "shown_end" 399,.ref 131⟩,⟨PyData.keyHash P "read_end",.str "read_end" 408,.ref 138⟩,⟨PyData.keyHash P "shown_saying",.str "shown_saying" 422,.ref 145⟩,⟨PyData.keyHash P "shown_talk",.str "shown_talk" 428,.ref 150⟩,⟨PyData.keyHash P "word_at",.str "word_at" 437,.ref 157⟩,⟨PyData.keyHash P "read_name",.str "read_name" 448,.ref 164⟩,⟨PyData.keyHash P "read_may",.str "read_may" 461,.ref 171⟩,⟨PyData.keyHash P "read_gap",.str "read_gap" 474,.ref 178⟩,⟨PyData.keyHash P "read_words",.str "read_words" 483,.ref 185⟩,⟨PyData.keyHash P "read_saying",.str "read_saying" 491,.ref 192⟩,⟨PyData.keyHash P "read_thing",.str "read_thing" 497,.ref 197⟩,⟨PyData.keyHash P "read_talk",.str "read_talk" 509,.ref 204⟩,⟨PyData.keyHash P "_law_feed",.str "_law_feed" 520,.ref 211⟩,⟨PyData.keyHash P "_law_draw",.str "_law_draw" 530,.ref 218⟩,⟨PyData.keyHash P "_law_fraction",.str "_law_fraction" 541,.ref 225⟩,⟨PyData.keyHash P "_law_stand",.str "_law_stand" 550,.ref 232⟩,⟨PyData.keyHash P "_law_word",.str "_law_word" 562,.ref 239⟩,⟨PyData.keyHash P "_law_words",.str "_law_words" 570,.ref 246⟩,⟨PyData.keyHash P "_law_names",.str "_law_names" 576,.ref 251⟩,⟨PyData.keyHash P "_law_kinds",.str "_law_kinds" 582,.ref 256⟩,⟨PyData.keyHash P "_law_things",.str "_law_things" 588,.ref 261⟩,⟨PyData.keyHash P "_law_may",.str "_law_may" 594,.ref 266⟩,⟨PyData.keyHash P "_law_times",.str "_law_times" 607,.ref 273⟩,⟨PyData.keyHash P "_law_telling",.str "_law_telling" 613,.ref 278⟩,⟨PyData.keyHash P "_law_all_ends",.str "_law_all_ends" 623,.ref 285⟩,⟨PyData.keyHash P "_law_time",.str "_law_time" 633,.ref 292⟩,⟨PyData.keyHash P "_law_may_saying",.str "_law_may_saying" 639,.ref 297⟩,⟨PyData.keyHash P "_law_gap_saying",.str "_law_gap_saying" 659,.ref 304⟩,⟨PyData.keyHash P "_law_talk",.str "_law_talk" 672,.ref 311⟩,⟨PyData.keyHash P "_law_end_text",.str "_law_end_text" 680,.ref 318⟩,⟨PyData.keyHash P "_law_row_text",.str "_law_row_text" 690,.ref 325⟩,⟨PyData.keyHash P "_law_rows",.str "_law_rows" 696,.ref 330⟩,⟨PyData.keyHash P "law",.str "law" 713,.ref 337⟩] 64,#[]⟩
def Po(P:Params):Obj:=tq [.type "ValueError"]
def Cn(P:Params):Obj:=tq []
def Kc(P:Params):Obj:=⟨.type "dict",none,.dict #[⟨PyData.keyHash P "__module__",.str "__module__" 196,.str "whens.errors" 187⟩,⟨PyData.keyHash P "__firstlineno__",.str "__firstlineno__" 200,.int 2 199⟩,⟨PyData.keyHash P "__static_attributes__",.str "__static_attributes__" 201,.ref 22⟩,⟨PyData.keyHash P "__weakref__",.str "__weakref__" 203,.ref 25⟩,⟨PyData.keyHash P "__doc__",.str "__doc__" 204,.none⟩] 3,#[]⟩
def Mq(P:Params):Obj:=⟨.type "type",none,.cls {name:=Str.ofString "SayError",bases:=[.type "ValueError"],mro:=[.ref 24,.type "ValueError",.type "Exception",.type "BaseException",.type "object"],ns:=23,qualname:=Str.ofString "SayError",subclasses:=[.ref 44]},#[some (.ref 15),none,some (.str "SayError" 189),some (.str "SayError" 197),some (Value.builtin "ValueError.__new__"),some (.bool true)]⟩
def Fk(P:Params):Obj:=⟨.type "getset_descriptor",none,.fields #[.str "__weakref__" 202,.ref 24,Value.builtin "ExceptionGroup.__weakref__",.none],#[]⟩
def No(P:Params):Obj:=tq [.ref 24]
def Ph(P:Params):Obj:=tq []
def Rk(P:Params):Obj:=tz ["self","row","word"] 222
def Nz(P:Params):Obj:=tq []
def Py(P:Params):Obj:=co "__init__" "NoText.__init__" 219 6 3 3 35 225
def Hn(P:Params):Obj:=mm 2 0 "NoText.__init__" (.type "function") 3 [] .none .none .none (.str "whens.errors" 187) none (.ref 40) .none 0
def Dd(P:Params):Obj:=tz ["row","word"] 228
def Lq(P:Params):Obj:=⟨.type "dict",none,.dict #[⟨PyData.keyHash P "__module__",.str "__module__" 214,.str "whens.errors" 187⟩,⟨PyData.keyHash P "__firstlineno__",.str "__firstlineno__" 218,.int 4 217⟩,⟨PyData.keyHash P "__init__",.str "__init__" 227,.ref 41⟩,⟨PyData.keyHash P "__static_attributes__",.str "__static_attributes__" 230,.ref 42⟩,⟨PyData.keyHash P "__doc__",.str "__doc__" 231,.none⟩] 2,#[]⟩
def Ij(P:Params):Obj:=⟨.type "type",none,.cls {name:=Str.ofString "NoText",bases:=[.ref 24],mro:=[.ref 44,.ref 24,.type "ValueError",.type "Exception",.type "BaseException",.type "object"],ns:=43,qualname:=Str.ofString "NoText"},#[some (.ref 28),none,some (.str "NoText" 207),some (.str "NoText" 215),some (Value.builtin "ValueError.__new__"),some (.bool true)]⟩
def Ho(P:Params):Obj:=tq []
def Jx(P:Params):Obj:=tz ["thing"] 239
def Fj(P:Params):Obj:=tq []
def o52(P:Params):Obj:=co "is_whole" "is_whole" 236 10 1 3 47 240
def o53(P:Params):Obj:=mq 4 "whens.fractions" 234 52
def Ez(P:Params):Obj:=tq []
def Ua(P:Params):Obj:=tz ["one","other"] 246
def Gb(P:Params):Obj:=tq []
def o59(P:Params):Obj:=co "common" "common" 243 12 2 3 54 248
def o60(P:Params):Obj:=mq 5 "whens.fractions" 234 59
def Nc(P:Params):Obj:=tq []
def Sx(P:Params):Obj:=tz ["thing","top","bottom"] 254
def Gh(P:Params):Obj:=tq []
def o66(P:Params):Obj:=co "is_fraction" "is_fraction" 251 16 1 3 61 257
def o67(P:Params):Obj:=mq 6 "whens.fractions" 234 66
def o68(P:Params):Obj:=tz ["ahead","meets","overlaps","begins","within","ends","same","ended","holds","begun","lapped","met","behind"] 262
def o76(P:Params):Obj:=⟨.type "dict",none,.dict #[⟨PyData.keyHash P "point",.str "point" 305,.int 1 306⟩,⟨PyData.keyHash P "stretch",.str "stretch" 307,.int 2 308⟩] 2,#[]⟩
def Vq(P:Params):Obj:=tq []
def y4(P:Params):Obj:=tz ["kinds"] 315
def BD(P:Params):Obj:=tq []
def o82(P:Params):Obj:=co "words_of" "words_of" 312 27 1 3 77 316
def o83(P:Params):Obj:=mq 11 "whens.words" 260 82
def Vw(P:Params):Obj:=tq []
def o87(P:Params):Obj:=⟨.type "code",none,.fields #[.str "is_name" 327,.str "is_name" 328,.str "/claim/cut.py" 329,.int 33 0,.int 1 0,.int 0 0,.int 0 0,.int 3 0,.ref 84,.bool true,.int 181 0,.ref 85,.none,.none,.none,.ref 86,.int 330 0,.int 33 0,.str "/claim/cut.py" 331],#[]⟩
def o88(P:Params):Obj:=mq 16 "whens.tellings" 319 87
def y6(P:Params):Obj:=tq []
def o92(P:Params):Obj:=⟨.type "code",none,.fields #[.str "names_of" 333,.str "names_of" 334,.str "/claim/cut.py" 335,.int 37 0,.int 1 0,.int 0 0,.int 0 0,.int 3 0,.ref 89,.bool true,.int 181 0,.ref 90,.none,.none,.none,.ref 91,.int 336 0,.int 37 0,.str "/claim/cut.py" 337],#[]⟩
def o93(P:Params):Obj:=mq 17 "whens.tellings" 319 92
def Zg(P:Params):Obj:=tq []
def CA(P:Params):Obj:=tz ["things","a","b","kinds"] 342
def Ur(P:Params):Obj:=tq []
def o99(P:Params):Obj:=co "kinds_of" "kinds_of" 339 39 3 3 94 346
def o100(P:Params):Obj:=mq 18 "whens.tellings" 319 99
def C7(P:Params):Obj:=tq []
def o104(P:Params):Obj:=⟨.type "code",none,.fields #[.str "ends_of" 349,.str "ends_of" 350,.str "/claim/cut.py" 351,.int 42 0,.int 1 0,.int 0 0,.int 0 0,.int 3 0,.ref 101,.bool true,.int 181 0,.ref 102,.none,.none,.none,.ref 103,.int 352 0,.int 42 0,.str "/claim/cut.py" 353],#[]⟩
def o105(P:Params):Obj:=mq 19 "whens.tellings" 319 104
def R3(P:Params):Obj:=tq []
def S7(P:Params):Obj:=tz ["number","top","bottom"] 366
def AV(P:Params):Obj:=tq []
def o111(P:Params):Obj:=co "shown_number" "shown_number" 363 48 1 3 106 369
def o112(P:Params):Obj:=mq 24 "whens.talktexts" 357 111
def EW(P:Params):Obj:=tq []
def o116(P:Params):Obj:=⟨.type "code",none,.fields #[.str "are_figures" 372,.str "are_figures" 373,.str "/claim/cut.py" 374,.int 51 0,.int 2 0,.int 0 0,.int 0 0,.int 3 0,.ref 113,.bool true,.int 181 0,.ref 114,.none,.none,.none,.ref 115,.int 375 0,.int 51 0,.str "/claim/cut.py" 376],#[]⟩
def o117(P:Params):Obj:=mq 25 "whens.talktexts" 357 116
def k4(P:Params):Obj:=tq []
def X9(P:Params):Obj:=tz ["text","most","top","slash","bottom","number"] 381
def J8(P:Params):Obj:=tq []
def o123(P:Params):Obj:=co "read_number" "read_number" 378 53 2 3 118 387
def o124(P:Params):Obj:=mq 26 "whens.talktexts" 357 123
def Xh(P:Params):Obj:=tq []
def Ud(P:Params):Obj:=tz ["things","end","name","number"] 393
def k5(P:Params):Obj:=tq []
def o130(P:Params):Obj:=co "shown_end" "shown_end" 390 59 2 3 125 397
def o131(P:Params):Obj:=mq 27 "whens.talktexts" 357 130
def A7(P:Params):Obj:=tq []
def Yq(P:Params):Obj:=tz ["things","text","end"] 403
def Ze(P:Params):Obj:=tq []
def o137(P:Params):Obj:=co "read_end" "read_end" 400 64 2 3 132 406
def o138(P:Params):Obj:=mq 28 "whens.talktexts" 357 137
def BX(P:Params):Obj:=tq []
def B1(P:Params):Obj:=tz ["things","saying","word","x","y","number","strict","text"] 412
def Wb(P:Params):Obj:=tq []
def o144(P:Params):Obj:=co "shown_saying" "shown_saying" 409 69 2 3 139 420
def o145(P:Params):Obj:=mq 29 "whens.talktexts" 357 144
def Uc(P:Params):Obj:=tq []
def o149(P:Params):Obj:=⟨.type "code",none,.fields #[.str "shown_talk" 423,.str "shown_talk" 424,.str "/claim/cut.py" 425,.int 75 0,.int 1 0,.int 0 0,.int 0 0,.int 3 0,.ref 146,.bool true,.int 181 0,.ref 147,.none,.none,.none,.ref 148,.int 426 0,.int 75 0,.str "/claim/cut.py" 427],#[]⟩
def o150(P:Params):Obj:=mq 30 "whens.talktexts" 357 149
def C9(P:Params):Obj:=tq []
def L9(P:Params):Obj:=tz ["words","place","row"] 432
def M5(P:Params):Obj:=tq []
def o156(P:Params):Obj:=co "word_at" "word_at" 429 78 3 3 151 435
def o157(P:Params):Obj:=mq 31 "whens.talktexts" 357 156
def HQ(P:Params):Obj:=tq []
def l7(P:Params):Obj:=tz ["things","words","place","row","name"] 441
def L0(P:Params):Obj:=tq []
def o163(P:Params):Obj:=co "read_name" "read_name" 438 82 4 3 158 446
def o164(P:Params):Obj:=mq 32 "whens.talktexts" 357 163
def F0(P:Params):Obj:=tq []
def AJ(P:Params):Obj:=tz ["things","words","row","a","b","left","place"] 452
def FF(P:Params):Obj:=tq []
def o170(P:Params):Obj:=co "read_may" "read_may" 449 87 3 3 165 459
def o171(P:Params):Obj:=mq 33 "whens.talktexts" 357 170
def HZ(P:Params):Obj:=tq []
def P6(P:Params):Obj:=tz ["things","words","row","x","y","number","strict"] 465
def Zt(P:Params):Obj:=tq []
def o177(P:Params):Obj:=co "read_gap" "read_gap" 462 99 3 3 172 472
def o178(P:Params):Obj:=mq 34 "whens.talktexts" 357 177
def S6(P:Params):Obj:=tq []
def W0(P:Params):Obj:=tz ["things","words","row"] 478
def GT(P:Params):Obj:=tq []
def o184(P:Params):Obj:=co "read_words" "read_words" 475 115 3 3 179 481
def o185(P:Params):Obj:=mq 35 "whens.talktexts" 357 184
def B7(P:Params):Obj:=tq []
def Yt(P:Params):Obj:=tz ["things","text"] 487
def x4(P:Params):Obj:=tq []
def o191(P:Params):Obj:=co "read_saying" "read_saying" 484 121 2 3 186 489
def o192(P:Params):Obj:=mq 36 "whens.talktexts" 357 191
def X2(P:Params):Obj:=tq []
def o196(P:Params):Obj:=⟨.type "code",none,.fields #[.str "read_thing" 492,.str "read_thing" 493,.str "/claim/cut.py" 494,.int 123 0,.int 3 0,.int 0 0,.int 0 0,.int 3 0,.ref 193,.bool true,.int 181 0,.ref 194,.none,.none,.none,.ref 195,.int 495 0,.int 123 0,.str "/claim/cut.py" 496],#[]⟩
def o197(P:Params):Obj:=mq 37 "whens.talktexts" 357 196
def Zd(P:Params):Obj:=tq []
def FE(P:Params):Obj:=tz ["rows","things","sayings","row","text","words"] 501
def y7(P:Params):Obj:=tq []
def o203(P:Params):Obj:=co "read_talk" "read_talk" 498 130 1 3 198 507
def o204(P:Params):Obj:=mq 38 "whens.talktexts" 357 203
def BU(P:Params):Obj:=tq []
def HI(P:Params):Obj:=tz ["_law_script","_law_k","_law_cell"] 515
def FX(P:Params):Obj:=tq []
def o210(P:Params):Obj:=co "_law_feed" "_law_feed" 512 147 2 3 205 518
def o211(P:Params):Obj:=mq 40 "law_whens_k17_talks_shown_and_read" 510 210
def E5(P:Params):Obj:=tq []
def Xs(P:Params):Obj:=tz ["_law_feed_here","_law_many","_law_figure","_law_number"] 524
def C3(P:Params):Obj:=tq []
def o217(P:Params):Obj:=co "_law_draw" "_law_draw" 521 152 2 3 212 528
def o218(P:Params):Obj:=mq 41 "law_whens_k17_talks_shown_and_read" 510 217
def i6(P:Params):Obj:=tq []
def D9(P:Params):Obj:=tz ["_law_top","_law_bottom","_law_one","_law_other","_law_rest"] 534
def BP(P:Params):Obj:=tq []
def o224(P:Params):Obj:=co "_law_fraction" "_law_fraction" 531 162 2 3 219 539
def o225(P:Params):Obj:=mq 42 "law_whens_k17_talks_shown_and_read" 510 224
def D7(P:Params):Obj:=tq []
def HS(P:Params):Obj:=tz ["_law_one","_law_other","_law_apart"] 545
def z5(P:Params):Obj:=tq []
def o231(P:Params):Obj:=co "_law_stand" "_law_stand" 542 170 2 3 226 548
def o232(P:Params):Obj:=mq 43 "law_whens_k17_talks_shown_and_read" 510 231
def p0(P:Params):Obj:=tq []
def B4(P:Params):Obj:=tz ["_law_one","_law_other","_law_both","_law_a","_law_b","_law_rows_here"] 554
def Q4(P:Params):Obj:=tq []
def o238(P:Params):Obj:=co "_law_word" "_law_word" 551 173 2 3 233 560
def o239(P:Params):Obj:=mq 44 "law_whens_k17_talks_shown_and_read" 510 238
def FO(P:Params):Obj:=tq []
def FH(P:Params):Obj:=tz ["_law_kinds_here","_law_first"] 566
def Xi(P:Params):Obj:=tq []
def o245(P:Params):Obj:=co "_law_words" "_law_words" 563 187 1 3 240 568
def o246(P:Params):Obj:=mq 45 "law_whens_k17_talks_shown_and_read" 510 245
def u5(P:Params):Obj:=tq []
def o250(P:Params):Obj:=⟨.type "code",none,.fields #[.str "_law_names" 571,.str "_law_names" 572,.str "/claim/cut.py" 573,.int 196 0,.int 2 0,.int 0 0,.int 0 0,.int 3 0,.ref 247,.bool true,.int 181 0,.ref 248,.none,.none,.none,.ref 249,.int 574 0,.int 196 0,.str "/claim/cut.py" 575],#[]⟩
def o251(P:Params):Obj:=mq 46 "law_whens_k17_talks_shown_and_read" 510 250
def CN(P:Params):Obj:=tq []
def o255(P:Params):Obj:=⟨.type "code",none,.fields #[.str "_law_kinds" 577,.str "_law_kinds" 578,.str "/claim/cut.py" 579,.int 207 0,.int 2 0,.int 0 0,.int 0 0,.int 3 0,.ref 252,.bool true,.int 181 0,.ref 253,.none,.none,.none,.ref 254,.int 580 0,.int 207 0,.str "/claim/cut.py" 581],#[]⟩
def o256(P:Params):Obj:=mq 47 "law_whens_k17_talks_shown_and_read" 510 255
def FY(P:Params):Obj:=tq []
def o260(P:Params):Obj:=⟨.type "code",none,.fields #[.str "_law_things" 583,.str "_law_things" 584,.str "/claim/cut.py" 585,.int 212 0,.int 2 0,.int 0 0,.int 0 0,.int 3 0,.ref 257,.bool true,.int 181 0,.ref 258,.none,.none,.none,.ref 259,.int 586 0,.int 212 0,.str "/claim/cut.py" 587],#[]⟩
def o261(P:Params):Obj:=mq 48 "law_whens_k17_talks_shown_and_read" 510 260
def S2(P:Params):Obj:=tq []
def o265(P:Params):Obj:=⟨.type "code",none,.fields #[.str "_law_may" 589,.str "_law_may" 590,.str "/claim/cut.py" 591,.int 216 0,.int 2 0,.int 0 0,.int 0 0,.int 3 0,.ref 262,.bool true,.int 181 0,.ref 263,.none,.none,.none,.ref 264,.int 592 0,.int 216 0,.str "/claim/cut.py" 593],#[]⟩
def o266(P:Params):Obj:=mq 49 "law_whens_k17_talks_shown_and_read" 510 265
def F7(P:Params):Obj:=tq []
def AY(P:Params):Obj:=tz ["_law_feed_here","_law_kind","_law_base","_law_many","_law_bottom","_law_first","_law_last"] 598
def BA(P:Params):Obj:=tq []
def o272(P:Params):Obj:=co "_law_times" "_law_times" 595 226 5 3 267 605
def o273(P:Params):Obj:=mq 50 "law_whens_k17_talks_shown_and_read" 510 272
def R6(P:Params):Obj:=tq []
def o277(P:Params):Obj:=⟨.type "code",none,.fields #[.str "_law_telling" 608,.str "_law_telling" 609,.str "/claim/cut.py" 610,.int 232 0,.int 2 0,.int 0 0,.int 0 0,.int 3 0,.ref 274,.bool true,.int 181 0,.ref 275,.none,.none,.none,.ref 276,.int 611 0,.int 232 0,.str "/claim/cut.py" 612],#[]⟩
def o278(P:Params):Obj:=mq 51 "law_whens_k17_talks_shown_and_read" 510 277
def F3(P:Params):Obj:=tq []
def J6(P:Params):Obj:=tz ["_law_things_here","_law_found","_law_name","_law_kind"] 617
def Xe(P:Params):Obj:=tq []
def o284(P:Params):Obj:=co "_law_all_ends" "_law_all_ends" 614 237 1 3 279 621
def o285(P:Params):Obj:=mq 52 "law_whens_k17_talks_shown_and_read" 510 284
def A2(P:Params):Obj:=tq []
def HE(P:Params):Obj:=tz ["_law_things_here","_law_telling_here","_law_end","_law_k"] 627
def CP(P:Params):Obj:=tq []
def o291(P:Params):Obj:=co "_law_time" "_law_time" 624 244 3 3 286 631
def o292(P:Params):Obj:=mq 53 "law_whens_k17_talks_shown_and_read" 510 291
def Zf(P:Params):Obj:=tq []
def o296(P:Params):Obj:=⟨.type "code",none,.fields #[.str "_law_may_saying" 634,.str "_law_may_saying" 635,.str "/claim/cut.py" 636,.int 249 0,.int 3 0,.int 0 0,.int 0 0,.int 3 0,.ref 293,.bool true,.int 181 0,.ref 294,.none,.none,.none,.ref 295,.int 637 0,.int 249 0,.str "/claim/cut.py" 638],#[]⟩
def o297(P:Params):Obj:=mq 54 "law_whens_k17_talks_shown_and_read" 510 296
def V2(P:Params):Obj:=tq []
def L3(P:Params):Obj:=tz ["_law_feed_here","_law_things_here","_law_telling_here","_law_ends","_law_k","_law_x","_law_y","_law_one","_law_other","_law_top","_law_bottom","_law_way","_law_number","_law_some"] 643
def Wa(P:Params):Obj:=tq []
def o303(P:Params):Obj:=co "_law_gap_saying" "_law_gap_saying" 640 258 3 3 298 657
def o304(P:Params):Obj:=mq 55 "law_whens_k17_talks_shown_and_read" 510 303
def GO(P:Params):Obj:=tq []
def GX(P:Params):Obj:=tz ["_law_feed_here","_law_things_here","_law_telling_here","_law_most","_law_ends","_law_sayings","_law_k"] 663
def I0(P:Params):Obj:=tq []
def o310(P:Params):Obj:=co "_law_talk" "_law_talk" 660 276 4 3 305 670
def o311(P:Params):Obj:=mq 56 "law_whens_k17_talks_shown_and_read" 510 310
def E1(P:Params):Obj:=tq []
def DP(P:Params):Obj:=tz ["_law_things_here","_law_end"] 676
def GV(P:Params):Obj:=tq []
def o317(P:Params):Obj:=co "_law_end_text" "_law_end_text" 673 285 2 3 312 678
def o318(P:Params):Obj:=mq 57 "law_whens_k17_talks_shown_and_read" 510 317
def Yv(P:Params):Obj:=tq []
def Us(P:Params):Obj:=tz ["_law_things_here","_law_saying","_law_number","_law_words_here"] 684
def Yu(P:Params):Obj:=tq []
def o324(P:Params):Obj:=co "_law_row_text" "_law_row_text" 681 289 2 3 319 688
def o325(P:Params):Obj:=mq 58 "law_whens_k17_talks_shown_and_read" 510 324
def f8(P:Params):Obj:=tq []
def o329(P:Params):Obj:=⟨.type "code",none,.fields #[.str "_law_rows" 691,.str "_law_rows" 692,.str "/claim/cut.py" 693,.int 297 0,.int 1 0,.int 0 0,.int 0 0,.int 3 0,.ref 326,.bool true,.int 181 0,.ref 327,.none,.none,.none,.ref 328,.int 694 0,.int 297 0,.str "/claim/cut.py" 695],#[]⟩
def o330(P:Params):Obj:=mq 59 "law_whens_k17_talks_shown_and_read" 510 329
def BO(P:Params):Obj:=tq []
def E7(P:Params):Obj:=tz ["_law_script","_law_k","_law_feed_here","_law_things_here","_law_talk_here","_law_due","_law_found","_law_handed","_law_told","_law_j","_law_text"] 700
def DX(P:Params):Obj:=tq []
def o336(P:Params):Obj:=co "law" "law" 697 299 1 3 331 711
def o337(P:Params):Obj:=mq 60 "law_whens_k17_talks_shown_and_read" 510 336
def tF(P:Params):BT:=(.node (boot_o_0 P) (.node (boot_o_1 P) (.node (o3 P) (.node (boot_o_7 P) (.node (Po P) (.node (tq []) (.node (Sx P) (.node (Ud P) (lf (o255 P)) .nil) (.node (o191 P) (lf (Yv P)) .nil)) (.node (⟨.none,none,.fields #[],#[]⟩) (.node (⟨.none,none,.fields #[],#[]⟩) (lf (⟨.none,none,.fields #[],#[]⟩)) .nil) (lf (mf 42 (.none) 0 [] .none .none .none .none none .none .none 0)))) (.node (Ho P) (.node (y4 P) (.node (mf 29 (.none) 0 [] .none .none .none .none none .none .none 0) (lf (mf 50 (.none) 0 [] .none .none .none .none none .none .none 0)) .nil) (.node (HI P) (lf (mf 60 (.none) 0 [] .none .none .none .none none .none .none 0)) .nil)) (.node (o111 P) (.node (Zt P) (lf (o303 P)) .nil) (lf (o239 P))))) (.node (Kc P) (.node (mm 2 0 "NoText.__init__" (.none) 0 [] .none .none .none .none none .none .none 0) (.node (tq []) (.node (Ze P) (lf (⟨.none,none,.fields #[],#[]⟩)) .nil) (.node (⟨.none,none,.fields #[],#[]⟩) (lf (⟨.none,none,.fields #[],#[]⟩)) .nil)) (.node (mf 19 (.none) 0 [] .none .none .none .none none .none .none 0) (.node (AJ P) (lf (mf 54 (.none) 0 [] .none .none .none .none none .none .none 0)) .nil) (lf (o231 P)))) (.node (⟨.none,none,.fields #[],#[]⟩) (.node (o87 P) (.node (C9 P) (lf (F3 P)) .nil) (lf (C3 P))) (.node (⟨.none,none,.fields #[],#[]⟩) (.node (mf 35 (.none) 0 [] .none .none .none .none none .none .none 0) (lf (o311 P)) .nil) (lf (u5 P)))))) (.node (tq []) (.node (⟨.none,none,.fields #[],#[]⟩) (.node (Ph P) (.node (o67 P) (.node (o131 P) (lf (mf 48 (.none) 0 [] .none .none .none .none none .none .none 0)) .nil) (.node (mf 37 (.none) 0 [] .none .none .none .none none .none .none 0) (lf (mf 58 (.none) 0 [] .none .none .none .none none .none .none 0)) .nil)) (.node (o99 P) (.node (o163 P) (lf (o291 P)) .nil) (lf (⟨.none,none,.fields #[],#[]⟩)))) (.node (mf 4 (.none) 0 [] .none .none .none .none none .none .none 0) (.node (o83 P) (.node (⟨.none,none,.fields #[],#[]⟩) (lf (⟨.none,none,.fields #[],#[]⟩)) .nil) (lf (o211 P))) (.node (mf 25 (.none) 0 [] .none .none .none .none none .none .none 0) (.node (S6 P) (lf (GX P)) .nil) (lf (Xi P))))) (.node (⟨.type "builtin_function_or_method",none,.fields #[Value.builtin "object.__init_subclass__",.ref 24],#[]⟩) (.node (Lq P) (.node (tq []) (.node (BX P) (lf (F7 P)) .nil) (.node (o203 P) (lf (BO P)) .nil)) (.node (⟨.none,none,.fields #[],#[]⟩) (.node (o171 P) (lf (⟨.none,none,.fields #[],#[]⟩)) .nil) (lf (B4 P)))) (.node (o59 P) (.node (mf 17 (.none) 0 [] .none .none .none .none none .none .none 0) (.node (mf 31 (.none) 0 [] .none .none .none .none none .none .none 0) (lf (mf 52 (.none) 0 [] .none .none .none .none none .none .none 0)) .nil) (lf (i6 P))) (.node (o123 P) (.node (⟨.none,none,.fields #[],#[]⟩) (lf (GV P)) .nil) (lf (o251 P))))))) (.node (boot_o_5 P) (.node (boot_o_9 P) (.node (⟨.type "dict",none,.dict #[⟨PyData.keyHash P "__module__",.str "__module__" 196,.str "whens.errors" 187⟩,⟨PyData.keyHash P "__qualname__",.str "__qualname__" 198,.str "SayError" 197⟩,⟨PyData.keyHash P "__firstlineno__",.str "__firstlineno__" 200,.int 2 199⟩,⟨PyData.keyHash P "__static_attributes__",.str "__static_attributes__" 201,.ref 22⟩] 4,#[]⟩) (.node (⟨.type "code",none,.fields #[.str "NoText" 209,.str "NoText" 210,.str "/claim/cut.py" 211,.int 4 0,.int 0 0,.int 0 0,.int 0 0,.int 0 0,.ref 31,.bool false,.int 181 0,.ref 32,.none,.none,.none,.none,.int 212 0,.int 4 0,.str "/claim/cut.py" 213],#[]⟩) (.node (mf 6 (.none) 0 [] .none .none .none .none none .none .none 0) (.node (mf 27 (.none) 0 [] .none .none .none .none none .none .none 0) (lf (FY P)) .nil) (.node (X2 P) (lf (Us P)) .nil)) (.node (Ur P) (.node (L0 P) (lf (CP P)) .nil) (lf (o225 P)))) (.node (Jx P) (.node (mf 11 (.none) 0 [] .none .none .none .none none .none .none 0) (.node (o145 P) (lf (o273 P)) .nil) (.node (mf 40 (.none) 0 [] .none .none .none .none none .none .none 0) (lf (o337 P)) .nil)) (.node (EW P) (.node (o177 P) (lf (GO P)) .nil) (lf (⟨.none,none,.fields #[],#[]⟩))))) (.node (Fk P) (.node (Hn P) (.node (tq []) (.node (o137 P) (lf (o265 P)) .nil) (.node (y7 P) (lf (o329 P)) .nil)) (.node (o105 P) (.node (mf 33 (.none) 0 [] .none .none .none .none none .none .none 0) (lf (o297 P)) .nil) (lf (p0 P)))) (.node (Gb P) (.node (y6 P) (.node (L9 P) (lf (J6 P)) .nil) (lf (o217 P))) (.node (J8 P) (.node (o185 P) (lf (⟨.none,none,.fields #[],#[]⟩)) .nil) (lf (mf 46 (.none) 0 [] .none .none .none .none none .none .none 0)))))) (.node (⟨.type "code",none,.fields #[.str "<module>" 182,.str "<module>" 183,.str "/claim/cut.py" 184,.int 1 0,.int 0 0,.int 0 0,.int 0 0,.int 0 0,.ref 11,.bool false,.int 181 0,.ref 12,.none,.none,.none,.none,.int 185 0,.int 1 0,.str "/claim/cut.py" 186],#[]⟩) (.node (⟨.type "frame",none,.plain,#[some (.ref 20),some (.ref 3),some (.ref 17),none,some (.str "whens.errors" 187),none,some (.ref 0)]⟩) (.node (Rk P) (.node (tq []) (.node (⟨.none,none,.fields #[],#[]⟩) (lf (o261 P)) .nil) (.node (o197 P) (lf (o325 P)) .nil)) (.node (C7 P) (.node (F0 P) (lf (Zf P)) .nil) (lf (z5 P)))) (.node (o53 P) (.node (⟨.none,none,.fields #[],#[]⟩) (.node (o149 P) (lf (o277 P)) .nil) (lf (⟨.none,none,.fields #[],#[]⟩))) (.node (o117 P) (.node (W0 P) (lf (mf 56 (.none) 0 [] .none .none .none .none none .none .none 0)) .nil) (lf (o245 P))))) (.node (⟨.type "builtin_function_or_method",none,.fields #[Value.builtin "type.__prepare__",.type "type"],#[]⟩) (.node (⟨.type "super",none,.fields #[.ref 44,.ref 44,.ref 44],#[]⟩) (.node (Vq P) (.node (B1 P) (lf (AY P)) .nil) (.node (BU P) (lf (E7 P)) .nil)) (.node (AV P) (.node (⟨.none,none,.fields #[],#[]⟩) (lf (Wa P)) .nil) (lf (mf 44 (.none) 0 [] .none .none .none .none none .none .none 0)))) (.node (Nc P) (.node (o93 P) (.node (o157 P) (lf (o285 P)) .nil) (lf (D9 P))) (.node (Xh P) (.node (x4 P) (lf (o317 P)) .nil) (lf (⟨.none,none,.fields #[],#[]⟩)))))))) (.node (boot_o_2 P) (.node (boot_o_4 P) (.node (boot_o_8 P) (.node (⟨.type "builtin_function_or_method",none,.fields #[Value.builtin "type.__prepare__",.type "type"],#[]⟩) (.node (⟨.none,none,.fields #[.int 6 0,.int 4 0,.ref 40],#[]⟩) (.node (Gh P) (.node (k5 P) (lf (o256 P)) .nil) (.node (o192 P) (lf (⟨.none,none,.fields #[],#[]⟩)) .nil)) (.node (CA P) (.node (l7 P) (lf (HE P)) .nil) (lf (o224 P)))) (.node (⟨.none,none,.fields #[],#[]⟩) (.node (BD P) (.node (o144 P) (lf (o272 P)) .nil) (.node (FX P) (lf (o336 P)) .nil)) (.node (o112 P) (.node (mf 34 (.none) 0 [] .none .none .none .none none .none .none 0) (lf (o304 P)) .nil) (lf (FO P))))) (.node (Mq P) (.node (Py P) (.node (tq []) (.node (mf 28 (.none) 0 [] .none .none .none .none none .none .none 0) (lf (mf 49 (.none) 0 [] .none .none .none .none none .none .none 0)) .nil) (.node (FE P) (lf (mf 59 (.none) 0 [] .none .none .none .none none .none .none 0)) .nil)) (.node (o104 P) (.node (FF P) (lf (o296 P)) .nil) (lf (o232 P)))) (.node (Ua P) (.node (o88 P) (.node (⟨.none,none,.fields #[],#[]⟩) (lf (⟨.none,none,.fields #[],#[]⟩)) .nil) (lf (mf 41 (.none) 0 [] .none .none .none .none none .none .none 0))) (.node (X9 P) (.node (o184 P) (lf (E1 P)) .nil) (lf (⟨.none,none,.fields #[],#[]⟩)))))) (.node (⟨.none,none,.fields #[.int 2 0,.int 0 0,.ref 20,.int 4 0,.int 0 0,.ref 33,.int 10 0,.int 0 0,.ref 52,.int 12 0,.int 0 0,.ref 59,.int 16 0,.int 0 0,.ref 66,.int 27 0,.int 0 0,.ref 82,.int 33 0,.int 0 0,.ref 87,.int 37 0,.int 0 0,.ref 92,.int 39 0,.int 0 0,.ref 99,.int 42 0,.int 0 0,.ref 104,.int 48 0,.int 0 0,.ref 111,.int 51 0,.int 0 0,.ref 116,.int 53 0,.int 0 0,.ref 123,.int 59 0,.int 0 0,.ref 130,.int 64 0,.int 0 0,.ref 137,.int 69 0,.int 0 0,.ref 144,.int 75 0,.int 0 0,.ref 149,.int 78 0,.int 0 0,.ref 156,.int 82 0,.int 0 0,.ref 163,.int 87 0,.int 0 0,.ref 170,.int 99 0,.int 0 0,.ref 177,.int 115 0,.int 0 0,.ref 184,.int 121 0,.int 0 0,.ref 191,.int 123 0,.int 0 0,.ref 196,.int 130 0,.int 0 0,.ref 203,.int 147 0,.int 0 0,.ref 210,.int 152 0,.int 0 0,.ref 217,.int 162 0,.int 0 0,.ref 224,.int 170 0,.int 0 0,.ref 231,.int 173 0,.int 0 0,.ref 238,.int 187 0,.int 0 0,.ref 245,.int 196 0,.int 0 0,.ref 250,.int 207 0,.int 0 0,.ref 255,.int 212 0,.int 0 0,.ref 260,.int 216 0,.int 0 0,.ref 265,.int 226 0,.int 0 0,.ref 272,.int 232 0,.int 0 0,.ref 277,.int 237 0,.int 0 0,.ref 284,.int 244 0,.int 0 0,.ref 291,.int 249 0,.int 0 0,.ref 296,.int 258 0,.int 0 0,.ref 303,.int 276 0,.int 0 0,.ref 310,.int 285 0,.int 0 0,.ref 317,.int 289 0,.int 0 0,.ref 324,.int 297 0,.int 0 0,.ref 329,.int 299 0,.int 0 0,.ref 336],#[]⟩) (.node (⟨.type "code",none,.fields #[.str "SayError" 191,.str "SayError" 192,.str "/claim/cut.py" 193,.int 2 0,.int 0 0,.int 0 0,.int 0 0,.int 0 0,.ref 18,.bool false,.int 181 0,.ref 19,.none,.none,.none,.none,.int 194 0,.int 2 0,.str "/claim/cut.py" 195],#[]⟩) (.node (⟨.none,none,.fields #[],#[]⟩) (.node (o68 P) (.node (A7 P) (lf (o260 P)) .nil) (.node (o196 P) (lf (o324 P)) .nil)) (.node (o100 P) (.node (o164 P) (lf (o292 P)) .nil) (lf (HS P)))) (.node (o52 P) (.node (Vw P) (.node (mf 30 (.none) 0 [] .none .none .none .none none .none .none 0) (lf (mf 51 (.none) 0 [] .none .none .none .none none .none .none 0)) .nil) (lf (E5 P))) (.node (o116 P) (.node (⟨.none,none,.fields #[],#[]⟩) (lf (I0 P)) .nil) (lf (mf 45 (.none) 0 [] .none .none .none .none none .none .none 0))))) (.node (No P) (.node (Ij P) (.node (o76 P) (.node (⟨.none,none,.fields #[],#[]⟩) (lf (⟨.none,none,.fields #[],#[]⟩)) .nil) (.node (o204 P) (lf (⟨.none,none,.fields #[],#[]⟩)) .nil)) (.node (S7 P) (.node (HZ P) (lf (L3 P)) .nil) (lf (Q4 P)))) (.node (o60 P) (.node (o92 P) (.node (o156 P) (lf (o284 P)) .nil) (lf (⟨.none,none,.fields #[],#[]⟩))) (.node (o124 P) (.node (Yt P) (lf (mf 57 (.none) 0 [] .none .none .none .none none .none .none 0)) .nil) (lf (CN P))))))) (.node (boot_o_6 P) (.node (boot_o_10 P) (.node (tq []) (.node (⟨.type "frame",none,.plain,#[some (.ref 33),some (.ref 3),some (.ref 30),none,some (.str "whens.errors" 187),none,some (.ref 0)]⟩) (.node (o66 P) (.node (o130 P) (lf (⟨.none,none,.fields #[],#[]⟩)) .nil) (.node (⟨.none,none,.fields #[],#[]⟩) (lf (Yu P)) .nil)) (.node (mf 18 (.none) 0 [] .none .none .none .none none .none .none 0) (.node (mf 32 (.none) 0 [] .none .none .none .none none .none .none 0) (lf (mf 53 (.none) 0 [] .none .none .none .none none .none .none 0)) .nil) (lf (D7 P)))) (.node (Fj P) (.node (o82 P) (.node (Uc P) (lf (R6 P)) .nil) (lf (o210 P))) (.node (⟨.none,none,.fields #[],#[]⟩) (.node (o178 P) (lf (⟨.none,none,.fields #[],#[]⟩)) .nil) (lf (FH P))))) (.node (⟨.type "super",none,.fields #[.ref 24,.ref 24,.ref 24],#[]⟩) (.node (Dd P) (.node (tq []) (.node (o138 P) (lf (o266 P)) .nil) (.node (mf 38 (.none) 0 [] .none .none .none .none none .none .none 0) (lf (o330 P)) .nil)) (.node (R3 P) (.node (o170 P) (lf (V2 P)) .nil) (lf (⟨.none,none,.fields #[],#[]⟩)))) (.node (mf 5 (.none) 0 [] .none .none .none .none none .none .none 0) (.node (⟨.none,none,.fields #[],#[]⟩) (.node (M5 P) (lf (Xe P)) .nil) (lf (o218 P))) (.node (mf 26 (.none) 0 [] .none .none .none .none none .none .none 0) (.node (B7 P) (lf (DP P)) .nil) (lf (o250 P)))))) (.node (⟨.type "frame",none,.plain,#[some (.ref 13),some (.ref 3),some (.ref 3),none,some (.str "__main__" 164),none,some (.ref 0)]⟩) (.node (Cn P) (.node (Nz P) (.node (tq []) (.node (Yq P) (lf (S2 P)) .nil) (.node (Zd P) (lf (f8 P)) .nil)) (.node (⟨.none,none,.fields #[],#[]⟩) (.node (⟨.none,none,.fields #[],#[]⟩) (lf (⟨.none,none,.fields #[],#[]⟩)) .nil) (lf (mf 43 (.none) 0 [] .none .none .none .none none .none .none 0)))) (.node (Ez P) (.node (mf 16 (.none) 0 [] .none .none .none .none none .none .none 0) (.node (o150 P) (lf (o278 P)) .nil) (lf (Xs P))) (.node (k4 P) (.node (GT P) (lf (o310 P)) .nil) (lf (o246 P))))) (.node (⟨.type "dict",none,.dict #[⟨PyData.keyHash P "__module__",.str "__module__" 214,.str "whens.errors" 187⟩,⟨PyData.keyHash P "__qualname__",.str "__qualname__" 216,.str "NoText" 215⟩,⟨PyData.keyHash P "__firstlineno__",.str "__firstlineno__" 218,.int 4 217⟩,⟨PyData.keyHash P "__init__",.str "__init__" 227,.ref 41⟩,⟨PyData.keyHash P "__static_attributes__",.str "__static_attributes__" 230,.ref 42⟩] 5,#[]⟩) (.node (⟨.type "builtin_function_or_method",none,.fields #[Value.builtin "object.__init_subclass__",.ref 44],#[]⟩) (.node (⟨.none,none,.fields #[],#[]⟩) (.node (Wb P) (lf (BA P)) .nil) (.node (⟨.none,none,.fields #[],#[]⟩) (lf (DX P)) .nil)) (.node (mf 24 (.none) 0 [] .none .none .none .none none .none .none 0) (.node (P6 P) (lf (mf 55 (.none) 0 [] .none .none .none .none none .none .none 0)) .nil) (lf (o238 P)))) (.node (⟨.none,none,.fields #[],#[]⟩) (.node (Zg P) (.node (HQ P) (lf (A2 P)) .nil) (lf (BP P))) (.node (⟨.none,none,.fields #[],#[]⟩) (.node (mf 36 (.none) 0 [] .none .none .none .none none .none .none 0) (lf (o318 P)) .nil) (lf (mf 47 (.none) 0 [] .none .none .none .none none .none .none 0)))))))))
def t0(P:Params):BT:=(.node (boot_o_0 P) (.node (boot_o_1 P) (.node (⟨.type "dict",none,.dict #[⟨PyData.keyHash P "__name__",.str "__name__" 165,.str "whens.words" 260⟩,⟨PyData.keyHash P "__doc__",.str "__doc__" 166,.none⟩,⟨PyData.keyHash P "__package__",.str "__package__" 167,.none⟩,⟨PyData.keyHash P "__loader__",.str "__loader__" 168,Value.builtin "__main__.__loader__#opaque"⟩,⟨PyData.keyHash P "__spec__",.str "__spec__" 169,.none⟩,⟨PyData.keyHash P "__annotations__",.str "__annotations__" 170,.ref 6⟩,⟨PyData.keyHash P "__builtins__",.str "__builtins__" 171,.ref 4⟩,⟨PyData.keyHash P "__file__",.str "__file__" 173,.str "/claim/cut.py" 172⟩,⟨PyData.keyHash P "__cached__",.str "__cached__" 174,.none⟩,⟨PyData.keyHash P "SayError",.str "SayError" 206,.ref 24⟩,⟨PyData.keyHash P "NoText",.str "NoText" 233,.ref 44⟩,⟨PyData.keyHash P "is_whole",.str "is_whole" 242,.ref 53⟩,⟨PyData.keyHash P "common",.str "common" 250,.ref 60⟩,⟨PyData.keyHash P "is_fraction",.str "is_fraction" 259,.ref 67⟩,⟨PyData.keyHash P "ORDER",.str "ORDER" 275,.ref 68⟩] 15,#[]⟩) (.node (boot_o_7 P) (.node (Po P) (.node (tq []) (lf (Sx P)) .nil) (lf (Ho P))) (.node (Kc P) (lf (mm 2 0 "NoText.__init__" (.none) 0 [] .none .none .none .none none .none .none 0)) (lf (⟨.none,none,.fields #[],#[]⟩)))) (.node (tq []) (.node (⟨.none,none,.fields #[],#[]⟩) (.node (Ph P) (lf (o67 P)) .nil) (lf (mf 4 (.none) 0 [] .none .none .none .none none .none .none 0))) (.node (⟨.type "builtin_function_or_method",none,.fields #[Value.builtin "object.__init_subclass__",.ref 24],#[]⟩) (lf (Lq P)) (lf (o59 P))))) (.node (boot_o_5 P) (.node (boot_o_9 P) (.node (⟨.type "dict",none,.dict #[⟨PyData.keyHash P "__module__",.str "__module__" 196,.str "whens.errors" 187⟩,⟨PyData.keyHash P "__qualname__",.str "__qualname__" 198,.str "SayError" 197⟩,⟨PyData.keyHash P "__firstlineno__",.str "__firstlineno__" 200,.int 2 199⟩,⟨PyData.keyHash P "__static_attributes__",.str "__static_attributes__" 201,.ref 22⟩] 4,#[]⟩) (.node (⟨.type "code",none,.fields #[.str "NoText" 209,.str "NoText" 210,.str "/claim/cut.py" 211,.int 4 0,.int 0 0,.int 0 0,.int 0 0,.int 0 0,.ref 31,.bool false,.int 181 0,.ref 32,.none,.none,.none,.none,.int 212 0,.int 4 0,.str "/claim/cut.py" 213],#[]⟩) (lf (mf 6 (.none) 0 [] .none .none .none .none none .none .none 0)) .nil) (lf (Jx P))) (.node (Fk P) (lf (Hn P)) (lf (Gb P)))) (.node (⟨.type "code",none,.fields #[.str "<module>" 182,.str "<module>" 183,.str "/claim/cut.py" 184,.int 1 0,.int 0 0,.int 0 0,.int 0 0,.int 0 0,.ref 11,.bool false,.int 181 0,.ref 12,.none,.none,.none,.none,.int 185 0,.int 1 0,.str "/claim/cut.py" 186],#[]⟩) (.node (⟨.type "frame",none,.plain,#[some (.ref 20),some (.ref 3),some (.ref 17),none,some (.str "whens.errors" 187),none,some (.ref 0)]⟩) (lf (Rk P)) (lf (o53 P))) (.node (⟨.type "builtin_function_or_method",none,.fields #[Value.builtin "type.__prepare__",.type "type"],#[]⟩) (lf (⟨.type "super",none,.fields #[.ref 44,.ref 44,.ref 44],#[]⟩)) (lf (Nc P)))))) (.node (boot_o_2 P) (.node (boot_o_4 P) (.node (boot_o_8 P) (.node (⟨.type "builtin_function_or_method",none,.fields #[Value.builtin "type.__prepare__",.type "type"],#[]⟩) (.node (⟨.none,none,.fields #[.int 6 0,.int 4 0,.ref 40],#[]⟩) (lf (Gh P)) .nil) (lf (⟨.none,none,.fields #[],#[]⟩))) (.node (Mq P) (lf (Py P)) (lf (Ua P)))) (.node (⟨.none,none,.fields #[.int 2 0,.int 0 0,.ref 20,.int 4 0,.int 0 0,.ref 33,.int 10 0,.int 0 0,.ref 52,.int 12 0,.int 0 0,.ref 59,.int 16 0,.int 0 0,.ref 66],#[]⟩) (.node (⟨.type "code",none,.fields #[.str "SayError" 191,.str "SayError" 192,.str "/claim/cut.py" 193,.int 2 0,.int 0 0,.int 0 0,.int 0 0,.int 0 0,.ref 18,.bool false,.int 181 0,.ref 19,.none,.none,.none,.none,.int 194 0,.int 2 0,.str "/claim/cut.py" 195],#[]⟩) (.node (⟨.none,none,.fields #[],#[]⟩) (lf (o68 P)) .nil) (lf (o52 P))) (.node (No P) (lf (Ij P)) (lf (o60 P))))) (.node (boot_o_6 P) (.node (boot_o_10 P) (.node (tq []) (.node (⟨.type "frame",none,.plain,#[some (.ref 33),some (.ref 3),some (.ref 30),none,some (.str "whens.errors" 187),none,some (.ref 0)]⟩) (lf (o66 P)) .nil) (lf (Fj P))) (.node (⟨.type "super",none,.fields #[.ref 24,.ref 24,.ref 24],#[]⟩) (lf (Dd P)) (lf (mf 5 (.none) 0 [] .none .none .none .none none .none .none 0)))) (.node (⟨.type "frame",none,.plain,#[some (.ref 13),some (.ref 3),some (.ref 3),none,some (.str "__main__" 164),none,some (.ref 0)]⟩) (.node (Cn P) (lf (Nz P)) (lf (Ez P))) (.node (⟨.type "dict",none,.dict #[⟨PyData.keyHash P "__module__",.str "__module__" 214,.str "whens.errors" 187⟩,⟨PyData.keyHash P "__qualname__",.str "__qualname__" 216,.str "NoText" 215⟩,⟨PyData.keyHash P "__firstlineno__",.str "__firstlineno__" 218,.int 4 217⟩,⟨PyData.keyHash P "__init__",.str "__init__" 227,.ref 41⟩,⟨PyData.keyHash P "__static_attributes__",.str "__static_attributes__" 230,.ref 42⟩] 5,#[]⟩) (lf (⟨.type "builtin_function_or_method",none,.fields #[Value.builtin "object.__init_subclass__",.ref 44],#[]⟩)) (lf (⟨.none,none,.fields #[],#[]⟩)))))))
def tB(P:Params):BT:=(.node (boot_o_0 P) (.node (boot_o_1 P) (.node (boot_o_3 P) (lf (boot_o_7 P)) (lf (tq []))) (.node (boot_o_5 P) (lf (boot_o_9 P)) (lf (⟨.type "code",none,.fields #[.str "<module>" 182,.str "<module>" 183,.str "/claim/cut.py" 184,.int 1 0,.int 0 0,.int 0 0,.int 0 0,.int 0 0,.ref 11,.bool false,.int 181 0,.ref 12,.none,.none,.none,.none,.int 185 0,.int 1 0,.str "/claim/cut.py" 186],#[]⟩)))) (.node (boot_o_2 P) (.node (boot_o_4 P) (lf (boot_o_8 P)) (lf (⟨.none,none,.fields #[],#[]⟩))) (.node (boot_o_6 P) (lf (boot_o_10 P)) (lf (⟨.type "frame",none,.plain,#[some (.ref 13),some (.ref 3),some (.ref 3),none,some (.str "__main__" 164),none,some (.ref 0)]⟩)))))
def env0:Env:={scope:=prog.main.scope,locals:=mainNs,globals:=mainNs,cells:=[],code:=.ref 13,frame:=some 14}
def kG(a n:Nat):List Stmt:=(prog.main.body.drop a).take n
end H17
set_option maxHeartbeats 0
namespace H17
open PySem PySem.W HD
abbrev T0(w:World)(os:OsState):SharedT:=⟨t0 w.params,69,{},⟨[]⟩,{},276,os⟩
abbrev D0:Obj:={cls:=.type "dict",data:=.dict #[]}
abbrev tp(vs:List Value):Obj:={cls:=.type "tuple",data:=.seq vs.toArray}
abbrev T1(w:World)(os:OsState):SharedT:=⟨(t0 w.params).ins 69 D0,70,{},⟨[]⟩,{},276,os⟩
def yI(P:Params):BT:=(((((((t0 P).ins 69 D0).ins 70 (tp [.str "point" 276,.str "point" 277])).ins 71 (tp [.str "ahead" 278,.str "same" 279,.str "behind" 280])).ins 72 (tp [.str "point" 281,.str "stretch" 282])).ins 73 (tp [.str "ahead" 283,.str "begins" 284,.str "within" 285,.str "ends" 286,.str "behind" 287])).ins 74 (tp [.str "stretch" 288,.str "point" 289])).ins 75 (tp [.str "ahead" 290,.str "ended" 291,.str "holds" 292,.str "begun" 293,.str "behind" 294])
abbrev dO(es:List DictEntry):Obj:={cls:=.type "dict",data:=.dict es.toArray es.length}
abbrev TD(es:Params->List DictEntry)(w:World)(os:OsState)(k:Nat):SharedT:=⟨(yI w.params).ins 69 (dO (es w.params)),76,{},⟨[]⟩,{},k,os⟩
abbrev fZ:Params->List DictEntry:=fun _=>[]
abbrev dp:Pos:=⟨25,14,25,204⟩
theorem Wd:st=.Assign [.Name "POINT_WORDS" (vK st)] (.Dict (pJ st) (oO st) (nW st)) (yR st):=by kernel_rfl
section
variable (w:World)(os:OsState)(p:Program)(b:List Stmt)
abbrev RR{α:Type}(N:Nat)(m:Sem α)(s:SharedT)(pos:Pos)(a:α)(s':SharedT)(pos':Pos):Prop:=R N treeTable p w 11 (some (Value.ref 6)) (Code.body b env0) [topFrame q0] m s.abs pos a s'.abs pos'
theorem z3:RR w p b 34 (evalPairs (pairTrees (pJ st) (oO st) env0 (nW st))) (T1 w os) dp [(.ref 70,.ref 71),(.ref 72,.ref 73),(.ref 74,.ref 75)] (TD fZ w os 295) dp :=
 R.leaf 34 fun K H gd lv=>by kernel_rfl
end
abbrev kh(P:Params)(z:Str):Int:=PyData.keyHash P z
def i1(P:Params):Int:=Builtin.Tuple.tupleHashOf [kh P "point",kh P "point"]
def i2(P:Params):Int:=Builtin.Tuple.tupleHashOf [kh P "point",kh P "stretch"]
def i3(P:Params):Int:=Builtin.Tuple.tupleHashOf [kh P "stretch",kh P "point"]
def e1(P:Params):DictEntry:=⟨reduceHash (i1 P),.ref 70,.ref 71⟩
def e2(P:Params):DictEntry:=⟨reduceHash (i2 P),.ref 72,.ref 73⟩
def e3(P:Params):DictEntry:=⟨reduceHash (i3 P),.ref 74,.ref 75⟩
abbrev gI:Params->List DictEntry:=fun P=>[e1 P]
abbrev gS:Params->List DictEntry:=fun P=>[e1 P,e2 P]
abbrev Gr:Params->List DictEntry:=fun P=>[e1 P,e2 P,e3 P]
abbrev row:String:="special-get-raises"
section
variable (v:World)(os:OsState)(p:Program)(b:List Stmt)
theorem mJ(w:World)(t:String)(sT:SharedT)(pos:Pos):RR w p b 1 (rule t) sT pos () sT pos:=R.leaf 1 fun K H gd lv=>by
 obtain⟨T,n,l,g,d,k,o⟩:=sT;rfl
theorem lF(w:World)(i:Int)(sT:SharedT)(pos:Pos):RR w p b 1 (pyHashByItsType.reduced i) sT pos (reduceHash i) sT pos:=by
 unfold pyHashByItsType.reduced reduceHash
 by_cases hr:(decide (-(2:Int)^63<=i)&&decide (i<2^63))=true
 ·rw[if_pos hr,if_pos hr];exact R.mono (by decide) R.pure
 ·rw[if_neg hr,if_neg hr];exact R.mono (N1:=1+0) (by decide) (R.bind (mJ p b w _ sT pos) R.pure)
theorem X7:RR (v.withFollow row false) p b 26 (pyHash (.ref 70)) (TD fZ (v.withFollow row false) os 295) dp (reduceHash (i1 (v.withFollow row false).params)) (TD fZ (v.withFollow row false) os 298) dp:=by
 unfold pyHash pyHashByItsType;refine R.mono (N1:=1+(1+(1+(22+1)))) (by decide) (R.bind (R.leaf (sT':=(TD fZ (v.withFollow row false) os 295)) (a:=()) (pos':=dp) 1 fun K H gd lv=>by rw[Fast.te10295753902157049106,Fast.te14364793385576792824];kernel_rfl) ?_)
 refine R.bind (R.leaf (sT':=(TD fZ (v.withFollow row false) os 295)) (a:=some (.builtin "tuple.__hash__")) (pos':=dp) 1 fun K H gd lv=>by rw[Fast.te10295753902157049106,Fast.te14364793385576792824];kernel_rfl) ?_
 rw[if_neg (by decide)]
 refine R.bind (R.leaf (sT':=(TD fZ (v.withFollow row false) os 295)) (a:=some (.builtin "tuple.__hash__")) (pos':=dp) 1 fun K H gd lv=>by rw[Fast.te10295753902157049106,Fast.te14364793385576792824];kernel_rfl) ?_
 rw[if_neg (by decide)]
 refine R.bind (R.leaf (sT':=(TD fZ (v.withFollow row false) os 298)) (a:=some (.int (i1 (v.withFollow row false).params) 297)) (pos':=dp) 22 fun K H gd lv=>by rw[Fast.te10295753902157049106,Fast.te14364793385576792824];kernel_rfl) ?_
 exact lF p b _ _ _ _
theorem R1:RR (v.withFollow row true) p b 26 (pyHash (.ref 70)) (TD fZ (v.withFollow row true) os 295) dp (reduceHash (i1 (v.withFollow row true).params)) (TD fZ (v.withFollow row true) os 298) dp:=by
 unfold pyHash pyHashByItsType;refine R.mono (N1:=1+(1+(1+(22+1)))) (by decide) (R.bind (R.leaf (sT':=(TD fZ (v.withFollow row true) os 295)) (a:=()) (pos':=dp) 1 fun K H gd lv=>by rw[Fast.te10295753902157049106,Fast.te14364793385576792824];kernel_rfl) ?_)
 refine R.bind (R.leaf (sT':=(TD fZ (v.withFollow row true) os 295)) (a:=some (.builtin "tuple.__hash__")) (pos':=dp) 1 fun K H gd lv=>by rw[Fast.te10295753902157049106,Fast.te14364793385576792824];kernel_rfl) ?_
 rw[if_neg (by decide)]
 refine R.bind (R.leaf (sT':=(TD fZ (v.withFollow row true) os 295)) (a:=some (.builtin "tuple.__hash__")) (pos':=dp) 1 fun K H gd lv=>by rw[Fast.te10295753902157049106,Fast.te14364793385576792824];kernel_rfl) ?_
 rw[if_neg (by decide)]
 refine R.bind (R.leaf (sT':=(TD fZ (v.withFollow row true) os 298)) (a:=some (.int (i1 (v.withFollow row true).params) 297)) (pos':=dp) 22 fun K H gd lv=>by rw[Fast.te10295753902157049106,Fast.te14364793385576792824];kernel_rfl) ?_
 exact lF p b _ _ _ _
theorem Zl:RR (v.withFollow row false) p b 26 (pyHash (.ref 72)) (TD gI (v.withFollow row false) os 298) dp (reduceHash (i2 (v.withFollow row false).params)) (TD gI (v.withFollow row false) os 301) dp:=by
 unfold pyHash pyHashByItsType;refine R.mono (N1:=1+(1+(1+(22+1)))) (by decide) (R.bind (R.leaf (sT':=(TD gI (v.withFollow row false) os 298)) (a:=()) (pos':=dp) 1 fun K H gd lv=>by rw[Fast.te10295753902157049106,Fast.te14364793385576792824];kernel_rfl) ?_)
 refine R.bind (R.leaf (sT':=(TD gI (v.withFollow row false) os 298)) (a:=some (.builtin "tuple.__hash__")) (pos':=dp) 1 fun K H gd lv=>by rw[Fast.te10295753902157049106,Fast.te14364793385576792824];kernel_rfl) ?_
 rw[if_neg (by decide)]
 refine R.bind (R.leaf (sT':=(TD gI (v.withFollow row false) os 298)) (a:=some (.builtin "tuple.__hash__")) (pos':=dp) 1 fun K H gd lv=>by rw[Fast.te10295753902157049106,Fast.te14364793385576792824];kernel_rfl) ?_
 rw[if_neg (by decide)]
 refine R.bind (R.leaf (sT':=(TD gI (v.withFollow row false) os 301)) (a:=some (.int (i2 (v.withFollow row false).params) 300)) (pos':=dp) 22 fun K H gd lv=>by rw[Fast.te10295753902157049106,Fast.te14364793385576792824];kernel_rfl) ?_
 exact lF p b _ _ _ _
theorem M0:RR (v.withFollow row true) p b 26 (pyHash (.ref 72)) (TD gI (v.withFollow row true) os 298) dp (reduceHash (i2 (v.withFollow row true).params)) (TD gI (v.withFollow row true) os 301) dp:=by
 unfold pyHash pyHashByItsType;refine R.mono (N1:=1+(1+(1+(22+1)))) (by decide) (R.bind (R.leaf (sT':=(TD gI (v.withFollow row true) os 298)) (a:=()) (pos':=dp) 1 fun K H gd lv=>by rw[Fast.te10295753902157049106,Fast.te14364793385576792824];kernel_rfl) ?_)
 refine R.bind (R.leaf (sT':=(TD gI (v.withFollow row true) os 298)) (a:=some (.builtin "tuple.__hash__")) (pos':=dp) 1 fun K H gd lv=>by rw[Fast.te10295753902157049106,Fast.te14364793385576792824];kernel_rfl) ?_
 rw[if_neg (by decide)]
 refine R.bind (R.leaf (sT':=(TD gI (v.withFollow row true) os 298)) (a:=some (.builtin "tuple.__hash__")) (pos':=dp) 1 fun K H gd lv=>by rw[Fast.te10295753902157049106,Fast.te14364793385576792824];kernel_rfl) ?_
 rw[if_neg (by decide)]
 refine R.bind (R.leaf (sT':=(TD gI (v.withFollow row true) os 301)) (a:=some (.int (i2 (v.withFollow row true).params) 300)) (pos':=dp) 22 fun K H gd lv=>by rw[Fast.te10295753902157049106,Fast.te14364793385576792824];kernel_rfl) ?_
 exact lF p b _ _ _ _
theorem A5:RR (v.withFollow row false) p b 26 (pyHash (.ref 74)) (TD gS (v.withFollow row false) os 301) dp (reduceHash (i3 (v.withFollow row false).params)) (TD gS (v.withFollow row false) os 304) dp:=by
 unfold pyHash pyHashByItsType;refine R.mono (N1:=1+(1+(1+(22+1)))) (by decide) (R.bind (R.leaf (sT':=(TD gS (v.withFollow row false) os 301)) (a:=()) (pos':=dp) 1 fun K H gd lv=>by rw[Fast.te10295753902157049106,Fast.te14364793385576792824];kernel_rfl) ?_)
 refine R.bind (R.leaf (sT':=(TD gS (v.withFollow row false) os 301)) (a:=some (.builtin "tuple.__hash__")) (pos':=dp) 1 fun K H gd lv=>by rw[Fast.te10295753902157049106,Fast.te14364793385576792824];kernel_rfl) ?_
 rw[if_neg (by decide)]
 refine R.bind (R.leaf (sT':=(TD gS (v.withFollow row false) os 301)) (a:=some (.builtin "tuple.__hash__")) (pos':=dp) 1 fun K H gd lv=>by rw[Fast.te10295753902157049106,Fast.te14364793385576792824];kernel_rfl) ?_
 rw[if_neg (by decide)]
 refine R.bind (R.leaf (sT':=(TD gS (v.withFollow row false) os 304)) (a:=some (.int (i3 (v.withFollow row false).params) 303)) (pos':=dp) 22 fun K H gd lv=>by rw[Fast.te10295753902157049106,Fast.te14364793385576792824];kernel_rfl) ?_
 exact lF p b _ _ _ _
theorem D1:RR (v.withFollow row true) p b 26 (pyHash (.ref 74)) (TD gS (v.withFollow row true) os 301) dp (reduceHash (i3 (v.withFollow row true).params)) (TD gS (v.withFollow row true) os 304) dp:=by
 unfold pyHash pyHashByItsType;refine R.mono (N1:=1+(1+(1+(22+1)))) (by decide) (R.bind (R.leaf (sT':=(TD gS (v.withFollow row true) os 301)) (a:=()) (pos':=dp) 1 fun K H gd lv=>by rw[Fast.te10295753902157049106,Fast.te14364793385576792824];kernel_rfl) ?_)
 refine R.bind (R.leaf (sT':=(TD gS (v.withFollow row true) os 301)) (a:=some (.builtin "tuple.__hash__")) (pos':=dp) 1 fun K H gd lv=>by rw[Fast.te10295753902157049106,Fast.te14364793385576792824];kernel_rfl) ?_
 rw[if_neg (by decide)]
 refine R.bind (R.leaf (sT':=(TD gS (v.withFollow row true) os 301)) (a:=some (.builtin "tuple.__hash__")) (pos':=dp) 1 fun K H gd lv=>by rw[Fast.te10295753902157049106,Fast.te14364793385576792824];kernel_rfl) ?_
 rw[if_neg (by decide)]
 refine R.bind (R.leaf (sT':=(TD gS (v.withFollow row true) os 304)) (a:=some (.int (i3 (v.withFollow row true).params) 303)) (pos':=dp) 22 fun K H gd lv=>by rw[Fast.te10295753902157049106,Fast.te14364793385576792824];kernel_rfl) ?_
 exact lF p b _ _ _ _
end
section
variable (v:World)(bb:Bool)(os:OsState)(p:Program)(b:List Stmt)
abbrev TX(es:List DictEntry)(w:World)(os:OsState)(k:Nat):SharedT:=⟨(yI w.params).ins 69 (dO es),76,{},⟨[]⟩,{},k,os⟩
theorem x8(w:World)(x:Int):RR w p b 5 (dictSetHashed 69 (.ref 70) x (.ref 71)) (TX [] w os 298) dp () (TX [⟨x,.ref 70,.ref 71⟩] w os 298) dp :=
 R.leaf 5 fun K H gd lv=>by rw[Fast.te10295753902157049106,Fast.te14364793385576792824,Fast.te4359058424727691002];kernel_rfl
theorem i9(x y:Int)(k v:Value):placesWithHash (#[⟨x,k,v⟩]:Array DictEntry).size (fun i=>(#[⟨x,k,v⟩]:Array DictEntry)[i]?.map (·.hash)) y=if x=y then [0] else []:=by
 by_cases h:x=y<;>simp[placesWithHash,List.range_succ,h]
theorem R5(x x' y:Int)(k v k' v':Value):placesWithHash (#[⟨x,k,v⟩,⟨x',k',v'⟩]:Array DictEntry).size (fun i=>(#[⟨x,k,v⟩,⟨x',k',v'⟩]:Array DictEntry)[i]?.map (·.hash)) y=(if x=y then [0] else [])++(if x'=y then [1] else []):=by
 by_cases h:x=y<;>by_cases h':x'=y<;>simp[placesWithHash,List.range_succ,h,h']
theorem C1(x y:Int):RR (v.withFollow row bb) p b 31 (dictFind 69 (.ref 72) y) (TX [⟨x,.ref 70,.ref 71⟩] (v.withFollow row bb) os 301) dp none (TX [⟨x,.ref 70,.ref 71⟩] (v.withFollow row bb) os 301) dp:=by
 unfold dictFind;refine R.hold (R.bind (N1:=1) (N2:=30) (R.leaf (sT':=TX [⟨x,.ref 70,.ref 71⟩] (v.withFollow row bb) os 301) (a:=#[⟨x,.ref 70,.ref 71⟩]) (pos':=dp) 1 fun K H gd lv=>by rw[Fast.te10295753902157049106,Fast.te14364793385576792824];kernel_rfl) ?_)
 have e:=i9 x y (.ref 70) (.ref 71)
 by_cases h:x=y
 ·subst h;rw[if_pos rfl]at e;rw[e];simp[carriedByValue,-bind_pure_comp,-map_pure];refine R.mono (N1:=6+(1+(20+(1+(1+0))))) (by decide) (R.bind (R.leaf (sT':=TX [⟨x,.ref 70,.ref 71⟩] (v.withFollow row bb) os 301) (a:=false) (pos':=dp) 6 fun K H gd lv=>by rw[Fast.te10295753902157049106,Fast.te14364793385576792824,Fast.te11445937954039399578];cases bb<;>kernel_rfl) ?_)
  refine R.bind (R.leaf (sT':=TX [⟨x,.ref 70,.ref 71⟩] (v.withFollow row bb) os 301) (a:=1) (pos':=dp) 1 fun K H gd lv=>by rw[Fast.te10295753902157049106,Fast.te14364793385576792824];kernel_rfl) ?_
  refine R.bind (R.leaf (sT':=TX [⟨x,.ref 70,.ref 71⟩] (v.withFollow row bb) os 301) (a:=false) (pos':=dp) 20 fun K H gd lv=>by rw[Fast.te10295753902157049106,Fast.te14364793385576792824,Fast.te13926502685295537346];cases bb<;>kernel_rfl) ?_
  refine R.bind (R.leaf (sT':=TX [⟨x,.ref 70,.ref 71⟩] (v.withFollow row bb) os 301) (a:=1) (pos':=dp) 1 fun K H gd lv=>by rw[Fast.te10295753902157049106,Fast.te14364793385576792824];kernel_rfl) ?_
  simp[-bind_pure_comp,-map_pure];exact R.mono (N1:=1+0) (by decide) (R.bind (mJ p b _ _ _ _) R.pure)
 ·rw[if_neg h]at e;rw[e];exact R.mono (by decide) (R.leaf 0 fun K H gd lv=>by kernel_rfl)
end
section
variable (v:World)(bb:Bool)(os:OsState)(p:Program)(b:List Stmt)(x x':Int)
abbrev TY(x x':Int)(w:World)(os:OsState):SharedT:=TX [⟨x,.ref 70,.ref 71⟩,⟨x',.ref 72,.ref 73⟩] w os 304
theorem jN(w:World):RR w p b 1 (dictEpoch 69 (keyPart (.ref 74))) (TY x x' w os) dp 2 (TY x x' w os) dp:=R.leaf 1 fun K H gd lv=>by rw[Fast.te10295753902157049106,Fast.te14364793385576792824];kernel_rfl
theorem Il:RR (v.withFollow row bb) p b 16 (eqBool (.ref 70) (.ref 74)) (TY x x' (v.withFollow row bb) os) dp false (TY x x' (v.withFollow row bb) os) dp:=R.leaf 16 fun K H gd lv=>by rw[Fast.te10295753902157049106,Fast.te14364793385576792824,Fast.te13926502685295537346];cases bb<;>kernel_rfl
theorem Rp:RR (v.withFollow row bb) p b 16 (eqBool (.ref 72) (.ref 74)) (TY x x' (v.withFollow row bb) os) dp false (TY x x' (v.withFollow row bb) os) dp:=R.leaf 16 fun K H gd lv=>by rw[Fast.te10295753902157049106,Fast.te14364793385576792824,Fast.te13926502685295537346];cases bb<;>kernel_rfl
theorem GI:RR (v.withFollow row bb) p b 9 (tableMayTell (.ref 74) [.ref 70,.ref 72]) (TY x x' (v.withFollow row bb) os) dp false (TY x x' (v.withFollow row bb) os) dp:=R.leaf 9 fun K H gd lv=>by rw[Fast.te10295753902157049106,Fast.te14364793385576792824,Fast.te11445937954039399578];cases bb<;>kernel_rfl
theorem Up:RR (v.withFollow row bb) p b 6 (tableMayTell (.ref 74) [.ref 70]) (TY x x' (v.withFollow row bb) os) dp false (TY x x' (v.withFollow row bb) os) dp:=R.leaf 6 fun K H gd lv=>by rw[Fast.te10295753902157049106,Fast.te14364793385576792824,Fast.te11445937954039399578];cases bb<;>kernel_rfl
theorem d8:RR (v.withFollow row bb) p b 6 (tableMayTell (.ref 74) [.ref 72]) (TY x x' (v.withFollow row bb) os) dp false (TY x x' (v.withFollow row bb) os) dp:=R.leaf 6 fun K H gd lv=>by rw[Fast.te10295753902157049106,Fast.te14364793385576792824,Fast.te11445937954039399578];cases bb<;>kernel_rfl
theorem Vx(y:Int):RR (v.withFollow row bb) p b 101 (dictFind 69 (.ref 74) y) (TY x x' (v.withFollow row bb) os) dp none (TY x x' (v.withFollow row bb) os) dp:=by
 unfold dictFind;refine R.hold (R.bind (N1:=1) (N2:=100) (R.leaf (sT':=TY x x' (v.withFollow row bb) os) (a:=#[⟨x,.ref 70,.ref 71⟩,⟨x',.ref 72,.ref 73⟩]) (pos':=dp) 1 fun K H gd lv=>by rw[Fast.te10295753902157049106,Fast.te14364793385576792824];kernel_rfl) ?_)
 have e:=R5 x x' y (.ref 70) (.ref 71) (.ref 72) (.ref 73)
 by_cases h:x=y<;>by_cases h':x'=y
 ·subst h;rw[if_pos rfl,if_pos h']at e;rw[e];simp[carriedByValue,-bind_pure_comp,-map_pure,h'];refine R.mono (N1:=9+(1+(16+(1+(1+(1+(16+(1+(1+0))))))))) (by decide) (R.bind (GI v bb os p b x x) ?_)
  rw[if_neg (by decide)]
  refine R.bind (jN os p b x x _) (R.bind (Il v bb os p b x x) (R.bind (jN os p b x x _) ?_));simp[-bind_pure_comp,-map_pure];refine R.mono (N1:=1+(1+(16+(1+(1+0))))) (by decide) (R.bind (mJ p b _ _ _ _) ?_)
  refine R.bind (jN os p b x x _) (R.bind (Rp v bb os p b x x) (R.bind (jN os p b x x _) ?_));simp[-bind_pure_comp,-map_pure];exact R.mono (N1:=1+0) (by decide) (R.bind (mJ p b _ _ _ _) R.pure)
 ·subst h;rw[if_pos rfl,if_neg h']at e;rw[e];simp[carriedByValue,-bind_pure_comp,-map_pure];refine R.mono (N1:=6+(1+(16+(1+(1+0))))) (by decide) (R.bind (Up v bb os p b x x') ?_)
  refine R.bind (jN os p b x x' _) (R.bind (Il v bb os p b x x') (R.bind (jN os p b x x' _) ?_));simp[-bind_pure_comp,-map_pure];exact R.mono (N1:=1+0) (by decide) (R.bind (mJ p b _ _ _ _) R.pure)
 ·subst h';rw[if_neg h,if_pos rfl]at e;rw[e];simp[carriedByValue,-bind_pure_comp,-map_pure];refine R.mono (N1:=6+(1+(16+(1+(1+0))))) (by decide) (R.bind (d8 v bb os p b x x') ?_)
  refine R.bind (jN os p b x x' _) (R.bind (Rp v bb os p b x x') (R.bind (jN os p b x x' _) ?_));simp[-bind_pure_comp,-map_pure];exact R.mono (N1:=1+0) (by decide) (R.bind (mJ p b _ _ _ _) R.pure)
 ·rw[if_neg h,if_neg h']at e;rw[e];exact R.mono (by decide) (R.leaf 0 fun K H gd lv=>by kernel_rfl)
theorem x5(y:Int):RR (v.withFollow row bb) p b 35 (dictSetHashed 69 (.ref 72) y (.ref 73)) (TX [⟨x,.ref 70,.ref 71⟩] (v.withFollow row bb) os 301) dp () (TX [⟨x,.ref 70,.ref 71⟩,⟨y,.ref 72,.ref 73⟩] (v.withFollow row bb) os 301) dp:=by
 unfold dictSetHashed;refine R.hold (R.bind (N1:=31) (N2:=4) (C1 v bb os p b x y) ?_);exact R.leaf 4 fun K H gd lv=>by rw[Fast.te10295753902157049106,Fast.te14364793385576792824];kernel_rfl
theorem Vk(y:Int):RR (v.withFollow row bb) p b 105 (dictSetHashed 69 (.ref 74) y (.ref 75)) (TY x x' (v.withFollow row bb) os) dp () (TX [⟨x,.ref 70,.ref 71⟩,⟨x',.ref 72,.ref 73⟩,⟨y,.ref 74,.ref 75⟩] (v.withFollow row bb) os 304) dp:=by
 unfold dictSetHashed;refine R.hold (R.bind (N1:=101) (N2:=4) (Vx v bb os p b x x' y) ?_);exact R.leaf 4 fun K H gd lv=>by rw[Fast.te10295753902157049106,Fast.te14364793385576792824];kernel_rfl
end
section
variable (v:World)(bb:Bool)(os:OsState)(p:Program)(b:List Stmt)
abbrev p5:Pos:=⟨24,0,24,5⟩
abbrev sp:Pos:=⟨25,0,25,204⟩
abbrev px:Pos:=⟨25,0,25,11⟩
abbrev dE(P:Params):List DictEntry:=[⟨reduceHash (i1 P),.ref 70,.ref 71⟩,⟨reduceHash (i2 P),.ref 72,.ref 73⟩,⟨reduceHash (i3 P),.ref 74,.ref 75⟩]
def z8(P:Params)(es:List DictEntry):BT:=((yI P).ins 69 (dO es)).set 3 (Obj.putName "POINT_WORDS" (kh P "POINT_WORDS") (.str "POINT_WORDS" 304) (.ref 69))
abbrev T6(es:List DictEntry)(w:World)(os:OsState):SharedT:=⟨z8 w.params es,76,{},⟨[]⟩,{},305,os⟩
theorem zA(w:World)(sT:SharedT)(q q':Pos):RR w p b 1 (standAt q') sT q () sT q':=R.leaf 1 fun K H gd lv=>by
 obtain⟨T,n,l,g,d,k,o⟩:=sT;rfl
theorem Z4:RR (v.withFollow row bb) p b 26 (pyHash (.ref 70)) (TX [] (v.withFollow row bb) os 295) dp (reduceHash (i1 (v.withFollow row bb).params)) (TX [] (v.withFollow row bb) os 298) dp:=by
 cases bb
 ·exact X7 v os p b
 ·exact R1 v os p b
theorem O4:RR (v.withFollow row bb) p b 26 (pyHash (.ref 72)) (TX [e1 (v.withFollow row bb).params] (v.withFollow row bb) os 298) dp (reduceHash (i2 (v.withFollow row bb).params)) (TX [e1 (v.withFollow row bb).params] (v.withFollow row bb) os 301) dp:=by
 cases bb
 ·exact Zl v os p b
 ·exact M0 v os p b
theorem i4:RR (v.withFollow row bb) p b 26 (pyHash (.ref 74)) (TX [e1 (v.withFollow row bb).params,e2 (v.withFollow row bb).params] (v.withFollow row bb) os 301) dp (reduceHash (i3 (v.withFollow row bb).params)) (TX [e1 (v.withFollow row bb).params,e2 (v.withFollow row bb).params] (v.withFollow row bb) os 304) dp:=by
 cases bb
 ·exact A5 v os p b
 ·exact D1 v os p b
theorem FD(w:World)(es:List DictEntry):RR w p b 6 (bindName env0 "POINT_WORDS" (.ref 69)) (TX es w os 304) px () (T6 es w os) px:=R.leaf 6 fun K H gd lv=>by rw[Fast.te10295753902157049106,Fast.te14364793385576792824,Fast.te7536695828754713326];kernel_rfl
theorem DD(w:World):RR w p b 1 (alloc D0) (T0 w os) dp 69 (T1 w os) dp:=R.leaf 1 fun K H gd lv=>by kernel_rfl
theorem Gg:nW st=dp:=by kernel_rfl
theorem t5:vK st=px:=by kernel_rfl
theorem sp_is:yR st=sp:=by kernel_rfl
theorem Ly:RR (v.withFollow row bb) p b 300 (exec st env0) (T0 (v.withFollow row bb) os) p5 .next (T6 (dE (v.withFollow row bb).params) (v.withFollow row bb) os) px:=by
 rw[Wd,exec_Assign_Name (env:=env0) "POINT_WORDS" (vK st) (.Dict (pJ st) (oO st) (nW st)) (yR st) (by rfl),sp_is,t5]
 refine R.mono (N1:=1+(292+(1+(6+0)))) (by decide) (R.bind (zA p b _ _ _ _) (R.bind (a:=.ref 69) (pos1:=dp) ?_ (R.bind (zA p b _ _ _ _) (R.bind (FD os p b _ _) R.pure))))
 rw[arm_eval_Dict,zip_pairTrees (pJ st) (oO st) env0 (nW st) (by kernel_rfl) (by kernel_rfl),dictDisplay_pairs _ (fun h=>by have:=congrArg List.length h;rw[pairTrees_length _ _ _ _ (by kernel_rfl) (by kernel_rfl)]at this;exact absurd this (by decide)) (by rw[pairTrees_length _ _ _ _ (by kernel_rfl) (by kernel_rfl)];decide)]
 rw[Gg];refine R.bind (N1:=1) (N2:=291) (zA p b _ _ _ _) (R.bind (N1:=291) (N2:=0) (a:=69) (pos1:=dp) ?_ R.pure);unfold subDict;refine R.bind (N1:=1) (N2:=290) (DD os p b _) (R.bind (N1:=290) (N2:=0) (a:=()) (pos1:=dp) (R.hold ?_) R.pure);rw[if_pos (by rw[pairTrees_length _ _ _ _ (by kernel_rfl) (by kernel_rfl)];decide)]
 have pr:=z3 (v.withFollow row bb) os p b
 rw[Gg]at pr;refine R.bind (N1:=34) (N2:=256) pr (R.hold ?_);simp only[List.forIn_cons,List.forIn_nil,bind_assoc,pure_bind];refine R.mono (N1:=26+5+(26+35+(26+105+0))) (by decide) (R.bind (R.hold (R.bind (Z4 v bb os p b) (x8 os p b _ _))) ?_)
 refine R.bind (R.hold (R.bind (O4 v bb os p b) (x5 v bb os p b _ _))) ?_;refine R.bind (R.hold (R.bind (i4 v bb os p b) (Vk v bb os p b _ _ _))) ?_;exact R.pure
end
end H17
set_option maxHeartbeats 0
namespace H17
open PySem PySem.W HD
def ov(es:List DictEntry)(t:BT):BT:=((((((t.ins 69 (dO es)).ins 70 (tp [.str "point" 276,.str "point" 277])).ins 71 (tp [.str "ahead" 278,.str "same" 279,.str "behind" 280])).ins 72 (tp [.str "point" 281,.str "stretch" 282])).ins 73 (tp [.str "ahead" 283,.str "begins" 284,.str "within" 285,.str "ends" 286,.str "behind" 287])).ins 74 (tp [.str "stretch" 288,.str "point" 289])).ins 75 (tp [.str "ahead" 290,.str "ended" 291,.str "holds" 292,.str "begun" 293,.str "behind" 294])
abbrev TV(es:List DictEntry)(t:BT)(n k:Nat)(os:OsState):SharedT:=⟨ov es t,n,{},⟨[]⟩,{},k,os⟩
abbrev SB(w:World)(os:OsState):SharedT:=⟨tB w.params,15,{},⟨[]⟩,{},187,os⟩
abbrev cB(b:List Stmt):Code:=Code.body b env0
section
variable (w:World)(p:Program)(b:List Stmt)(os:OsState)
theorem O9:segRunT treeTable p w 11 (some (.ref 6)) 1 574 (SB w os) (piecesOf (kG 0 9) env0 (cB b) q0 [topFrame q0])=some (.next,T0 w os,cB b,⟨24,0,24,5⟩):=by
 refine byRow2 "special-get-raises" (P:=fun w=>segRunT treeTable p w 11 (some (.ref 6)) 1 574 (SB w os) (piecesOf (kG 0 9) env0 (cB b) q0 [topFrame q0])=some (.next,T0 w os,cB b,⟨24,0,24,5⟩)) (fun w=>?_) (fun w=>?_) w
 ·rw[Fast.te10110043849684766642,Fast.te14364793385576792824];kernel_rfl
 ·rw[Fast.te10110043849684766642,Fast.te14364793385576792824];kernel_rfl
variable (es:List DictEntry)
theorem b9:segRunT treeTable p w 11 (some (.ref 6)) 1 1382 (T6 es w os) (piecesOf (kG 10 51) env0 (cB b) ⟨25,0,25,11⟩ [topFrame q0])=some (.next,TV es (tF w.params) 338 714 os,cB b,⟨299,0,322,15⟩):=by
 refine byRow2 "special-get-raises" (P:=fun w=>segRunT treeTable p w 11 (some (.ref 6)) 1 1382 (T6 es w os) (piecesOf (kG 10 51) env0 (cB b) ⟨25,0,25,11⟩ [topFrame q0])=some (.next,TV es (tF w.params) 338 714 os,cB b,⟨299,0,322,15⟩)) (fun w=>?_) (fun w=>?_) w
 ·rw[Fast.te10110043849684766642,Fast.te14364793385576792824];kernel_rfl
 ·rw[Fast.te10110043849684766642,Fast.te14364793385576792824];kernel_rfl
end
abbrev bE:List Stmt:=behindTheImports prog
theorem EM:bE=kG 0 9++(st::(kG 10 51++[])):=by kernel_rfl
section
variable (w:World)(os:OsState)
theorem S1:topGo treeTable prog w 11 (some (.ref 6)) 12 ⟨boot_heap w.params,⟨[]⟩,boot_drawn,boot_toks,os⟩ (topStub prog)=some ((SB w os).abs,⟨denote treeTable (.body bE env0),.body bE env0,q0,[topFrame q0]⟩):=by
 rw[Fast.te15667345088766844465,Fast.te11892475500146522536,Fast.te14364793385576792824];kernel_rfl
theorem Zm:segRun treeTable prog w 11 (some (.ref 6)) 1 1 (SB w os).abs (blockOf bE env0 (.body bE env0) q0 [topFrame q0])=some (.next,(SB w os).abs,.body bE env0,q0):=by
 kernel_rfl
theorem GA(b:List Stmt)(es:List DictEntry):topRun treeTable prog w 11 (some (.ref 6)) 2 (TV es (tF w.params) 338 714 os).abs ⟨doneF .next,cB b,⟨299,0,322,15⟩,[topFrame q0]⟩=some (TV es (tF w.params) 338 714 os).abs:=by
 kernel_rfl
theorem K2{rest:List Stmt}{N:Nat}{r:Shared}(b:List Stmt)(h:topRun treeTable prog w 11 (some (.ref 6)) N (T6 (dE w.params) w os).abs (restOf rest env0 (.body b env0) ⟨25,0,25,11⟩ [topFrame q0])=some r) :
  topRun treeTable prog w 11 (some (.ref 6)) (301+N) (T0 w os).abs (restOf (st::rest) env0 (.body b env0) ⟨24,0,24,5⟩ [topFrame q0])=some r:=by
 revert h
 refine byRow2 "special-get-raises" (P:=fun w=>topRun treeTable prog w 11 (some (.ref 6)) N (T6 (dE w.params) w os).abs (restOf rest env0 (.body b env0) ⟨25,0,25,11⟩ [topFrame q0])=some r->topRun treeTable prog w 11 (some (.ref 6)) (301+N) (T0 w os).abs (restOf (st::rest) env0 (.body b env0) ⟨24,0,24,5⟩ [topFrame q0])=some r) (fun w h=>?_) (fun w h=>?_) w
 ·obtain⟨n,l,e⟩:=R.piece (Ly w false os prog b);have:=topRun_mono (301-n) _ _ _ _ (piece_cons e h)
  rw[show n+N+(301-n)=301+N by omega]at this
  exact this
 ·obtain⟨n,l,e⟩:=R.piece (Ly w true os prog b);have:=topRun_mono (301-n) _ _ _ _ (piece_cons e h)
  rw[show n+N+(301-n)=301+N by omega]at this
  exact this
theorem Vy(b:List Stmt)(es:List DictEntry):topRun treeTable prog w 11 (some (.ref 6)) (1382+2) (T6 es w os).abs (restOf (kG 10 51++[]) env0 (.body b env0) ⟨25,0,25,11⟩ [topFrame q0])=some (TV es (tF w.params) 338 714 os).abs:=by
 exact piece_app (segRun_of (b9 w prog b os es)) (piece_nil (GA w os b es))
def H1(P:Params):Heap:=absHeap (ov (dE P) (tF P)) 338 {}
theorem GB:topRun treeTable prog w 11 (some (.ref 6)) (12+(1+(574+(301+(1382+2))))) ⟨boot_heap w.params,⟨[]⟩,boot_drawn,boot_toks,os⟩ (topStub prog)=some ⟨H1 w.params,⟨[]⟩,{},714,os⟩:=by
 refine go_top (S1 w os) (piece_block (Zm w os) ?_);rw[EM];exact piece_app (segRun_of (O9 w prog _ os)) (K2 w os _ (Vy w os _ _))
end
def qv:Program:=view prog [1,2,4,5,6,8,9,10,11,13,14,15,16,17,18,19,20,22,23,24,25,26,27,28,29,30,31,32,33,34,35,36,37,38,40,41,42,43,44,45,46,47,48,49,50,51,52,53,54,55,56,57,58,59,60]
def lo:List Str:=[Str.ofString "POINT_WORDS",Str.ofString "END_COUNTS"]
abbrev lw:OpenLaw:=PySem.Challenge.rw_whens_k17_talks_shown_and_read
abbrev XT:Shared->Bool:=fun s=>xlAt qv [] s&&recOk (RowW.records lw.row.toRowW) s
theorem g6(N:Nat)(h:Nat.ble 600 N=true):∀ w:World,(fencedOpening treeTable prog w N).map (fun s=>(s.heap,s.gens,s.drawn,s.toks))=some (boot_heap w.params,⟨[]⟩,boot_drawn,boot_toks):=boot_open (by kernel_rfl) h (fun _=>rfl)
theorem Q6(w:World):((boot_heap w.params).isNs mainGlobals&&(⟨[]⟩:Array GenState).size==0,(boot_heap w.params).objs.size,(boot_heap w.params).nsMap mainGlobals "__annotations__")=(true,11,some (.ref 6)):=by kernel_rfl
theorem CU(w:World)(os:OsState):(staticsOk (importedModules prog.main.body) (boot_heap w.params) (H1 w.params)&&namesBound prog (H1 w.params)&&gensDone ⟨H1 w.params,⟨[]⟩,{},714,os⟩&&laidKept (boot_heap w.params) (H1 w.params))=true:=by kernel_rfl
theorem Wp(w:World)(os:OsState):openSeen qv lo (importedModules prog.main.body) XT true ⟨H1 w.params,⟨[]⟩,{},714,os⟩=openGood qv lo:=by
 rw[Fast.te4187177175401517315];kernel_rfl
theorem left(H:Hook)(hH:∀ (w:World) (os:OsState),H.obs ⟨H1 w.params,⟨[]⟩,{},714,os⟩=H.val w):LeftO prog qv lo XT H.obs H.val 5202 :=
 LeftO.of_pieces (H₀:=boot_heap) (H₁:=H1) (gs₀:=⟨[]⟩) (gs₁:=⟨[]⟩) (d₀:=boot_drawn) (d₁:={}) (k₀:=boot_toks) (k₁:=714) (m₀:=11) (ann:=some (.ref 6)) (M:=2272) (g6 5202 (by decide)) Q6 GB (by decide) fun w=>funext fun os=>by rw[CU w os,Wp w os,hH w os]
theorem head{H:Hook}{d:DefRec}{kwd:List (Str×Expr)}(hH:∀ (w:World) (os:OsState),H.obs ⟨H1 w.params,⟨[]⟩,{},714,os⟩=H.val w)(k1:lw.row.wellSaid=true)(hdef:defOf qv lw.row.name=some (d,kwd))(hp:lw.row.prog.theDef lw.row.name=some (d.params,d.body,d.scope))(hk:kwWritten? d.params.kwonlyargs d.params.kw_defaults=some kwd)
  (hw:lw.row.toRowW.promised) (call:WalkO qv lo (XL qv []) H.says lw.row.toRowW d kwd fun f vs=>PySem.call f vs):lw.row.Holds :=
 holds_open (q:=qv) (loose:=lo) (Xt:=XT) (XP:=XL qv []) (Yf:=H.obs) (Ya:=H.val) (YP:=H.says) (N:=5202) (left H hH) (Hook.of H) (Hook.keeps H) (fun s e=>xl_of s (Bool.and_eq_true_iff.mp e).1) XL.keeps hdef hp hk (fun s e=>recFacts_of (Bool.and_eq_true_iff.mp e).2) (by rfl) k1 (by decide +kernel) ⟨rfl,rfl,rfl,rfl,rfl,by decide +kernel⟩ hw call
end H17
namespace K17
open PySem PySem.Spec PyProof.Rows L2 DL
def Cu:List (Str×Stmt×Addr):=("is_whole",Tl,53)::("common",Ik,60)::("is_fraction",Ja,67)::("words_of",Mk,83)::("is_name",Sg,88)::("names_of",Es,93)::("kinds_of",Ng,100)::("ends_of",Pl,105)::("shown_number",Cz,112)::("are_figures",Gf,117)::("read_number",Jk,124)::("shown_end",Qu,131)::("read_end",Bi,138)::("shown_saying",Ec,145)::("shown_talk",Mg,150)::("word_at",Ky,157)::("read_name",Bj,164)::("read_may",Js,171)::("read_gap",Iv,178)::("read_words",By,185)::("read_saying",Tj,192)::("read_thing",Qr,197)::("read_talk",Ow,204)::("_law_feed",Rf,211)::("_law_draw",Mh,218)::("_law_fraction",Iw,225)::("_law_stand",Si,232)::("_law_word",Bw,239)::("_law_words",Jz,246)::("_law_names",Rz,251)::("_law_kinds",Nl,256)::("_law_things",Kl,261)::("_law_may",Ri,266)::("_law_times",Qp,273)::("_law_telling",Lo,278)::("_law_all_ends",Qf,285)::("_law_time",Dh,292)::("_law_may_saying",Lp,297)::("_law_gap_saying",Hc,304)::("_law_talk",Oh,311)::("_law_end_text",Gk,318)::("_law_row_text",Lb,325)::("_law_rows",Oy,330)::("law",Ex,337)::[]
def Pu:List Str:=["isinstance","int","bool","abs","tuple","len","str","all","dict","range","any","enumerate","max","sorted","list","repr"]
section
variable {P:Program}{w:World}{K:ac}{mg:Str->Option Value}{base:Heap}(D:∀ (i:Nat) (nm:Str) (st:Stmt) (a:Addr),Cu[i]?=some (nm,st,a)->Df K mg nm st a)(Z:∀ (i:Nat) (x:Str),Pu[i]?=some x->mg x=none){qW:Tok}(aX:mg "LONGEST_NAME"=some (.int (8) qW)){oP:Tok}(bB:mg "LETTERS"=some (.str "abcdefghijklmnopqrstuvwxyz" oP)){pN:Tok}(aV:mg "FIGURES"=some (.str "0123456789" pN)){rS:Tok}(aW:mg "MOST_FIGURES"=some (.int (6) rS)){oY:Tok}(aU:mg "MOST_THINGS"=some (.int (6) oY)){qJ:Tok}(aZ:mg "MOST_SAYINGS"=some (.int (24) qJ)){jF:Addr}(aT:mg "POINT_WORDS"=some (.ref jF))(bA:pV K w jF wT){kJ:Addr}(aS:mg "ORDER"=some (.ref kJ))(bC:KT K kJ ["ahead","meets","overlaps","begins","within","ends","same","ended","holds","begun","lapped","met","behind"]){jW:Addr}(aR:mg "END_COUNTS"=some (.ref jW))(aY:KD K w jW lE)
include D Z aT bA aS bC aX bB aR aY aV aW aU aZ
theorem BB:Cal P w K mg base "_law_feed" Rf 211 Ix 1 wX:=cD _ _ _ _ _ 0 Ce rK (D 23 _ _ _ rfl) j7 fun _ _ _ _ _ _ hr nd=>(aH (bX (bP (cQ hr.u100) (cA dG rfl (Z 5 _ rfl) dC (aD (aB 0) aJ)) aK) (aH (bO (lX (aD aK (aD aK (aD (aB 1) (aD aK aJ)))))) aM) aM) (aH (bJ 2 nd (aO (aB 0) (bK gQ (aB 1) (cA dG rfl (Z 5 _ rfl) dC (aD (aB 0) aJ))))) (aH (bO (lX (aD (cA (P0 rfl) rfl (Z 12 _ rfl) Xg (aD aK (aD (bK hJ (aB 2) (bK B6 aK aK)) aJ))) (aD (aB 2) (aD (aB 1) (aD aK aJ)))))) aM)))
theorem cP:Cal P w K mg base "_law_draw" Mh 218 Hz 1 cK:=cD _ _ _ _ _ 0 Hs wY (D 24 _ _ _ rfl) x9 fun _ _ _ _ _ _ hr nd=>(aH (Kv (bK cH (aO (aB 0) aK) aK) (aB 0) aK) (aH (bX (bP fP (aO (aB 0) aK) aK) (aH (bJ 2 nd (bK gQ (aO (aB 0) aK) (aB 1))) (aH (Kv (bK sW (aO (aB 0) aK) (aB 1)) (aB 0) aK) (aH (bO (aB 2)) aM))) aM) (aH (bJ 3 nd (bK gQ (bK cH (bK cH (aO (aB 0) aK) (bK gF aK (aO (aB 0) aK))) (bK gF aK (aO (aB 0) aK))) aK)) (aH (bJ 3 nd (bK gQ (bK cH (bK cH (bK gF (aB 3) (aB 3)) (bK gF aK (aB 3))) (aO (aB 0) aK)) aK)) (aH (bJ 3 nd (bK gQ (bK cH (bK cH (bK gF (aB 3) (aB 3)) (bK gF aK (aB 3))) (aO (aB 0) aK)) aK)) (aH (bO (bK gQ (aB 3) (aB 1))) aM))))))
theorem O3:Cal P w K mg base "_law_names" Rz 251 Nr 2 Ag:=cD _ _ _ _ _ 1 Qj uQ (D 29 _ _ _ rfl) D4 fun _ _ _ _ _ _ hr nd=>(aH (bJ 2 nd (dZ (aD bH (aD bH (aD bH (aD bH (aD bH (aD bH (aD bH (aD bH (aD bH (aD bH (aD bH (aD bH aJ)))))))))))))) (aH (bJ 3 nd (bD (cP D Z aX bB aV aW aU aZ aT bA aS bC aR aY) hr (aD (aB 0) (aD aK aJ)))) (aH (bJ 4 nd (aO (dZ (aD aK (aD aK (aD aK (aD aK aJ))))) (bD (cP D Z aX bB aV aW aU aZ aT bA aS bC aR aY) hr (aD (aB 0) (aD aK aJ))))) (aH (nM 5 ["_law_k","_law_menu","_law_first","_law_step"] [none,some 2,some 3,some 4] rfl nd (gZ rfl (Z 9 _ rfl) (aB 1)) (fun cl C s2 H2 pins fp=>(bZ 0 GW)) (fun cl C s2 H2 pins fp=>eS) (fun cl C s2 H2 pins fp=>(aO (aB 1) (bK gQ (bK cH (aB 2) (bK gF (aB 3) (aB 0))) aK)))) (aH (bX (bP (cQ hr.u100) (bD (cP D Z aX bB aV aW aU aZ aT bA aS bC aR aY) hr (aD (aB 0) (aD aK aJ))) aK) (aH (bJ 6 nd bH) (aH (bJ 7 nd (tR (gM ["_law_k","_law_feed_here","_law_letters"] [none,some 0,some 6] rfl (gZ rfl (Z 9 _ rfl) (bD (cP D Z aX bB aV aW aU aZ aT bA aS bC aR aY) hr (aD (aB 0) (aD aK aJ)))) (fun cl C s2 H2 pins fp=>(bZ 0 p6)) (fun cl C s2 H2 pins fp=>eS) (fun cl C s2 H2 pins fp=>(aO (aB 2) (bD (cP D Z aX bB aV aW aU aZ aT bA aS bC aR aY) hr (aD (aB 1) (aD aK aJ)))))))) (aH (bJ 8 nd (bD (cP D Z aX bB aV aW aU aZ aT bA aS bC aR aY) hr (aD (aB 0) (aD (bK cH (cA dG rfl (Z 5 _ rfl) dC (aD (aB 7) aJ)) aK) aJ)))) (aH (nM 5 ["_law_k","_law_first","_law_letters","_law_base","_law_at"] [none,some 3,some 6,some 7,some 8] rfl nd (gZ rfl (Z 9 _ rfl) (aB 1)) (fun cl C s2 H2 pins fp=>(bZ 0 B5)) (fun cl C s2 H2 pins fp=>eS) (fun cl C s2 H2 pins fp=>(bK cH (bK cH (Fv (aB 3) lN (lT (aB 4))) (aO (aB 2) (bK gQ (bK cH (aB 1) (bK gF aK (aB 0))) aK))) (Fv (aB 3) (lT (aB 4)) lN)))) aM)))) aM) (aH (bO (cA P9 rfl (Z 13 _ rfl) L5 (aD (aB 5) aJ))) aM))))))
theorem N3:Cal P w K mg base "_law_kinds" Nl 256 Cy 2 vR:=cD _ _ _ _ _ 1 Rm uG (D 30 _ _ _ rfl) F8 fun _ _ _ _ _ _ hr nd=>(aH (nM 2 ["_law_k","_law_feed_here"] [none,some 0] rfl nd (gZ rfl (Z 9 _ rfl) (aB 1)) (fun cl C s2 H2 pins fp=>(bZ 0 IC)) (fun cl C s2 H2 pins fp=>eS) (fun cl C s2 H2 pins fp=>(aO (dZ (aD bH (aD bH aJ))) (bD (cP D Z aX bB aV aW aU aZ aT bA aS bC aR aY) hr (aD (aB 1) (aD aK aJ)))))) (aH (bX (bP (cQ hr.u100) (bD (cP D Z aX bB aV aW aU aZ aT bA aS bC aR aY) hr (aD (aB 0) (aD aK aJ))) aK) (aH (nM 2 ["_law_k"] [none] rfl nd (gZ rfl (Z 9 _ rfl) (aB 1)) (fun cl C s2 H2 pins fp=>(bZ 0 A0)) (fun cl C s2 H2 pins fp=>eS) (fun cl C s2 H2 pins fp=>bH)) aM) aM) (aH (bO (eN iJ rfl (Z 4 _ rfl) fT (aD (aB 2) aJ))) aM)))
theorem Uy:Cal P w K mg base "_law_things" Kl 261 Rr 3 zI:=cD _ _ _ _ _ 2 Kb xH (D 31 _ _ _ rfl) N8 fun _ _ _ _ _ _ hr nd=>(aH (bJ 2 nd (bD (O3 D Z aX bB aV aW aU aZ aT bA aS bC aR aY) hr (aD (aB 0) (aD (bK cH aK (bD (cP D Z aX bB aV aW aU aZ aT bA aS bC aR aY) hr (aD (aB 0) (aD (aB 1) aJ)))) aJ)))) (aH (bJ 3 nd (bD (N3 D Z aX bB aV aW aU aZ aT bA aS bC aR aY) hr (aD (aB 0) (aD (cA dG rfl (Z 5 _ rfl) dC (aD (aB 2) aJ)) aJ)))) (aH (bO (eN iJ rfl (Z 4 _ rfl) fT (aD (gM ["_law_k","_law_names_here","_law_kinds_here"] [none,some 2,some 3] rfl (gZ rfl (Z 9 _ rfl) (cA dG rfl (Z 5 _ rfl) dC (aD (aB 2) aJ))) (fun cl C s2 H2 pins fp=>(bZ 0 Va)) (fun cl C s2 H2 pins fp=>eS) (fun cl C s2 H2 pins fp=>(dI (aD (aO (aB 1) (aB 0)) (aD (aO (aB 2) (aB 0)) aJ))))) aJ))) aM)))
theorem Mi:Cal P w K mg base "_law_all_ends" Qf 285 Fy 1 rF:=cD _ _ _ _ _ 0 Ld sZ (D 35 _ _ _ rfl) E2 fun _ _ _ _ _ _ hr nd=>(aH (bJ 1 nd (lX aJ)) (aH (jM PassesOwn.never rfl (gJ (aB 0)) (gC rfl (cW (bZ 2 nd) (cW (bZ 3 nd) fY))) (aH (iK (kQ (aB 1) (dI (aD (aB 2) (aD aK aJ))))) (aH (bX (bP (cQ hr.u100) (aB 3) bH) (aH (iK (kQ (aB 1) (dI (aD (aB 2) (aD aK aJ))))) aM) aM) aM))) (aH (bO (aB 1)) aM)))
theorem kX:Cal P w K mg base "_law_stand" Si 232 Hb 1 iR:=cD _ _ _ _ _ 0 Pk vF (D 26 _ _ _ rfl) U3 fun _ _ _ _ _ _ hr nd=>(aH (bJ 2 nd (bK hJ (bK gF (aO (aB 0) aK) (aO (aB 1) aK)) (bK gF (aO (aB 1) aK) (aO (aB 0) aK)))) (aH (bO (bK hJ (eN wM rfl (Z 1 _ rfl) kZ (aD (iT fP (aB 2) aK) aJ)) (eN wM rfl (Z 1 _ rfl) kZ (aD (iT qQ (aB 2) aK) aJ)))) aM))
theorem Xv:Cal P w K mg base "_law_word" Bw 239 Tg 2 Ar:=cD _ _ _ _ _ 1 Tn Ic (D 27 _ _ _ rfl) Zi fun _ _ _ _ _ _ hr nd=>(aH (bJ 2 nd (qC (jY rfl (Z 0 _ rfl) rfl (Z 4 _ rfl) fT (Or.inr (Or.inr (Or.inr (Or.inl rfl)))) (aO (aB 0) aK)) (qU (jY rfl (Z 0 _ rfl) rfl (Z 4 _ rfl) fT (Or.inr (Or.inr (Or.inr (Or.inl rfl)))) (aO (aB 1) aK))))) (aH (bJ 3 nd (jP (fK (jY rfl (Z 0 _ rfl) rfl (Z 4 _ rfl) fT (Or.inr (Or.inr (Or.inr (Or.inl rfl)))) (aO (aB 0) aK))) (aB 0) (dI (aD (aB 0) (aD (aB 0) aJ))))) (aH (bJ 4 nd (jP (fK (jY rfl (Z 0 _ rfl) rfl (Z 4 _ rfl) fT (Or.inr (Or.inr (Or.inr (Or.inl rfl)))) (aO (aB 1) aK))) (aB 1) (dI (aD (aB 1) (aD (aB 1) aJ))))) (aH (bX (bP qQ (bD (kX D Z aX bB aV aW aU aZ aT bA aS bC aR aY) hr (aD (aO (aB 3) aK) (aD (aO (aB 4) aK) aJ))) aK) (aH (bO bH) aM) aM) (aH (bX (bP fP (bD (kX D Z aX bB aV aW aU aZ aT bA aS bC aR aY) hr (aD (aO (aB 3) aK) (aD (aO (aB 4) aK) aJ))) aK) (aH (bO bH) aM) aM) (aH (bX (QW.pt (lS (fK (aB 2)) (lC (bP (cQ hr.u100) (bD (kX D Z aX bB aV aW aU aZ aT bA aS bC aR aY) hr (aD (aO (aB 3) aK) (aD (aO (aB 4) aK) aJ))) aK)))) (aH (bO bH) aM) aM) (aH (bX (QW.pt (lS (fK (aB 2)) (lC (bP (cQ hr.u100) (bD (kX D Z aX bB aV aW aU aZ aT bA aS bC aR aY) hr (aD (aO (aB 3) aK) (aD (aO (aB 4) aK) aJ))) aK)))) (aH (bO bH) aM) aM) (aH (bJ 5 nd (dI (aD (dI (aD bH (aD bH (aD bH aJ)))) (aD (dI (aD bH (aD bH (aD bH aJ)))) (aD (dI (aD bH (aD bH (aD bH aJ)))) aJ))))) (aH (bO (aO (aO (aB 5) (bK cH aK (bD (kX D Z aX bB aV aW aU aZ aT bA aS bC aR aY) hr (aD (aO (aB 3) aK) (aD (aO (aB 4) aK) aJ))))) (bK cH aK (bD (kX D Z aX bB aV aW aU aZ aT bA aS bC aR aY) hr (aD (aO (aB 3) aK) (aD (aO (aB 4) aK) aJ)))))) aM)))))))))
theorem Mx:Cal P w K mg base "_law_words" Jz 246 Ki 1 nE:=cD _ _ _ _ _ 0 Ci xX (D 28 _ _ _ rfl) Xm fun _ _ _ _ _ _ hr nd=>(aH (bX (bP (cQ hr.u100) (aB 0) (dI (aD bH (aD bH aJ)))) (aH (bJ 1 nd (dZ (aD bH (aD bH (aD bH (aD bH (aD bH (aD bH (aD bH aJ))))))))) (aH (bO (bK cH (aB 1) (dZ (aD bH (aD bH (aD bH (aD bH (aD bH (aD bH aJ))))))))) aM)) aM) (aH (bX (bP (cQ hr.u100) (aB 0) (dI (aD bH (aD bH aJ)))) (aH (bO (dZ (aD bH (aD bH (aD bH aJ))))) aM) aM) (aH (bX (bP (cQ hr.u100) (aO (aB 0) aK) bH) (aH (bO (dZ (aD bH (aD bH (aD bH (aD bH (aD bH aJ))))))) aM) aM) (aH (bO (dZ (aD bH (aD bH (aD bH (aD bH (aD bH aJ))))))) aM))))
theorem Wk:Cal P w K mg base "_law_may" Ri 266 Eh 2 Ab:=cD _ _ _ _ _ 1 Pc tX (D 32 _ _ _ rfl) a9 fun _ _ _ _ _ _ hr nd=>(aH (bJ 2 nd (bD (Mx D Z aX bB aV aW aU aZ aT bA aS bC aR aY) hr (aD (aB 1) aJ))) (aH (bJ 3 nd (bK cH aK (bD (cP D Z aX bB aV aW aU aZ aT bA aS bC aR aY) hr (aD (aB 0) (aD aK aJ))))) (aH (nM 4 ["_law_word_here","_law_feed_here","_law_piece"] [none,some 0,some 3] rfl nd (gJ (aB 2)) (fun cl C s2 H2 pins fp=>(bZ 0 Ue)) (fun cl C s2 H2 pins fp=>(Dw (bP (cQ hr.u100) (bD (cP D Z aX bB aV aW aU aZ aT bA aS bC aR aY) hr (aD (aB 1) (aD (aB 2) aJ))) aK))) (fun cl C s2 H2 pins fp=>(aB 0))) (aH (bJ 5 nd (bD (cP D Z aX bB aV aW aU aZ aT bA aS bC aR aY) hr (aD (aB 0) (aD aK aJ)))) (aH (bX (bP (cQ hr.u100) (aB 5) aK) (aH (bJ 4 nd (dZ (aD (aO (aB 2) (bD (cP D Z aX bB aV aW aU aZ aT bA aS bC aR aY) hr (aD (aB 0) (aD (cA dG rfl (Z 5 _ rfl) dC (aD (aB 2) aJ)) aJ)))) aJ))) aM) aM) (aH (bX (bP (cQ hr.u100) (aB 5) aK) (aH (bJ 4 nd (dZ aJ)) aM) aM) (aH (bO (eN iJ rfl (Z 4 _ rfl) fT (aD (aB 4) aJ))) aM)))))))
theorem Yg:Cal P w K mg base "_law_may_saying" Lp 297 Ii 3 wQ:=cD _ _ _ _ _ 2 Bs Aw (D 37 _ _ _ rfl) O5 fun _ _ _ _ _ _ hr nd=>(aH (bJ 3 nd (bD (cP D Z aX bB aV aW aU aZ aT bA aS bC aR aY) hr (aD (aB 0) (aD (cA dG rfl (Z 5 _ rfl) dC (aD (aB 1) aJ)) aJ)))) (aH (bJ 4 nd (bK gQ (bK cH (bK cH (aB 3) aK) (bD (cP D Z aX bB aV aW aU aZ aT bA aS bC aR aY) hr (aD (aB 0) (aD (bK hJ (cA dG rfl (Z 5 _ rfl) dC (aD (aB 1) aJ)) aK) aJ)))) (cA dG rfl (Z 5 _ rfl) dC (aD (aB 1) aJ)))) (aH (bJ 5 nd (dI (aD (aO (aO (aB 1) (aB 3)) aK) (aD (aO (aO (aB 1) (aB 4)) aK) aJ)))) (aH (bJ 6 nd (bD (Xv D Z aX bB aV aW aU aZ aT bA aS bC aR aY) hr (aD (aO (aB 2) (aB 3)) (aD (aO (aB 2) (aB 4)) aJ)))) (aH (bJ 7 nd (bD (Wk D Z aX bB aV aW aU aZ aT bA aS bC aR aY) hr (aD (aB 0) (aD (aB 5) aJ)))) (aH (bX (QW.pt (fG (bP (cQ hr.u100) (aB 7) (dI aJ)) (gG (bP fP (bD (cP D Z aX bB aV aW aU aZ aT bA aS bC aR aY) hr (aD (aB 0) (aD aK aJ))) aK)))) (aH (bJ 7 nd (eN iJ rfl (Z 4 _ rfl) fT (aD (gM ["_law_word_here","_law_there","_law_words_here"] [none,some 6,some 7] rfl (gJ (bD (Mx D Z aX bB aV aW aU aZ aT bA aS bC aR aY) hr (aD (aB 5) aJ))) (fun cl C s2 H2 pins fp=>(bZ 0 IB)) (fun cl C s2 H2 pins fp=>(Dw (QW.pt (fG (bP Dc (aB 0) (aB 2) (hm:=by with_unfolding_all rfl)) (gG (bP (cQ hr.u100) (aB 0) (aB 1))))))) (fun cl C s2 H2 pins fp=>(aB 0))) aJ))) aM) aM) (aH (bO (dI (aD bH (aD (aO (aO (aB 1) (aB 3)) aK) (aD (aO (aO (aB 1) (aB 4)) aK) (aD (aB 7) aJ)))))) aM)))))))
theorem Dv:Cal P w K mg base "_law_time" Dh 292 Jj 1 nK:=cD _ _ _ _ _ 0 Bq zP (D 36 _ _ _ rfl) BC fun _ _ _ _ _ _ hr nd=>(aH (jM PassesOwn.never rfl (gZ rfl (Z 9 _ rfl) (cA dG rfl (Z 5 _ rfl) dC (aD (aB 0) aJ))) (bZ 3 nd) (aH (bX (bP (cQ hr.u100) (aO (aO (aB 0) (aB 3)) aK) (aO (aB 2) aK)) (aH (bO (jP (bP (cQ hr.u100) (aO (aO (aB 0) (aB 3)) aK) bH) (aO (aB 1) (aB 3)) (aO (aO (aB 1) (aB 3)) (aO (aB 2) aK)))) aM) aM) aM)) (aH (bO kK) aM))
theorem nS:Cal P w K mg base "_law_fraction" Iw 225 Na 1 iN:=cD _ _ _ _ _ 0 Tt tL (D 25 _ _ _ rfl) J0 fun _ _ _ _ _ _ hr nd=>(aH (bJ 2 nd (aB 1)) (aH (bJ 3 nd (cA sQ rfl (Z 3 _ rfl) uE (aD (aB 0) aJ))) (aH (Rh PassesOwn.never (bP fP (aB 3) aK) (aH (bJ 4 nd (bK gQ (aB 2) (aB 3))) (aH (bJ 2 nd (aB 3)) (aH (bJ 3 nd (aB 4)) aM)))) (aH (bO (dI (aD (bK sW (aB 0) (aB 2)) (aD (bK sW (aB 1) (aB 2)) aJ)))) aM))))
theorem j0:Cal P w K mg base "_law_gap_saying" Hc 304 Gd 2 pY:=cD _ _ _ _ _ 1 Rj Ss (D 38 _ _ _ rfl) Yj fun _ _ _ _ _ _ hr nd=>(aH (bJ 3 nd (bD (Mi D Z aX bB aV aW aU aZ aT bA aS bC aR aY) hr (aD (aB 1) aJ))) (aH (bJ 4 nd (bD (cP D Z aX bB aV aW aU aZ aT bA aS bC aR aY) hr (aD (aB 0) (aD (cA dG rfl (Z 5 _ rfl) dC (aD (aB 3) aJ)) aJ)))) (aH (bJ 5 nd (aO (aB 3) (aB 4))) (aH (bJ 6 nd (aO (aB 3) (bK gQ (bK cH (bK cH (aB 4) aK) (bD (cP D Z aX bB aV aW aU aZ aT bA aS bC aR aY) hr (aD (aB 0) (aD (bK hJ (cA dG rfl (Z 5 _ rfl) dC (aD (aB 3) aJ)) aK) aJ)))) (cA dG rfl (Z 5 _ rfl) dC (aD (aB 3) aJ))))) (aH (bJ 7 nd (bD (Dv D Z aX bB aV aW aU aZ aT bA aS bC aR aY) hr (aD (aB 1) (aD (aB 2) (aD (aB 5) aJ))))) (aH (bJ 8 nd (bD (Dv D Z aX bB aV aW aU aZ aT bA aS bC aR aY) hr (aD (aB 1) (aD (aB 2) (aD (aB 6) aJ))))) (aH (bJ 9 nd (bK hJ (bK gF (aO (aB 7) aK) (aO (aB 8) aK)) (bK gF (aO (aB 8) aK) (aO (aB 7) aK)))) (aH (bJ 10 nd (bK gF (aO (aB 7) aK) (aO (aB 8) aK))) (aH (bJ 11 nd (bD (cP D Z aX bB aV aW aU aZ aT bA aS bC aR aY) hr (aD (aB 0) (aD aK aJ)))) (aH (bX (bP qQ (aB 11) aK) (aH (bJ 9 nd (bK cH (aB 9) (aO (dZ (aD aK (aD aK (aD (oA aK) aJ)))) (bD (cP D Z aX bB aV aW aU aZ aT bA aS bC aR aY) hr (aD (aB 0) (aD aK aJ)))))) aM) aM) (aH (bJ 12 nd (bD (nS D Z aX bB aV aW aU aZ aT bA aS bC aR aY) hr (aD (aB 9) (aD (aB 10) aJ)))) (aH (bX (QW.pt (fG (bP (cQ hr.u100) (aB 11) aK) (fG (bP fP (cA sQ rfl (Z 3 _ rfl) uE (aD (aO (aB 12) aK) aJ)) aK) (gG (bP fP (aO (aB 12) aK) aK))))) (aH (bJ 13 nd (dZ (aD aK (aD aK (aD (oA aK) (aD aK (aD aK (aD (oA aK) (aD (oA aK) (aD aK (aD (bK cH aK (bD (cP D Z aX bB aV aW aU aZ aT bA aS bC aR aY) hr (aD (aB 0) (aD aK aJ)))) aJ))))))))))) (aH (bJ 9 nd (aO (bK cH (aB 13) (dZ (aD (bK hJ aK (aO (aB 13) aK)) aJ))) (bD (cP D Z aX bB aV aW aU aZ aT bA aS bC aR aY) hr (aD (aB 0) (aD aK aJ))))) (aH (bJ 12 nd (bD (nS D Z aX bB aV aW aU aZ aT bA aS bC aR aY) hr (aD (aB 9) (aD (aO (dZ (aD aK (aD aK (aD aK (aD aK aJ))))) (bD (cP D Z aX bB aV aW aU aZ aT bA aS bC aR aY) hr (aD (aB 0) (aD aK aJ)))) aJ)))) aM))) aM) (aH (bO (dI (aD bH (aD (aB 5) (aD (aB 6) (aD (aB 12) (aD (iT (cQ hr.u100) (bD (cP D Z aX bB aV aW aU aZ aT bA aS bC aR aY) hr (aD (aB 0) (aD aK aJ))) aK) aJ))))))) aM)))))))))))))
theorem v5:Cal P w K mg base "_law_talk" Oh 311 Me 4 uR:=cD _ _ _ _ _ 3 Lj uP (D 39 _ _ _ rfl) AS fun _ _ _ _ _ _ hr nd=>(aH (bJ 4 nd (bD (Mi D Z aX bB aV aW aU aZ aT bA aS bC aR aY) hr (aD (aB 1) aJ))) (aH (bJ 5 nd (lX aJ)) (aH (jM PassesOwn.never rfl (gZ rfl (Z 9 _ rfl) (bD (cP D Z aX bB aV aW aU aZ aT bA aS bC aR aY) hr (aD (aB 0) (aD (bK cH (aB 3) aK) aJ)))) (bZ 6 nd) (aH (bX (QW.pt (lS (bP fP (cA dG rfl (Z 5 _ rfl) dC (aD (aB 1) aJ)) aK) (lC (bP qQ (bD (cP D Z aX bB aV aW aU aZ aT bA aS bC aR aY) hr (aD (aB 0) (aD aK aJ))) aK)))) (aH (iK (kQ (aB 5) (bD (Yg D Z aX bB aV aW aU aZ aT bA aS bC aR aY) hr (aD (aB 0) (aD (aB 1) (aD (aB 2) aJ)))))) aM) (aH (bX (bP fP (cA dG rfl (Z 5 _ rfl) dC (aD (aB 4) aJ)) aK) (aH (iK (kQ (aB 5) (bD (j0 D Z aX bB aV aW aU aZ aT bA aS bC aR aY) hr (aD (aB 0) (aD (aB 1) (aD (aB 2) aJ)))))) aM) aM) aM)) aM)) (aH (bO (dI (aD (aB 1) (aD (eN iJ rfl (Z 4 _ rfl) fT (aD (aB 5) aJ)) aJ)))) aM))))
theorem Wj:Cal P w K mg base "_law_times" Qp 273 Pf 2 rA:=cD _ _ _ _ _ 1 Ef sG (D 33 _ _ _ rfl) G6 fun _ _ _ _ _ _ hr nd=>(aH (bX (bP (cQ hr.u100) (aB 1) bH) (aH (bO (bD (nS D Z aX bB aV aW aU aZ aT bA aS bC aR aY) hr (aD (bK cH (aB 2) (bD (cP D Z aX bB aV aW aU aZ aT bA aS bC aR aY) hr (aD (aB 0) (aD (aB 3) aJ)))) (aD (aB 4) aJ)))) aM) aM) (aH (bJ 5 nd (bD (cP D Z aX bB aV aW aU aZ aT bA aS bC aR aY) hr (aD (aB 0) (aD (bK hJ (aB 3) aK) aJ)))) (aH (bJ 6 nd (bK cH (bK cH (aB 5) aK) (bD (cP D Z aX bB aV aW aU aZ aT bA aS bC aR aY) hr (aD (aB 0) (aD (bK hJ (bK hJ (aB 3) aK) (aB 5)) aJ))))) (aH (bO (dI (aD (bD (nS D Z aX bB aV aW aU aZ aT bA aS bC aR aY) hr (aD (bK cH (aB 2) (aB 5)) (aD (aB 4) aJ))) (aD (bD (nS D Z aX bB aV aW aU aZ aT bA aS bC aR aY) hr (aD (bK cH (aB 2) (aB 6)) (aD (aB 4) aJ))) aJ)))) aM))))
theorem R9:Cal P w K mg base "_law_telling" Lo 278 Sl 3 As:=cD _ _ _ _ _ 2 Nn uL (D 34 _ _ _ rfl) G3 fun _ _ _ _ _ _ hr nd=>(aH (bJ 2 nd (bK cH aK (bD (cP D Z aX bB aV aW aU aZ aT bA aS bC aR aY) hr (aD (aB 0) (aD aK aJ))))) (aH (bJ 3 nd (aO (dZ (aD aK (aD aK (aD aK (aD aK (aD aK (aD aK aJ))))))) (bD (cP D Z aX bB aV aW aU aZ aT bA aS bC aR aY) hr (aD (aB 0) (aD aK aJ))))) (aH (bJ 4 nd (bK hJ (aO (dZ (aD aK (aD aK (aD (oA aK) (aD aK (aD aK aJ)))))) (bD (cP D Z aX bB aV aW aU aZ aT bA aS bC aR aY) hr (aD (aB 0) (aD aK aJ)))) (bD (cP D Z aX bB aV aW aU aZ aT bA aS bC aR aY) hr (aD (aB 0) (aD aK aJ))))) (aH (bO (eN iJ rfl (Z 4 _ rfl) fT (aD (gM ["_law_name","_law_kind","_law_feed_here","_law_many","_law_bottom","_law_base"] [none,none,some 0,some 2,some 3,some 4] rfl (gJ (aB 1)) (fun cl C s2 H2 pins fp=>(gC rfl (cW (bZ 0 Lc) (cW (bZ 1 Lc) fY)))) (fun cl C s2 H2 pins fp=>eS) (fun cl C s2 H2 pins fp=>(bD (Wj D Z aX bB aV aW aU aZ aT bA aS bC aR aY) hr (aD (aB 2) (aD (aB 1) (aD (aB 5) (aD (aB 3) (aD (aB 4) aJ)))))))) aJ))) aM))))
theorem Jv:Cal P w K mg base "_law_end_text" Gk 318 Gp 1 qE:=cD _ _ _ _ _ 0 Mz sV (D 40 _ _ _ rfl) t9 fun _ _ _ _ _ _ hr nd=>(aH (bX (bP (cQ hr.u100) (pO hr.u100 (zS rfl rfl (Z 8 _ rfl) (aB 0)) (aO (aB 1) aK)) bH) (aH (bO (aO (aB 1) aK)) aM) aM) (aH (bO (bK cH (aO (aB 1) aK) (aO (dZ (aD bH (aD bH aJ))) (aO (aB 1) aK)))) aM))
theorem W7:Cal P w K mg base "_law_row_text" Lb 325 Tc 2 zX:=cD _ _ _ _ _ 1 Dt oQ (D 41 _ _ _ rfl) BG fun _ _ _ _ _ _ hr nd=>(aH (bX (bP (cQ hr.u100) (aO (aB 1) aK) bH) (aH (bO (tR (bK cH (dZ (aD bH (aD (aO (aB 1) aK) (aD (aO (aB 1) aK) aJ)))) (eN Ml rfl (Z 14 _ rfl) Ba (aD (aO (aB 1) aK) aJ))))) aM) aM) (aH (bJ 2 nd (eN Sc rfl (Z 6 _ rfl) tY (aD (aO (aO (aB 1) aK) aK) aJ))) (aH (bX (bP fP (aO (aO (aB 1) aK) aK) aK) (aH (bJ 2 nd (bK cH (bK cH (aB 2) bH) (eN Sc rfl (Z 6 _ rfl) tY (aD (aO (aO (aB 1) aK) aK) aJ)))) aM) aM) (aH (bJ 3 nd (dZ (aD bH (aD (bD (Jv D Z aX bB aV aW aU aZ aT bA aS bC aR aY) hr (aD (aB 0) (aD (aO (aB 1) aK) aJ))) (aD (bD (Jv D Z aX bB aV aW aU aZ aT bA aS bC aR aY) hr (aD (aB 0) (aD (aO (aB 1) aK) aJ))) (aD (aB 2) aJ)))))) (aH (bO (tR (bK cH (aB 3) (pU (dZ (aD bH aJ)) lN (lT (eN wM rfl (Z 1 _ rfl) kZ (aD (aO (aB 1) aK) aJ))))))) aM)))))
theorem Zn:Cal P w K mg base "_law_rows" Oy 330 Fu 3 tU:=cD _ _ _ _ _ 2 Hh wJ (D 42 _ _ _ rfl) V7 fun _ _ _ _ _ _ hr nd=>(aH (bO (bK cH (gM ["_law_name","_law_kind"] [none,none] rfl (gJ (aO (aB 0) aK)) (fun cl C s2 H2 pins fp=>(gC rfl (cW (bZ 0 Tz) (cW (bZ 1 Tz) fY)))) (fun cl C s2 H2 pins fp=>eS) (fun cl C s2 H2 pins fp=>(bK cH (bK cH (aB 1) bH) (aB 0)))) (gM ["_law_one","_law_talk_here"] [none,some 0] rfl (gJ (aO (aB 0) aK)) (fun cl C s2 H2 pins fp=>(bZ 0 Uj)) (fun cl C s2 H2 pins fp=>eS) (fun cl C s2 H2 pins fp=>(bD (W7 D Z aX bB aV aW aU aZ aT bA aS bC aR aY) hr (aD (aO (aB 1) aK) (aD (aB 0) aJ))))))) aM)
theorem vN:Cal P w K mg base "shown_end" Qu 131 Kw 1 mP:=cD _ _ _ _ _ 0 Ra tQ (D 11 _ _ _ rfl) i8 fun _ _ _ _ _ _ hr nd=>(aH (lI (aB 1) (gC rfl (cW (bZ 2 nd) (cW (bZ 3 nd) fY)))) (aH (bX (bP (cQ hr.u100) (pO hr.u100 (Mr (zS rfl rfl (Z 8 _ rfl) (aB 0)) (Fa rfl rfl (Z 8 _ rfl) (aB 0))) (aB 2)) bH) (aH (bO (aB 2)) aM) aM) (aH (bO (jP (bP (cQ hr.u100) (aB 3) aK) (lM (eK (gP (aB 2)) (eK bH lR))) (lM (eK (gP (aB 2)) (eK bH lR))))) aM)))
theorem Hy:Cal P w K mg base "shown_number" Cz 112 Kg 1 qI:=cD _ _ _ _ _ 0 Km wU (D 8 _ _ _ rfl) GH fun _ _ _ _ _ _ hr nd=>(aH (lI (aB 0) (gC rfl (cW (bZ 1 nd) (cW (bZ 2 nd) fY)))) (aH (bO (jP (bP fP (aB 2) aK) (lM (eK (gP (aB 1)) (eK bH (eK (gP (aB 2)) lR)))) (O0 (gP (aB 1))))) aM))
theorem Mw:Cal P w K mg base "shown_saying" Ec 145 Jf 2 oB:=cD _ _ _ _ _ 1 To qL (D 13 _ _ _ rfl) FK fun _ _ _ _ _ _ hr nd=>(aH (bX (bP (cQ hr.u100) (aO (aB 1) aK) bH) (aH (bO (EH (bK cH (pU (aB 1) lN (lT aK)) (aO (aB 1) aK)))) aM) aM) (aH (lI (aB 1) (gC rfl (cW (bZ 2 nd) (cW (bZ 3 nd) (cW (bZ 4 nd) (cW (bZ 5 nd) (cW (bZ 6 nd) fY))))))) (aH (bJ 7 nd (lM (eK (gP (aB 2)) (eK bH (eK (gP (bD (vN D Z aX bB aV aW aU aZ aT bA aS bC aR aY) hr (aD (aB 0) (aD (aB 3) aJ)))) (eK bH (eK (gP (bD (vN D Z aX bB aV aW aU aZ aT bA aS bC aR aY) hr (aD (aB 0) (aD (aB 4) aJ)))) (eK bH (eK (gP (bD (Hy D Z aX bB aV aW aU aZ aT bA aS bC aR aY) hr (aD (aB 5) aJ))) lR))))))))) (aH (bO (jP (fK (aB 6)) (lM (eK (gP (aB 7)) (eK bH lR))) (aB 7))) aM))))
theorem Li:Cal P w K mg base "shown_talk" Mg 150 Gn 3 qZ:=cD _ _ _ _ _ 2 Dl Ah (D 14 _ _ _ rfl) Z3 fun _ _ _ _ _ _ hr nd=>(aH (lI (aB 0) (gC rfl (cW (bZ 1 nd) (cW (bZ 2 nd) fY)))) (aH (bO (bK CL (gM ["name","kind"] [none,none] rfl (gJ (aB 1)) (fun cl C s2 H2 pins fp=>(gC rfl (cW (bZ 0 Sz) (cW (bZ 1 Sz) fY)))) (fun cl C s2 H2 pins fp=>eS) (fun cl C s2 H2 pins fp=>(lM (eK (gP (aB 1)) (eK bH (eK (gP (aB 0)) lR)))))) (gM ["saying","things"] [none,some 1] rfl (gJ (aB 2)) (fun cl C s2 H2 pins fp=>(bZ 0 P2)) (fun cl C s2 H2 pins fp=>eS) (fun cl C s2 H2 pins fp=>(bD (Mw D Z aX bB aV aW aU aZ aT bA aS bC aR aY) hr (aD (aB 1) (aD (aB 0) aJ))))))) aM))
theorem lY:Cal P w K mg base "word_at" Ky 157 Ip 1 iW:=cD _ _ _ _ _ 0 Gq tS (D 15 _ _ _ rfl) U0 fun _ _ _ _ _ _ hr nd=>(aH (bX (bP Pj (aB 1) (cA dG rfl (Z 5 _ rfl) dC (aD (aB 0) aJ))) (aH fJ aM) aM) (aH (bO (aO (aB 0) (aB 1))) aM))
theorem W3:Cal P w K mg base "is_name" Sg 88 Kr 1 zJ:=cD _ _ _ _ _ 0 Bg uT (D 4 _ _ _ rfl) EI fun _ _ _ _ _ _ hr nd=>(aH (bX (QW.pt (fG (jQ (fK (jY rfl (Z 0 _ rfl) rfl (Z 6 _ rfl) tY (Or.inr (Or.inr (Or.inl rfl))) (aB 0)))) (gG (jQ (f9 rJ rJ aK (cA dG rfl (Z 5 _ rfl) dC (aD (aB 0) aJ)) (pZ rfl aX)))))) (aH (bO iO) aM) aM) (aH (bO (cA (Fe rfl) rfl (Z 7 _ rfl) Ig (aD (gM ["sign"] [none] rfl (Sm (aB 0)) (fun cl C s2 H2 pins fp=>(bZ 0 j9)) (fun cl C s2 H2 pins fp=>eS) (fun cl C s2 H2 pins fp=>(iT Rs (aB 0) (Jw rfl bB) (hm:=by with_unfolding_all rfl)))) aJ))) aM))
theorem Sa:Cal P w K mg base "names_of" Es 93 Te 1 qS:=cD _ _ _ _ _ 0 Pg yO (D 5 _ _ _ rfl) M2 fun _ _ _ _ _ _ hr nd=>(aH (bO (gM ["name","kind"] [none,none] rfl (gJ (aB 0)) (fun cl C s2 H2 pins fp=>(gC rfl (cW (bZ 0 Hv) (cW (bZ 1 Hv) fY)))) (fun cl C s2 H2 pins fp=>eS) (fun cl C s2 H2 pins fp=>(aB 0)))) aM)
theorem Q5:Cal P w K mg base "read_thing" Qr 197 Bc 2 wL:=cD _ _ _ _ _ 1 Ny wV (D 21 _ _ _ rfl) FJ fun _ _ _ _ _ _ hr nd=>(aH (bJ 3 nd (bD (lY D Z aX bB aV aW aU aZ aT bA aS bC aR aY) hr (aD (aB 1) (aD aK (aD (aB 2) aJ))))) (aH (bX (QW.pt (fG (jQ (fK (bD (W3 D Z aX bB aV aW aU aZ aT bA aS bC aR aY) hr (aD (aB 3) aJ)))) (gG (fK (cA (AG rfl) rfl (Z 10 _ rfl) c5 (aD (gM ["other","name"] [none,some 3] rfl (gJ (bD (Sa D Z aX bB aV aW aU aZ aT bA aS bC aR aY) hr (aD (aB 0) aJ))) (fun cl C s2 H2 pins fp=>(bZ 0 Yp)) (fun cl C s2 H2 pins fp=>eS) (fun cl C s2 H2 pins fp=>(iT P7 (aB 1) (aB 0)))) aJ)))))) (aH fJ aM) aM) (aH (bX (bP fP (cA dG rfl (Z 5 _ rfl) dC (aD (aB 1) aJ)) aK) (aH fJ aM) aM) (aH (bO (dI (aD (aB 3) (aD (aO (aB 1) aK) aJ)))) aM))))
theorem Cr:Cal P w K mg base "read_name" Bj 164 Ry 2 mL:=cD _ _ _ _ _ 1 Sb vL (D 16 _ _ _ rfl) FR fun _ _ _ _ _ _ hr nd=>(aH (bJ 4 nd (bD (lY D Z aX bB aV aW aU aZ aT bA aS bC aR aY) hr (aD (aB 1) (aD (aB 2) (aD (aB 3) aJ))))) (aH (bX (bP Td (aB 4) (bD (Sa D Z aX bB aV aW aU aZ aT bA aS bC aR aY) hr (aD (aB 0) aJ)) (hm:=by with_unfolding_all rfl)) (aH fJ aM) aM) (aH (bO (aB 4)) aM)))
theorem N6:Cal P w K mg base "words_of" Mk 83 Fi 1 xV:=cD _ _ _ _ _ 0 Ti yS (D 3 _ _ _ rfl) Vg fun _ _ _ _ _ _ hr nd=>(aH (bO (CB hr.u100 rfl aT bA (aB 0) (K4 rfl aS bC))) aM)
theorem V0:Cal P w K mg base "kinds_of" Ng 100 Kt 1 sK:=cD _ _ _ _ _ 0 Sr xG (D 6 _ _ _ rfl) GJ fun _ _ _ _ _ _ hr nd=>(aH (bJ 3 nd (Mr (zS rfl rfl (Z 8 _ rfl) (aB 0)) (Fa rfl rfl (Z 8 _ rfl) (aB 0)))) (aH (bO (dI (aD (pO hr.u100 (aB 3) (aB 1)) (aD (pO hr.u100 (aB 3) (aB 2)) aJ)))) aM))
theorem CI:Cal P w K mg base "read_may" Js 171 Mb 3 xT:=cD _ _ _ _ _ 2 Iq Al (D 17 _ _ _ rfl) X3 fun _ _ _ _ _ _ hr nd=>(aH (bJ 3 nd (bD (Cr D Z aX bB aV aW aU aZ aT bA aS bC aR aY) hr (aD (aB 0) (aD (aB 1) (aD aK (aD (aB 2) aJ)))))) (aH (bJ 4 nd (bD (Cr D Z aX bB aV aW aU aZ aT bA aS bC aR aY) hr (aD (aB 0) (aD (aB 1) (aD aK (aD (aB 2) aJ)))))) (aH (bX (bP (cQ hr.u100) (aB 4) (aB 3)) (aH fJ aM) aM) (aH (bJ 5 nd (bD (N6 D Z aX bB aV aW aU aZ aT bA aS bC aR aY) hr (aD (bD (V0 D Z aX bB aV aW aU aZ aT bA aS bC aR aY) hr (aD (aB 0) (aD (aB 3) (aD (aB 4) aJ)))) aJ))) (aH (iK (bD (lY D Z aX bB aV aW aU aZ aT bA aS bC aR aY) hr (aD (aB 1) (aD aK (aD (aB 2) aJ))))) (aH (jM PassesOwn.never rfl (BJ rfl (Z 9 _ rfl) aK (cA dG rfl (Z 5 _ rfl) dC (aD (aB 1) aJ))) (bZ 6 nd) (aH (bX (bP Td (aO (aB 1) (aB 6)) (aB 5) (hm:=by with_unfolding_all rfl)) (aH fJ aM) aM) (aH (bJ 5 nd (pU (aB 5) (lT (bK cH (Vn (aB 5) (aO (aB 1) (aB 6))) aK)) lN)) aM))) (aH (bO (dI (aD bH (aD (aB 3) (aD (aB 4) (aD (eN iJ rfl (Z 4 _ rfl) fT (aD (pU (aB 1) (lT aK) lN) aJ)) aJ)))))) aM)))))))
theorem S5:Cal P w K mg base "ends_of" Pl 105 Bx 1 xJ:=cD _ _ _ _ _ 0 Ov zN (D 7 _ _ _ rfl) O2 fun _ _ _ _ _ _ hr nd=>(aH (bO (Zz ["name","kind","number"] [none,none,none] rfl (gJ (aB 0)) (fun cl C s2 H2 pins fp=>(gC rfl (cW (bZ 0 uV) (cW (bZ 1 uV) fY)))) (fun cl C s2 H2 pins fp=>eS) (fun cl C s2 H2 pins fp=>(gZ rfl (Z 9 _ rfl) (Zq rfl aR aY (aB 1)))) (fun cl C s2 H2 pins fp=>(bZ 2 uV)) (fun cl C s2 H2 pins fp=>eS) (fun cl C s2 H2 pins fp=>(dI (aD (aB 0) (aD (aB 2) aJ)))))) aM)
theorem Eu:Cal P w K mg base "read_end" Bi 138 Lg 2 pL:=cD _ _ _ _ _ 1 Cl xN (D 12 _ _ _ rfl) M7 fun _ _ _ _ _ _ hr nd=>(aH (jM PassesOwn.never rfl (gJ (bD (S5 D Z aX bB aV aW aU aZ aT bA aS bC aR aY) hr (aD (aB 0) aJ))) (bZ 2 nd) (aH (bX (bP (cQ hr.u100) (bD (vN D Z aX bB aV aW aU aZ aT bA aS bC aR aY) hr (aD (aB 0) (aD (aB 2) aJ))) (aB 1)) (aH (bO (aB 2)) aM) aM) aM)) (aH (bO kK) aM))
theorem Ee:Cal P w K mg base "are_figures" Gf 117 Kf 1 mC:=cD _ _ _ _ _ 0 Rl zM (D 9 _ _ _ rfl) DJ fun _ _ _ _ _ _ hr nd=>(aH (bO (qC (Wi rJ rJ aK (cA dG rfl (Z 5 _ rfl) dC (aD (aB 0) aJ)) (aB 1)) (qU (cA (Fe rfl) rfl (Z 7 _ rfl) Ig (aD (gM ["sign"] [none] rfl (Sm (aB 0)) (fun cl C s2 H2 pins fp=>(bZ 0 L7)) (fun cl C s2 H2 pins fp=>eS) (fun cl C s2 H2 pins fp=>(iT Rs (aB 0) (Jw rfl aV) (hm:=by with_unfolding_all rfl)))) aJ))))) aM)
theorem Jl:Cal P w K mg base "is_whole" Tl 53 Qa 1 pQ:=cD _ _ _ _ _ 0 Bk uY (D 0 _ _ _ rfl) Q0 fun _ _ _ _ _ _ hr nd=>(aH (bO (qC (jY rfl (Z 0 _ rfl) rfl (Z 1 _ rfl) kZ (Or.inl rfl) (aB 0)) (qU (FV (jY rfl (Z 0 _ rfl) rfl (Z 2 _ rfl) E4 (Or.inr (Or.inl rfl)) (aB 0)))))) aM)
theorem Uq:Cal P w K mg base "common" Ik 60 Nf 1 Ap:=cD _ _ _ _ _ 0 Op uZ (D 1 _ _ _ rfl) HG fun _ _ _ _ _ _ hr nd=>(aH (Rh PassesOwn.never (bP (gK hr.u100) (aB 1) aK) (aH (GM 0 1 rfl nd (aD (aB 1) (aD (bK gQ (aB 0) (aB 1)) aJ))) aM)) (aH (bO (cA sQ rfl (Z 3 _ rfl) uE (aD (aB 0) aJ))) aM))
theorem Wc:Cal P w K mg base "is_fraction" Ja 67 Fn 2 rB:=cD _ _ _ _ _ 1 Nb wG (D 2 _ _ _ rfl) N4 fun _ _ _ _ _ _ hr nd=>(aH (bX (QW.pt (fG (jQ (fK (jY rfl (Z 0 _ rfl) rfl (Z 4 _ rfl) fT (Or.inr (Or.inr (Or.inr (Or.inl rfl)))) (aB 0)))) (gG (bP (gK hr.u100) (cA dG rfl (Z 5 _ rfl) dC (aD (aB 0) aJ)) aK)))) (aH (bO iO) aM) aM) (aH (lI (aB 0) (gC rfl (cW (bZ 1 nd) (cW (bZ 2 nd) fY)))) (aH (bX (QW.pt (fG (jQ (fK (bD (Jl D Z aX bB aV aW aU aZ aT bA aS bC aR aY) hr (aD (aB 1) aJ)))) (gG (jQ (fK (bD (Jl D Z aX bB aV aW aU aZ aT bA aS bC aR aY) hr (aD (aB 2) aJ))))))) (aH (bO iO) aM) aM) (aH (bO (qC (iT Pj (aB 2) aK) (qU (iT (cQ hr.u100) (bD (Uq D Z aX bB aV aW aU aZ aT bA aS bC aR aY) hr (aD (aB 1) (aD (aB 2) aJ))) aK)))) aM))))
theorem Ws:Cal P w K mg base "read_number" Jk 124 Lm 3 uU:=cD _ _ _ _ _ 2 Ru Iz (D 10 _ _ _ rfl) Zw fun _ _ _ _ _ _ hr nd=>(aH (lI (T9 (aB 0) bH) (gC rfl (cW (bZ 2 nd) (cW (bZ 3 nd) (cW (bZ 4 nd) fY))))) (aH (bX (QW.pt (fG (jQ (fK (bD (Ee D Z aX bB aV aW aU aZ aT bA aS bC aR aY) hr (aD (GF Vs (aB 2) bH) (aD (aB 1) aJ))))) (gG (QW.pt (lS (bP (gK hr.u100) (aB 3) bH) (lC (jQ (fK (bD (Ee D Z aX bB aV aW aU aZ aT bA aS bC aR aY) hr (aD (aB 4) (aD (aB 1) aJ))))))))))) (aH (bO kK) aM) aM) (aH (bJ 5 nd (dI (aD (eN Rb rfl (Z 1 _ rfl) kZ (aD (aB 2) aJ)) (aD (jP (bP (gK hr.u100) (aB 3) bH) (eN Rb rfl (Z 1 _ rfl) kZ (aD (aB 4) aJ)) aK) aJ)))) (aH (bO (jP (QW.pt (lS (fK (bD (Wc D Z aX bB aV aW aU aZ aT bA aS bC aR aY) hr (aD (aB 5) aJ))) (lC (bP (cQ hr.u100) (bD (Hy D Z aX bB aV aW aU aZ aT bA aS bC aR aY) hr (aD (aB 5) aJ)) (aB 0))))) (aB 5) kK)) aM))))
theorem DY:Cal P w K mg base "read_gap" Iv 178 Kj 4 Af:=cD _ _ _ _ _ 3 Bv An (D 18 _ _ _ rfl) EL fun _ _ _ _ _ _ hr nd=>(aH (bJ 3 nd (bD (Eu D Z aX bB aV aW aU aZ aT bA aS bC aR aY) hr (aD (aB 0) (aD (bD (lY D Z aX bB aV aW aU aZ aT bA aS bC aR aY) hr (aD (aB 1) (aD aK (aD (aB 2) aJ)))) aJ)))) (aH (bX (bP zO (aB 3) kK) (aH fJ aM) aM) (aH (bJ 4 nd (bD (Eu D Z aX bB aV aW aU aZ aT bA aS bC aR aY) hr (aD (aB 0) (aD (bD (lY D Z aX bB aV aW aU aZ aT bA aS bC aR aY) hr (aD (aB 1) (aD aK (aD (aB 2) aJ)))) aJ)))) (aH (bX (QW.pt (fG (bP zO (aB 4) kK) (gG (bP (cQ hr.u100) (aB 4) (aB 3))))) (aH fJ aM) aM) (aH (bJ 5 nd (bD (Ws D Z aX bB aV aW aU aZ aT bA aS bC aR aY) hr (aD (bD (lY D Z aX bB aV aW aU aZ aT bA aS bC aR aY) hr (aD (aB 1) (aD aK (aD (aB 2) aJ)))) (aD (pZ rfl aW) aJ)))) (aH (bX (bP zO (aB 5) kK) (aH fJ aM) aM) (aH (bJ 6 nd (iT fP (cA dG rfl (Z 5 _ rfl) dC (aD (aB 1) aJ)) aK)) (aH (bX (QW.pt (lS (fK (aB 6)) (lC (bP (gK hr.u100) (aO (aB 1) aK) bH)))) (aH fJ aM) aM) (aH (bX (bP fP (cA dG rfl (Z 5 _ rfl) dC (aD (aB 1) aJ)) aK) (aH fJ aM) aM) (aH (bO (dI (aD bH (aD (aB 3) (aD (aB 4) (aD (aB 5) (aD (aB 6) aJ))))))) aM))))))))))
theorem De:Cal P w K mg base "read_words" By 185 Jq 5 oW:=cD _ _ _ _ _ 4 Pb rZ (D 19 _ _ _ rfl) BV fun _ _ _ _ _ _ hr nd=>(aH (bX (bP (cQ hr.u100) (aO (aB 1) aK) bH) (aH (bO (bD (CI D Z aX bB aV aW aU aZ aT bA aS bC aR aY) hr (aD (aB 0) (aD (aB 1) (aD (aB 2) aJ))))) aM) aM) (aH (bX (bP (cQ hr.u100) (aO (aB 1) aK) bH) (aH (bO (bD (DY D Z aX bB aV aW aU aZ aT bA aS bC aR aY) hr (aD (aB 0) (aD (aB 1) (aD (aB 2) aJ))))) aM) aM) (aH fJ aM)))
theorem Jn:Cal P w K mg base "read_talk" Ow 204 Cf 6 pG:=cD _ _ _ _ _ 5 Gc Aq (D 22 _ _ _ rfl) Z1 fun _ _ _ _ _ _ hr nd=>(aH (bJ 1 nd (lX aJ)) (aH (bJ 2 nd (lX aJ)) (aH (jM PassesOwn.never rfl (Zx rfl (Z 11 _ rfl) (aB 0)) (gC rfl (cW (bZ 3 nd) (cW (bZ 4 nd) fY))) (aH (bJ 5 nd (Dm (aB 4) bH)) (aH (bX (bP Dc (aO (aB 5) aK) (dI (aD bH (aD bH aJ))) (hm:=by with_unfolding_all rfl)) (aH (bX (QW.pt (fG (bP (Gu hr.u100) (aB 2) (dZ aJ)) (gG (bP (cQ hr.u100) (cA dG rfl (Z 5 _ rfl) dC (aD (aB 1) aJ)) (pZ rfl aU))))) (aH fJ aM) aM) (aH (iK (kQ (aB 1) (uD (bD (Q5 D Z aX bB aV aW aU aZ aT bA aS bC aR aY) hr (aD (aB 1) (aD (aB 5) (aD (aB 3) aJ))))))) aM)) (aH (bX (QW.pt (fG (bP (Nh hr.u100) (aB 1) (dZ aJ)) (gG (bP (cQ hr.u100) (cA dG rfl (Z 5 _ rfl) dC (aD (aB 2) aJ)) (pZ rfl aZ))))) (aH fJ aM) aM) (aH (iK (kQ (aB 2) (uD (bD (De D Z aX bB aV aW aU aZ aT bA aS bC aR aY) hr (aD (aB 1) (aD (aB 5) (aD (aB 3) aJ))))))) aM))) aM))) (aH (bX (bP (Nh hr.u100) (aB 1) (dZ aJ)) (aH fJ aM) aM) (aH (bO (dI (aD (eN iJ rfl (Z 4 _ rfl) fT (aD (aB 1) aJ)) (aD (eN iJ rfl (Z 4 _ rfl) fT (aD (aB 2) aJ)) aJ)))) aM)))))
theorem j5:Cal P w K mg base "read_saying" Tj 192 So 6 yH:=cD _ _ _ _ _ 5 Fd tG (D 20 _ _ _ rfl) A4 fun _ _ _ _ _ _ hr nd=>(aH (bO (bD (De D Z aX bB aV aW aU aZ aT bA aS bC aR aY) hr (aD (aB 0) (aD (Dm (aB 1) bH) (aD aK aJ))))) aM)
theorem ER:Cal P w K mg base "law" Ex 337 Jr 7 nN:=cD _ _ _ _ _ 6 Cg vZ (D 43 _ _ _ rfl) FM fun _ _ _ _ _ _ hr nd=>(aH (jM PassesOwn.never rfl (gZ rfl (Z 9 _ rfl) aK) (bZ 1 nd) (aH (bJ 2 nd (bD (BB D Z aX bB aV aW aU aZ aT bA aS bC aR aY) hr (aD (aB 0) (aD (aB 1) aJ)))) (aH (bJ 3 nd (bD (Uy D Z aX bB aV aW aU aZ aT bA aS bC aR aY) hr (aD (aB 2) (aD aK aJ)))) (aH (bJ 4 nd (bD (v5 D Z aX bB aV aW aU aZ aT bA aS bC aR aY) hr (aD (aB 2) (aD (aB 3) (aD (bD (R9 D Z aX bB aV aW aU aZ aT bA aS bC aR aY) hr (aD (aB 2) (aD (aB 3) aJ))) (aD (aO (dZ (aD aK (aD aK (aD aK aJ)))) (bD (cP D Z aX bB aV aW aU aZ aT bA aS bC aR aY) hr (aD (aB 2) (aD aK aJ)))) aJ)))))) (aH (bJ 5 nd (bD (Zn D Z aX bB aV aW aU aZ aT bA aS bC aR aY) hr (aD (aB 4) aJ))) (aH (bJ 6 nd (bD (Li D Z aX bB aV aW aU aZ aT bA aS bC aR aY) hr (aD (aB 4) aJ))) (aH (bX (bP (gK hr.u100) (cA (Xk hr.u200 hr.gd) rfl (Z 15 _ rfl) fL (aD (aB 6) aJ)) (cA (gA hr.u200 hr.gd) rfl (Z 15 _ rfl) fL (aD (aB 5) aJ))) (aH (bO iO) aM) aM) (aH (bJ 7 nd (eN J4 rfl (Z 14 _ rfl) Ba (aD (aB 6) aJ))) (aH (bJ 8 nd (uD (bD (Jn D Z aX bB aV aW aU aZ aT bA aS bC aR aY) hr (aD (aB 7) aJ)))) (aH (bX (QW.pt (fG (bP (gK hr.u100) (cA (gA hr.u200 hr.gd) rfl (Z 15 _ rfl) fL (aD (aB 8) aJ)) (cA (gA hr.u200 hr.gd) rfl (Z 15 _ rfl) fL (aD (aB 4) aJ))) (gG (bP (Gu hr.u100) (aB 7) (aB 5))))) (aH (bO iO) aM) aM) (aH (iK (AN (aB 7))) (aH (iK (kQ (aB 6) bH)) (aH (bX (QW.pt (fG (bP (gK hr.u100) (cA (gA hr.u200 hr.gd) rfl (Z 15 _ rfl) fL (aD (aB 8) aJ)) (cA (gA hr.u200 hr.gd) rfl (Z 15 _ rfl) fL (aD (aB 4) aJ))) (fG (bP (gK hr.u100) (cA (gA hr.u200 hr.gd) rfl (Z 15 _ rfl) fL (aD (bD (Jn D Z aX bB aV aW aU aZ aT bA aS bC aR aY) hr (aD (eN Ml rfl (Z 14 _ rfl) Ba (aD (aB 5) aJ)) aJ)) aJ)) (cA (gA hr.u200 hr.gd) rfl (Z 15 _ rfl) fL (aD (aB 4) aJ))) (gG (bP (gK hr.u100) (cA (gA hr.u200 hr.gd) rfl (Z 15 _ rfl) fL (aD (GK (bD (Li D Z aX bB aV aW aU aZ aT bA aS bC aR aY) hr (aD (aB 4) aJ))) aJ)) (cA (gA hr.u200 hr.gd) rfl (Z 15 _ rfl) fL (aD (aB 5) aJ))))))) (aH (bO iO) aM) aM) (aH (jM PassesOwn.never rfl (gZ rfl (Z 9 _ rfl) (cA dG rfl (Z 5 _ rfl) dC (aD (aO (aB 4) aK) aJ))) (bZ 9 nd) (aH (bJ 10 nd (aO (aB 5) (bK cH (cA dG rfl (Z 5 _ rfl) dC (aD (aB 3) aJ)) (aB 9)))) (aH (bX (bP (gK hr.u100) (cA (gA hr.u200 hr.gd) rfl (Z 15 _ rfl) fL (aD (bD (Mw D Z aX bB aV aW aU aZ aT bA aS bC aR aY) hr (aD (aB 3) (aD (aO (aO (aB 4) aK) (aB 9)) aJ))) aJ)) (cA (gA hr.u200 hr.gd) rfl (Z 15 _ rfl) fL (aD (aB 10) aJ))) (aH (bO iO) aM) aM) (aH (bX (bP (gK hr.u100) (cA (gA hr.u200 hr.gd) rfl (Z 15 _ rfl) fL (aD (bD (j5 D Z aX bB aV aW aU aZ aT bA aS bC aR aY) hr (aD (aB 3) (aD (aB 10) aJ))) aJ)) (cA (gA hr.u200 hr.gd) rfl (Z 15 _ rfl) fL (aD (aO (aO (aB 4) aK) (aB 9)) aJ))) (aH (bO iO) aM) aM) aM)))) aM)))))))))))))) (aH (bO iO) aM))
end
theorem all_mk{l:PySem.W.OpenLaw}{w:World}{K:ac}{h:Heap}{mg:Str->Option Value}{fa:Addr}(X:K.In h)(G:h.Ns mainGlobals mg)(hfa:mg "law"=some (.ref fa))(D:∀ (i:Nat) (nm:Str) (st:Stmt) (a:Addr),Cu[i]?=some (nm,st,a)->Df K mg nm st a)(Z:∀ (i:Nat) (x:Str),Pu[i]?=some x->mg x=none)
  {jW:Addr} {n_END_COUNTS:Nat} {t_END_COUNTS_0 u_END_COUNTS_0 t_END_COUNTS_1 u_END_COUNTS_1:Tok} (yX:PySem.W.nsIn K mainGlobals "END_COUNTS"=some (some (.ref jW))) (zG:K.lookup jW=some ⟨.type "dict",none,.dict #[⟨PyData.keyHash w.params "point",.str "point" t_END_COUNTS_0,.int (1) u_END_COUNTS_0⟩,⟨PyData.keyHash w.params "stretch",.str "stretch" t_END_COUNTS_1,.int (2) u_END_COUNTS_1⟩] n_END_COUNTS,#[]⟩)  (y_END_COUNTS:(jW==sysModules)=false)
  {jF k_POINT_WORDS_0 r_POINT_WORDS_0 k_POINT_WORDS_1 r_POINT_WORDS_1 k_POINT_WORDS_2 r_POINT_WORDS_2:Addr} {n_POINT_WORDS:Nat} {tk_POINT_WORDS_0_0 tk_POINT_WORDS_0_1 tr_POINT_WORDS_0_0 tr_POINT_WORDS_0_1 tr_POINT_WORDS_0_2 tk_POINT_WORDS_1_0 tk_POINT_WORDS_1_1 tr_POINT_WORDS_1_0 tr_POINT_WORDS_1_1 tr_POINT_WORDS_1_2 tr_POINT_WORDS_1_3 tr_POINT_WORDS_1_4 tk_POINT_WORDS_2_0 tk_POINT_WORDS_2_1 tr_POINT_WORDS_2_0 tr_POINT_WORDS_2_1 tr_POINT_WORDS_2_2 tr_POINT_WORDS_2_3 tr_POINT_WORDS_2_4:Tok} (wW:PySem.W.nsIn K mainGlobals "POINT_WORDS"=some (some (.ref jF))) (wE:K.lookup jF=some ⟨.type "dict",none,.dict #[⟨reduceHash (Builtin.Tuple.tupleHashOf [PyData.keyHash w.params "point",PyData.keyHash w.params "point"]),.ref k_POINT_WORDS_0,.ref r_POINT_WORDS_0⟩,⟨reduceHash (Builtin.Tuple.tupleHashOf [PyData.keyHash w.params "point",PyData.keyHash w.params "stretch"]),.ref k_POINT_WORDS_1,.ref r_POINT_WORDS_1⟩,⟨reduceHash (Builtin.Tuple.tupleHashOf [PyData.keyHash w.params "stretch",PyData.keyHash w.params "point"]),.ref k_POINT_WORDS_2,.ref r_POINT_WORDS_2⟩] n_POINT_WORDS,#[]⟩) {nk_POINT_WORDS_0:Nat} {slk_POINT_WORDS_0:Array (Option Value)} (lk_POINT_WORDS_0:K.lookup k_POINT_WORDS_0=some ⟨.type "tuple",none,.seq #[.str "point" tk_POINT_WORDS_0_0,.str "point" tk_POINT_WORDS_0_1] nk_POINT_WORDS_0,slk_POINT_WORDS_0⟩) {nr_POINT_WORDS_0:Nat} {slr_POINT_WORDS_0:Array (Option Value)} (lr_POINT_WORDS_0:K.lookup r_POINT_WORDS_0=some ⟨.type "tuple",none,.seq #[.str "ahead" tr_POINT_WORDS_0_0,.str "same" tr_POINT_WORDS_0_1,.str "behind" tr_POINT_WORDS_0_2] nr_POINT_WORDS_0,slr_POINT_WORDS_0⟩) {nk_POINT_WORDS_1:Nat} {slk_POINT_WORDS_1:Array (Option Value)} (lk_POINT_WORDS_1:K.lookup k_POINT_WORDS_1=some ⟨.type "tuple",none,.seq #[.str "point" tk_POINT_WORDS_1_0,.str "stretch" tk_POINT_WORDS_1_1] nk_POINT_WORDS_1,slk_POINT_WORDS_1⟩) {nr_POINT_WORDS_1:Nat} {slr_POINT_WORDS_1:Array (Option Value)} (lr_POINT_WORDS_1:K.lookup r_POINT_WORDS_1=some ⟨.type "tuple",none,.seq #[.str "ahead" tr_POINT_WORDS_1_0,.str "begins" tr_POINT_WORDS_1_1,.str "within" tr_POINT_WORDS_1_2,.str "ends" tr_POINT_WORDS_1_3,.str "behind" tr_POINT_WORDS_1_4] nr_POINT_WORDS_1,slr_POINT_WORDS_1⟩) {nk_POINT_WORDS_2:Nat} {slk_POINT_WORDS_2:Array (Option Value)} (lk_POINT_WORDS_2:K.lookup k_POINT_WORDS_2=some ⟨.type "tuple",none,.seq #[.str "stretch" tk_POINT_WORDS_2_0,.str "point" tk_POINT_WORDS_2_1] nk_POINT_WORDS_2,slk_POINT_WORDS_2⟩) {nr_POINT_WORDS_2:Nat} {slr_POINT_WORDS_2:Array (Option Value)} (lr_POINT_WORDS_2:K.lookup r_POINT_WORDS_2=some ⟨.type "tuple",none,.seq #[.str "ahead" tr_POINT_WORDS_2_0,.str "ended" tr_POINT_WORDS_2_1,.str "holds" tr_POINT_WORDS_2_2,.str "begun" tr_POINT_WORDS_2_3,.str "behind" tr_POINT_WORDS_2_4] nr_POINT_WORDS_2,slr_POINT_WORDS_2⟩) (y_POINT_WORDS:(jF==sysModules)=false)
  {qW:Tok} (xB:PySem.W.nsIn K mainGlobals "LONGEST_NAME"=some (some (.int (8) qW)))
  {oP:Tok} (vY:PySem.W.nsIn K mainGlobals "LETTERS"=some (some (.str "abcdefghijklmnopqrstuvwxyz" oP)))
  {pN:Tok} (yZ:PySem.W.nsIn K mainGlobals "FIGURES"=some (some (.str "0123456789" pN)))
  {rS:Tok} (yG:PySem.W.nsIn K mainGlobals "MOST_FIGURES"=some (some (.int (6) rS)))
  {oY:Tok} (uO:PySem.W.nsIn K mainGlobals "MOST_THINGS"=some (some (.int (6) oY)))
  {qJ:Tok} (yU:PySem.W.nsIn K mainGlobals "MOST_SAYINGS"=some (some (.int (24) qJ)))
  {kJ:Addr} {n_ORDER:Nat} {sl_ORDER:Array (Option Value)} {t_ORDER_0 t_ORDER_1 t_ORDER_2 t_ORDER_3 t_ORDER_4 t_ORDER_5 t_ORDER_6 t_ORDER_7 t_ORDER_8 t_ORDER_9 t_ORDER_10 t_ORDER_11 t_ORDER_12:Tok} (tE:PySem.W.nsIn K mainGlobals "ORDER"=some (some (.ref kJ))) (yJ:K.lookup kJ=some ⟨.type "tuple",none,.seq #[.str "ahead" t_ORDER_0,.str "meets" t_ORDER_1,.str "overlaps" t_ORDER_2,.str "begins" t_ORDER_3,.str "within" t_ORDER_4,.str "ends" t_ORDER_5,.str "same" t_ORDER_6,.str "ended" t_ORDER_7,.str "holds" t_ORDER_8,.str "begun" t_ORDER_9,.str "lapped" t_ORDER_10,.str "met" t_ORDER_11,.str "behind" t_ORDER_12] n_ORDER,sl_ORDER⟩)
  : ∃ fd:FuncData,(∀ (s:Shared) (v:Value),BindsTo s fd ⟨[v],[]⟩ [("_law_script",v)])/\∀ base:Heap,K.In base->base.Ns mainGlobals mg->FnOk l.prog w K mg base eV 7 fa fd ["_law_script"] (LSp K 1 nN):=by
 have aT:=PySem.W.mg_of X G wW
 have Kk_POINT_WORDS_0:KT K k_POINT_WORDS_0 ["point","point"]:=⟨_,_,_,lk_POINT_WORDS_0,rfl,rfl,rfl,by show 2<=sizeLine;rw[sizeLine_eq];decide,.cons ⟨_,rfl⟩ (.cons ⟨_,rfl⟩ (.nil))⟩
 have Kr_POINT_WORDS_0:KT K r_POINT_WORDS_0 ["ahead","same","behind"]:=⟨_,_,_,lr_POINT_WORDS_0,rfl,rfl,rfl,by show 3<=sizeLine;rw[sizeLine_eq];decide,.cons ⟨_,rfl⟩ (.cons ⟨_,rfl⟩ (.cons ⟨_,rfl⟩ (.nil)))⟩
 have Kk_POINT_WORDS_1:KT K k_POINT_WORDS_1 ["point","stretch"]:=⟨_,_,_,lk_POINT_WORDS_1,rfl,rfl,rfl,by show 2<=sizeLine;rw[sizeLine_eq];decide,.cons ⟨_,rfl⟩ (.cons ⟨_,rfl⟩ (.nil))⟩
 have Kr_POINT_WORDS_1:KT K r_POINT_WORDS_1 ["ahead","begins","within","ends","behind"]:=⟨_,_,_,lr_POINT_WORDS_1,rfl,rfl,rfl,by show 5<=sizeLine;rw[sizeLine_eq];decide,.cons ⟨_,rfl⟩ (.cons ⟨_,rfl⟩ (.cons ⟨_,rfl⟩ (.cons ⟨_,rfl⟩ (.cons ⟨_,rfl⟩ (.nil)))))⟩
 have Kk_POINT_WORDS_2:KT K k_POINT_WORDS_2 ["stretch","point"]:=⟨_,_,_,lk_POINT_WORDS_2,rfl,rfl,rfl,by show 2<=sizeLine;rw[sizeLine_eq];decide,.cons ⟨_,rfl⟩ (.cons ⟨_,rfl⟩ (.nil))⟩
 have Kr_POINT_WORDS_2:KT K r_POINT_WORDS_2 ["ahead","ended","holds","begun","behind"]:=⟨_,_,_,lr_POINT_WORDS_2,rfl,rfl,rfl,by show 5<=sizeLine;rw[sizeLine_eq];decide,.cons ⟨_,rfl⟩ (.cons ⟨_,rfl⟩ (.cons ⟨_,rfl⟩ (.cons ⟨_,rfl⟩ (.cons ⟨_,rfl⟩ (.nil)))))⟩
 have bA:pV K w jF wT:=⟨[(["point","point"],k_POINT_WORDS_0,.ref r_POINT_WORDS_0),(["point","stretch"],k_POINT_WORDS_1,.ref r_POINT_WORDS_1),(["stretch","point"],k_POINT_WORDS_2,.ref r_POINT_WORDS_2)],⟨_,_,_,wE,rfl,rfl,rfl,rfl,⟨rfl,rfl,rfl,Kk_POINT_WORDS_0,⟨rfl,rfl,rfl,Kk_POINT_WORDS_1,⟨rfl,rfl,rfl,Kk_POINT_WORDS_2,True.intro⟩⟩⟩,by show List.Nodup ([["point","point"],["point","stretch"],["stretch","point"]]:List (List Str));decide +kernel,y_POINT_WORDS⟩,fun Z m H=>⟨_,_,rfl,KT.rp Kr_POINT_WORDS_0,⟨_,_,rfl,KT.rp Kr_POINT_WORDS_1,⟨_,_,rfl,KT.rp Kr_POINT_WORDS_2,rfl⟩⟩⟩⟩
 have aS:=PySem.W.mg_of X G tE
 have bC:KT K kJ ["ahead","meets","overlaps","begins","within","ends","same","ended","holds","begun","lapped","met","behind"]:=⟨_,_,_,yJ,rfl,rfl,rfl,by show 13<=sizeLine;rw[sizeLine_eq];decide,.cons ⟨_,rfl⟩ (.cons ⟨_,rfl⟩ (.cons ⟨_,rfl⟩ (.cons ⟨_,rfl⟩ (.cons ⟨_,rfl⟩ (.cons ⟨_,rfl⟩ (.cons ⟨_,rfl⟩ (.cons ⟨_,rfl⟩ (.cons ⟨_,rfl⟩ (.cons ⟨_,rfl⟩ (.cons ⟨_,rfl⟩ (.cons ⟨_,rfl⟩ (.cons ⟨_,rfl⟩ (.nil)))))))))))))⟩
 have aX:=PySem.W.mg_of X G xB
 have bB:=PySem.W.mg_of X G vY
 have aR:=PySem.W.mg_of X G yX
 have aY:KD K w jW lE:=⟨[("point",.int (1)),("stretch",.int (2))],⟨_,_,_,zG,rfl,rfl,rfl,rfl,⟨rfl,⟨_,rfl⟩,⟨_,rfl⟩,⟨rfl,⟨_,rfl⟩,⟨_,rfl⟩,True.intro⟩⟩,by show List.Nodup (["point","stretch"]:List Str);decide +kernel,y_END_COUNTS⟩,fun Z m H=>⟨_,_,rfl,by simp only[RP],⟨_,_,rfl,by simp only[RP],rfl⟩⟩⟩
 have aV:=PySem.W.mg_of X G yZ
 have aW:=PySem.W.mg_of X G yG
 have aU:=PySem.W.mg_of X G uO
 have aZ:=PySem.W.mg_of X G yU
 refine HF (D 43 _ _ _ rfl) hfa (fun _ _ _ _ _ _=>Mc (by intros;rfl)) fun base=>?_
 exact ER D Z aX bB aV aW aU aZ aT bA aS bC aR aY
theorem walk{l:PySem.W.OpenLaw}{q:Program}{loose:List Str}{XP:(Str->Option Value)->Heap->Prop}{YP:World->Heap->Prop}{d:DefRec}{K:Params->ac}(hn:l.most=some 63)(hdf:d.params.defaults=[])
  (hY:∀ (w:World) (h:Heap),YP w h->(K w.params).In h)
  (F:∀ (w:World) (mg:Str->Option Value) (fa:Addr) (h:Heap),(K w.params).In h->h.Ns mainGlobals mg->mg d.name=some (.ref fa) ->
   ∃ fd:FuncData,(∀ (s:Shared) (u:Value),BindsTo s fd ⟨[u],[]⟩ [("_law_script",u)])/\∀ base:Heap,(K w.params).In base->base.Ns mainGlobals mg->FnOk l.prog w (K w.params) mg base eV 7 fa fd ["_law_script"] (LSp (K w.params) 1 nN)) :
  PySem.W.WalkO q loose XP YP l.row.toRowW d [] (fun f vs=>PySem.call f vs) :=
 L2.walk_of (n:=63) (k:=7) (x:="_law_script") (CX:=fun _=>eV) (sp:=fun w=>LSp (K w.params) 1 nN) hn (by decide) hdf ⟨rfl,rfl,by decide,by decide⟩ hY F (fun _ _ a ns hl _ hS=>T4 hS ⟨ns,rfl,hl,fun _=>rfl⟩) fun _ _ _ _ _ z=>z
def AA(P:Params):Obj:=⟨Value.type "dict",none,Data.dict #[{hash:=reduceHash (Builtin.Tuple.tupleHashOf [PyData.keyHash P (Str.ofString "point"),PyData.keyHash P (Str.ofString "point")]),key:=Value.ref 70,val:=Value.ref 71},{hash:=reduceHash (Builtin.Tuple.tupleHashOf [PyData.keyHash P (Str.ofString "point"),PyData.keyHash P (Str.ofString "stretch")]),key:=Value.ref 72,val:=Value.ref 73},{hash:=reduceHash (Builtin.Tuple.tupleHashOf [PyData.keyHash P (Str.ofString "stretch"),PyData.keyHash P (Str.ofString "point")]),key:=Value.ref 74,val:=Value.ref 75}] 3,#[]⟩
def Zo(P:Params):Obj:=⟨Value.type "tuple",none,Data.seq #[Value.str (Str.ofString "point") 276,Value.str (Str.ofString "point") 277],#[]⟩
def G9(P:Params):Obj:=⟨Value.type "tuple",none,Data.seq #[Value.str (Str.ofString "ahead") 278,Value.str (Str.ofString "same") 279,Value.str (Str.ofString "behind") 280],#[]⟩
def M8(P:Params):Obj:=⟨Value.type "tuple",none,Data.seq #[Value.str (Str.ofString "point") 281,Value.str (Str.ofString "stretch") 282],#[]⟩
def C0(P:Params):Obj:=⟨Value.type "tuple",none,Data.seq #[Value.str (Str.ofString "ahead") 283,Value.str (Str.ofString "begins") 284,Value.str (Str.ofString "within") 285,Value.str (Str.ofString "ends") 286,Value.str (Str.ofString "behind") 287],#[]⟩
def Xb(P:Params):Obj:=⟨Value.type "tuple",none,Data.seq #[Value.str (Str.ofString "stretch") 288,Value.str (Str.ofString "point") 289],#[]⟩
def Xz(P:Params):Obj:=⟨Value.type "tuple",none,Data.seq #[Value.str (Str.ofString "ahead") 290,Value.str (Str.ofString "ended") 291,Value.str (Str.ofString "holds") 292,Value.str (Str.ofString "begun") 293,Value.str (Str.ofString "behind") 294],#[]⟩
def kk(P:Params):ac:=[(3,H17.o3 P),(52,H17.o52 P),(53,H17.o53 P),(59,H17.o59 P),(60,H17.o60 P),(66,H17.o66 P),(67,H17.o67 P),(68,H17.o68 P),(69,AA P),(70,Zo P),(71,G9 P),(72,M8 P),(73,C0 P),(74,Xb P),(75,Xz P),(76,H17.o76 P),(82,H17.o82 P),(83,H17.o83 P),(87,H17.o87 P),(88,H17.o88 P),(92,H17.o92 P),(93,H17.o93 P),(99,H17.o99 P),(100,H17.o100 P),(104,H17.o104 P),(105,H17.o105 P),(111,H17.o111 P),(112,H17.o112 P),(116,H17.o116 P),(117,H17.o117 P),(123,H17.o123 P),(124,H17.o124 P),(130,H17.o130 P),(131,H17.o131 P),(137,H17.o137 P),(138,H17.o138 P),(144,H17.o144 P),(145,H17.o145 P),(149,H17.o149 P),(150,H17.o150 P),(156,H17.o156 P),(157,H17.o157 P),(163,H17.o163 P),(164,H17.o164 P),(170,H17.o170 P),(171,H17.o171 P),(177,H17.o177 P),(178,H17.o178 P),(184,H17.o184 P),(185,H17.o185 P),(191,H17.o191 P),(192,H17.o192 P),(196,H17.o196 P),(197,H17.o197 P),(203,H17.o203 P),(204,H17.o204 P),(210,H17.o210 P),(211,H17.o211 P),(217,H17.o217 P),(218,H17.o218 P),(224,H17.o224 P),(225,H17.o225 P),(231,H17.o231 P),(232,H17.o232 P),(238,H17.o238 P),(239,H17.o239 P),(245,H17.o245 P),(246,H17.o246 P),(250,H17.o250 P),(251,H17.o251 P),(255,H17.o255 P),(256,H17.o256 P),(260,H17.o260 P),(261,H17.o261 P),(265,H17.o265 P),(266,H17.o266 P),(272,H17.o272 P),(273,H17.o273 P),(277,H17.o277 P),(278,H17.o278 P),(284,H17.o284 P),(285,H17.o285 P),(291,H17.o291 P),(292,H17.o292 P),(296,H17.o296 P),(297,H17.o297 P),(303,H17.o303 P),(304,H17.o304 P),(310,H17.o310 P),(311,H17.o311 P),(317,H17.o317 P),(318,H17.o318 P),(324,H17.o324 P),(325,H17.o325 P),(329,H17.o329 P),(330,H17.o330 P),(336,H17.o336 P),(337,H17.o337 P)]
end K17
open PySem PySem.W PyProof.Rows
set_option maxRecDepth 100000 in
set_option maxHeartbeats 0 in
theorem PySem.Challenge.cw_whens_k17_talks_shown_and_read_holds : PySem.Challenge.rw_whens_k17_talks_shown_and_read.Holds := by
 w_on;refine PySem.W.holds_law (by kernel_rfl) fun said=>?_;refine H17.head (H:=kHook K17.kk [3,52,53,59,60,66,67,68,69,70,71,72,73,74,75,76,82,83,87,88,92,93,99,100,104,105,111,112,116,117,123,124,130,131,137,138,144,145,149,150,156,157,163,164,170,171,177,178,184,185,191,192,196,197,203,204,210,211,217,218,224,225,231,232,238,239,245,246,250,251,255,256,260,261,265,266,272,273,277,278,284,285,291,292,296,297,303,304,310,311,317,318,324,325,329,330,336,337] (fun _=>by kernel_rfl)) (fun w os=>by kernel_rfl) (by assumption) (by rfl) (by rfl) (by rfl) ?hw ?hc;(case hw=>w_witness2)
 k_fill
 refine K17.walk (l:=PySem.Challenge.rw_whens_k17_talks_shown_and_read) rfl rfl (fun w h Y=>PySem.W.kIn_of Y) ?F
 case F =>
  intro w mg fa h KX G hmg
  refine' K17.all_mk   (jF:=69) (kJ:=68) (jW:=76) (qW:=323) (oP:=321) (pN:=359) (rS:=361) (oY:=325) (qJ:=355) KX G hmg (DL.dfs_of KX G _ ?D) (DL.nos_of KX G _ ?Z) ?yX ?zG ?y_END_COUNTS ?wW ?wE ?lk_POINT_WORDS_0 ?lr_POINT_WORDS_0 ?lk_POINT_WORDS_1 ?lr_POINT_WORDS_1 ?lk_POINT_WORDS_2 ?lr_POINT_WORDS_2 ?y_POINT_WORDS ?xB ?vY ?yZ ?yG ?uO ?yU ?tE ?yJ
  (case D=>repeat' first | exact True.intro | refine⟨DL.di (by kernel_rfl) rfl (by kernel_rfl) (by kernel_rfl),?_⟩)
  (case Z=>repeat' first | exact True.intro | refine⟨by kernel_rfl,?_⟩)
  (case yX=>kernel_rfl)
  (case zG=>exact rfl)
  (case y_END_COUNTS=>rfl)
  (case wW=>kernel_rfl)
  (case wE=>exact rfl)
  (case lk_POINT_WORDS_0=>exact rfl)
  (case lr_POINT_WORDS_0=>exact rfl)
  (case lk_POINT_WORDS_1=>exact rfl)
  (case lr_POINT_WORDS_1=>exact rfl)
  (case lk_POINT_WORDS_2=>exact rfl)
  (case lr_POINT_WORDS_2=>exact rfl)
  (case y_POINT_WORDS=>rfl)
  (case xB=>kernel_rfl)
  (case vY=>kernel_rfl)
  (case yZ=>kernel_rfl)
  (case yG=>kernel_rfl)
  (case uO=>kernel_rfl)
  (case yU=>kernel_rfl)
  (case tE=>kernel_rfl)
  (case yJ=>exact rfl)
#print axioms PySem.Challenge.cw_whens_k17_talks_shown_and_read_holds
