import PyProof.Rows.All
import Wide.All
import OpenK.AllK
import Wide.FinOn
import Lean
import PyProof.EqAt
import PyProof.EqKinds
import PyProof.TupleCall
import PyProof.ListMulRoad
import KE.KRevIter
import PyProof.ZipIter
import PyProof.TupleIter
import PyProof.Rows.SortWalk
import PyProof.Rows.SortStr
import PyProof.Rows.StrWeight2
import PyProof.ConsumeWalk
import PyProof.SliceStr2
import PyProof.ListRange
import PyProof.TupleOfSeq
import PyProof.P3In
import PyProof.AttrMissHeap
import KE.KDictOf
import PyProof.StrBlockI
import PyProof.WalksEnum
import PyProof.EnumMake
import PyProof.DictWalks
import PyProof.SetRoads
import PyProof.SetNew
import PyProof.Rows.SetFrom
import PyProof.CollectWalk
import PyProof.StrWalks
import PyProof.FString5
import PyProof.Rows.SortShell
import Open.Tops
import PyProof.DictDisplay
import PyProof.Rows.TupDisplay
import PySem.Challenge.RW_whens_k39_whole_plain_stays_plain
set_option Elab.async false
set_option linter.all false
set_option maxRecDepth 100000
set_option maxHeartbeats 4000000
namespace L2
open PySem PySem.Spec PyProof.Rows
noncomputable instance decPy:DecidableEq PyData:=fun _ _=>Classical.propDecidable _
mutual
def isK:PyData->Bool
 | .int _=>true
 | .str x=>PyData.strOk x
 | .tuple xs=>isKs xs
 | .none | .bool _ | .list _ | .dict _=>false
def isKs:List PyData->Bool
 | []=>true
 | x::xs=>isK x&&isKs xs
end
mutual
def zC(w:World):PyData->Int
 | .int i=>hashInt i
 | .str x=>hashStr w x
 | .tuple xs=>reduceHash (Builtin.Tuple.tupleHashOf (hashKs w xs))
 | .none | .bool _ | .list _ | .dict _=>0
def hashKs(w:World):List PyData->List Int
 | []=>[]
 | x::xs=>zC w x::hashKs w xs
end
mutual
def Ev:PyData->Nat
 | .int _ | .str _=>1
 | .tuple xs=>drawsKs xs+1
 | .none | .bool _ | .list _ | .dict _=>0
def drawsKs:List PyData->Nat
 | []=>0
 | x::xs=>Ev x+drawsKs xs
end
mutual
theorem sP:∀ p:PyData,isK p=true->p.canLay0=true
 | .int _,_=>rfl
 | .str _,h=>h
 | .tuple xs,h=>isKs_lay xs h
 | .none,h | .bool _,h | .list _,h | .dict _,h=>by simp[isK]at h
theorem isKs_lay:∀ ps:List PyData,isKs ps=true->PyData.canLayAll0 ps=true
 | [],_=>rfl
 | x::xs,h=>by
  simp only[isKs,Bool.and_eq_true]at h;simp only[PyData.canLayAll0,sP x h.1,isKs_lay xs h.2,Bool.and_self]
end
mutual
theorem Hs:∀ p q:PyData,isK p=true->isK q=true->p.eqv q=decide (p=q)
 | .int i,.int j,_,_=>by
  simp only[PyData.eqv,PyData.int.injEq];exact Bool.eq_iff_iff.mpr (by simp)
 | .str x,.str y,_,_=>by
  simp only[PyData.eqv,PyData.str.injEq];exact Bool.eq_iff_iff.mpr (by simp)
 | .tuple xs,.tuple ys,h,h'=>by
  have e:=isKs_eqv xs ys h h'
  simp only[PyData.eqv,PyData.tuple.injEq];exact e
 | .int i,.str y,_,_ | .str y,.int i,_,_ | .int i,.tuple y,_,_ | .tuple y,.int i,_,_ | .str i,.tuple y,_,_ | .tuple y,.str i,_,_=>by
  simp only[PyData.eqv];exact(decide_eq_false (fun e=>nomatch e)).symm
 | .none,_,h,_ | .bool _,_,h,_ | .list _,_,h,_ | .dict _,_,h,_=>by simp[isK]at h
 | .int _,.none,_,h | .int _,.bool _,_,h | .int _,.list _,_,h | .int _,.dict _,_,h=>by simp[isK]at h
 | .str _,.none,_,h | .str _,.bool _,_,h | .str _,.list _,_,h | .str _,.dict _,_,h=>by simp[isK]at h
 | .tuple _,.none,_,h | .tuple _,.bool _,_,h | .tuple _,.list _,_,h | .tuple _,.dict _,_,h=>by simp[isK]at h
theorem isKs_eqv:∀ p q:List PyData,isKs p=true->isKs q=true->PyData.eqvAll p q=decide (p=q)
 | [],[],_,_=>by simp[PyData.eqvAll]
 | [],_::_,_,_=>by simp[PyData.eqvAll]
 | _::_,[],_,_=>by simp[PyData.eqvAll]
 | x::xs,y::ys,h,h'=>by
  simp only[isKs,Bool.and_eq_true]at h h';simp only[PyData.eqvAll,Hs x y h.1 h'.1,isKs_eqv xs ys h.2 h'.2,List.cons.injEq];exact(Bool.decide_and _ _).symm
end
mutual
theorem Nd{h h':Heap}{d:Addr}{o:Obj}{es ep}(ho:h.get? d=some o)(hd:o.data=.dict es ep)(hs:Heap.SameBut d h h') :
  ∀ (p:PyData) (v:Value) (as:List Addr),isK p=true->Reads h v p as->Reads h' v p as
 | .int _,_,_,_,r=>by cases r;exact .int _ _
 | .str _,_,_,_,r=>by cases r;exact .str _ _
 | .tuple xs,_,_,hk,r=>by
  cases r with
  | tuple h1 h2 h3 h4 =>
   rename_i a ob vs n;have hne:a≠d:=by
    rintro rfl;obtain rfl:ob=o:=Option.some.inj (h1.symm.trans ho);rw[hd]at h3;exact nomatch h3
   exact .tuple ((hs.2 _ hne).trans h1) h2 h3 (readsAll_keep ho hd hs xs _ _ hk h4)
 | .none,_,_,h,_ | .bool _,_,_,h,_ | .list _,_,_,h,_ | .dict _,_,_,h,_=>by simp[isK]at h
theorem readsAll_keep{h h':Heap}{d:Addr}{o:Obj}{es ep}(ho:h.get? d=some o)(hd:o.data=.dict es ep)(hs:Heap.SameBut d h h') :
  ∀ (ps:List PyData) (vs:List Value) (as:List Addr),isKs ps=true->ReadsAll h vs ps as->ReadsAll h' vs ps as
 | [],_,_,_,r=>by cases r;exact .nil
 | x::xs,_,_,hk,r=>by
  simp only[isKs,Bool.and_eq_true]at hk
  cases r with
  | cons r1 r2=>exact .cons (Nd ho hd hs x _ _ hk.1 r1) (readsAll_keep ho hd hs xs _ _ hk.2 r2)
end
section
variable {prog:Program}{w:World}
mutual
theorem Np:∀ (p:PyData) (v:Value) (A:Around) (E:Value->Shared->Prop) (s:Shared) (as:List Addr) (Q:Int->Shared->Prop),isK p=true->Reads s.heap v p as->A.units+p.depth<cLine ->
  Q (zC w p) {s with toks:=s.toks+Ev p}->wpAny (model prog w) A (pyHash v) Q E s
 | .int i,_,A,E,s,_,Q,_,r,_,h=>by cases r;exact wpAny_pyHash_int h
 | .str x,_,A,E,s,_,Q,_,r,_,h=>by cases r;exact wpAny_pyHash_str h
 | .tuple xs,_,A,E,s,_,Q,hk,r,hu,h=>by
  cases r with
  | tuple h1 h2 h3 h4 =>
   refine PySem.W.pyHash_slot (T:="tuple") ⟨_,h1,h2⟩ F.slot_tuple_hash F.entry_tuple_hash (F.args_tuple_hash_1 _) (beq_builtin_none _) (.inr (by omega)) ?_
   show wpAny _ _ (Builtin.Tuple.tupleItemsOf (.ref _)>>=_) _ _ s
   refine wpAny_bind (wpAny_tupleItemsOf h1 h3 ?_);refine wpAny_bind ?_;rw[<- Array.forIn_toList];refine hash_readsAll xs _ A.in1 E s _ #[] _ hk h4 (by simp only[PyData.depth,Around.in1_units]at hu ⊢;omega) fun b hb=>?_
   show wpAny _ _ (retInt (Builtin.Tuple.tupleHashOf b.toList)) _ _ _
   rw[hb];exact wpAny_bind (wpAny_mkInt (wpAny_pure ⟨_,_,rfl,h⟩))
 | .none,_,_,_,_,_,_,h,_,_,_ | .bool _,_,_,_,_,_,_,h,_,_,_ | .list _,_,_,_,_,_,_,h,_,_,_ | .dict _,_,_,_,_,_,_,h,_,_,_=>by simp[isK]at h
theorem hash_readsAll:∀ (ps:List PyData) (vs:List Value) (A:Around) (E:Value->Shared->Prop) (s:Shared) (as:List Addr) (b:Array Int) (Q:Array Int->Shared->Prop),isKs ps=true->ReadsAll s.heap vs ps as->A.units+PyData.depthAll ps<cLine ->
  (∀ b',b'.toList=b.toList++hashKs w ps->Q b' {s with toks:=s.toks+drawsKs ps}) ->
  wpAny (model prog w) A (forIn vs b fun x r=>do let h <- pyHash x;pure PUnit.unit;pure (ForInStep.yield (r.push h))) Q E s
 | [],_,A,E,s,_,b,Q,_,x,_,h=>by cases x;exact wpAny_pure (h b (by simp[hashKs]))
 | k::xs,_,A,E,s,_,b,Q,hk,x,hu,h=>by
  cases x with
  | cons x1 x2 =>
   simp only[isKs,Bool.and_eq_true,PyData.depthAll]at hk hu;rw[List.forIn_cons];refine wpAny_bind (wpAny_bind (Np k _ A E s _ _ hk.1 x1 (by omega) ?_))
   refine wpAny_bind (wpAny_pure (wpAny_pure ?_));refine hash_readsAll xs _ A E _ _ _ Q hk.2 x2 (by omega) fun b' hb=>?_
   have:=h b' (by simp[hb,hashKs])
   simpa[drawsKs,Nat.add_assoc] using this
end
mutual
theorem Nb:∀ (p:PyData) (v:Value) (A:Around) (E:Value->Shared->Prop) (s:Shared) (as:List Addr) (n:Nat) (Q:Bool->Shared->Prop),isK p=true->Reads s.heap v p as->p.depth<=n ->
  Q true s->wpAny (model prog w) A (eqIsQuiet n v) Q E s
 | .int i,_,A,E,s,_,n,Q,_,r,_,h=>by cases r;rw[eqIsQuiet_byValue _ rfl];exact wpAny_pure h
 | .str x,_,A,E,s,_,n,Q,_,r,_,h=>by cases r;rw[eqIsQuiet_byValue _ rfl];exact wpAny_pure h
 | .tuple xs,_,A,E,s,_,n,Q,hk,r,hn,h=>by
  cases r with
  | tuple h1 h2 h3 h4 =>
   have hT:s.TypeIs (.ref _) "tuple":=⟨_,h1,h2⟩
   unfold eqIsQuiet;refine wpAny_bind (wpAny_specialOf hT F.slot_tuple_eq.lookup ?_);show wpAny _ _ (isInstance (.ref _) (.type "tuple")>>=_) _ _ s
   refine wpAny_bind (wpAny_isInstance hT isSubtype_tuple_tuple ?_);simp only[Bool.not_true,Bool.false_eq_true,if_false];simp only[PyData.depth]at hn;obtain⟨n',rfl⟩:∃ n',n=n'+1:=⟨n-1,by omega⟩
   refine wpAny_bind (wpAny_seqItems h1 h3 ?_);refine wpAny_bind ?_;show wpAny _ _ (forIn _ _ _) _ _ s
   rw[<- Array.forIn_toList];refine wpAny_forIn_list _ (fun rest r s'=>r.1=none/\s'=s/\∃ ps as,isKs ps=true/\PyData.depthAll ps<=n'/\(∀ q∈ps,q∈xs)/\ReadsAll s.heap rest ps as) _ ?_ ?_ _ _ ⟨rfl,rfl,xs,_,hk,by omega,fun _ z=>z,h4⟩
   ·rintro v rest r s' ⟨hr,rfl,ps,as',hks,hd,hmem,ra⟩
    cases ra with
    | cons r1 r2 =>
     rename_i q qs as1 as2;simp only[isKs,Bool.and_eq_true,PyData.depthAll]at hks hd;have hq:q∈xs:=hmem q List.mem_cons_self
     have hdep:sizeOf q<sizeOf (PyData.tuple xs):=by have:=List.sizeOf_lt_of_mem hq;simp;omega
     refine wpAny_bind (Nb q v A E _ _ _ _ hks.1 r1 (by omega) ?_)
     simp only[Bool.not_true,Bool.false_eq_true,if_false];exact wpAny_pure ⟨rfl,rfl,qs,_,hks.2,by omega,fun z hz=>hmem z (List.mem_cons_of_mem _ hz),r2⟩
   ·rintro⟨r1,r2⟩ s' ⟨hr,rfl,_⟩;simp only at hr;subst hr;exact wpAny_pure h
 | .none,_,_,_,_,_,_,_,h,_,_,_ | .bool _,_,_,_,_,_,_,_,h,_,_,_ | .list _,_,_,_,_,_,_,_,h,_,_,_ | .dict _,_,_,_,_,_,_,_,h,_,_,_=>by simp[isK]at h
termination_by p=>sizeOf p
end
end
noncomputable def qL(prog:Program)(w:World):HeapKind prog w (List PyData) where
 is:=fun h ks a=>isKs ks=true/\PyData.depthAll ks<=6/\∃ as,Reads h (.ref a) (.tuple ks) as
 hash:=fun ks=>zC w (.tuple ks)
 draws:=fun ks=>Ev (.tuple ks)
 room:=fun A=>A.units+20<cLine
 inj:=fun {h a x y} hx hy=>by
  obtain⟨k1,_,_,r1⟩:=hx;obtain⟨k2,_,_,r2⟩:=hy;have e:=SeqAt.Reads.unique _ _ _ _ _ (sP (.tuple x) k1) r1 r2
  exact PyData.tuple.inj e
 keeps:=fun x ho hd hs=>let ⟨k1,k2,as,r⟩:=x;⟨k1,k2,as,Nd ho hd hs _ _ _ k1 r⟩
 pyHash:=fun {A E s k a Q} hu hk h=>by
  obtain⟨k1,k2,as,r⟩:=hk;exact Np (.tuple k) _ A E s as Q k1 r (by simp only[PyData.depth];omega) h
 eqBool:=fun {A E s x y a b Q} hu hx hy h=>by
  obtain⟨k1,d1,as,r1⟩:=hx;obtain⟨k2,d2,bs,r2⟩:=hy;refine SeqAt.eqAt_reads (.tuple x) (.tuple y) A s _ _ _ _ r1 r2 (sP (.tuple x) k1) (sP (.tuple y) k2) (by simp only[PyData.depth];omega) prog w E Q ?_
  rw[Hs (.tuple x) (.tuple y) k1 k2];have e:decide (PyData.tuple x=PyData.tuple y)=decide (x=y):=by
   simp only[PyData.tuple.injEq]
  rw[e];exact h
 quiet:=fun {A E s k a Q} hk h=>by
  obtain⟨k1,k2,as,r⟩:=hk;exact Nb (.tuple k) _ A E s as 8 Q k1 r (by simp only[PyData.depth];omega) h
end L2
namespace L2
open PySem PySem.Spec PyProof.Rows
abbrev aJ:=Sum Int Str
def mT:aJ->Value->Bool
 | .inl k,v=>Value.isInt k v
 | .inr x,v=>Value.isStrOf x v
def Qn(w:World):aJ->Int
 | .inl k=>hashInt k
 | .inr x=>hashStr w x
theorem iF:∀ {k:aJ} {v:Value},mT k v=true->(∃ i t,k=Sum.inl i/\v=Value.int i t)\/(∃ x t,k=Sum.inr x/\v=Value.str x t)
 | .inl i,v,h=>by
  obtain⟨t,e⟩:=Value.isInt_shape (k:=i) (v:=v) h;exact .inl ⟨i,t,rfl,e⟩
 | .inr x,v,h=>by
  obtain⟨t,e⟩:=Value.isStrOf_shape (x:=x) (v:=v) h;exact .inr ⟨x,t,rfl,e⟩
theorem Nn(i:Int)(t:Tok):mT (.inl i) (.int i t)=true:=by simp[mT,Value.isInt]
theorem Rq(x:Str)(t:Tok):mT (.inr x) (.str x t)=true:=by simp[mT,Value.isStrOf]
theorem X5(a b:Int):decide ((Sum.inl a:aJ)=Sum.inl b)=(a==b):=by
 by_cases e:a=b
 ·subst e;simp
 ·have h:¬ (Sum.inl a:aJ)=Sum.inl b:=fun q=>e (Sum.inl.inj q)
  rw[decide_eq_false h];exact(beq_eq_false_iff_ne.mpr e).symm
theorem Ov(a b:Str):decide ((Sum.inr a:aJ)=Sum.inr b)=decide (a=b):=by
 by_cases e:a=b
 ·subst e;simp
 ·have h:¬ (Sum.inr a:aJ)=Sum.inr b:=fun q=>e (Sum.inr.inj q)
  rw[decide_eq_false h,decide_eq_false e]
theorem V5(a:Int)(b:Str):decide ((Sum.inl a:aJ)=Sum.inr b)=false:=decide_eq_false (fun q=>nomatch q)
theorem E1(a:Str)(b:Int):decide ((Sum.inr a:aJ)=Sum.inl b)=false:=decide_eq_false (fun q=>nomatch q)
def bM(prog:Program)(w:World):PySem.KeyKind prog w aJ where
 is:=mT
 hash:=Qn w
 inj:=fun v a b ha hb=>by
  rcases iF ha with⟨i,t,rfl,rfl⟩ | ⟨x,t,rfl,rfl⟩
  ·rcases iF hb with⟨j,u,rfl,e⟩ | ⟨y,u,rfl,e⟩
   ·injection e with e1 _;rw[e1]
   ·exact nomatch e
  ·rcases iF hb with⟨j,u,rfl,e⟩ | ⟨y,u,rfl,e⟩
   ·exact nomatch e
   ·injection e with e1 _;rw[e1]
 byValue:=fun k v h=>by
  rcases iF h with⟨i,t,rfl,rfl⟩ | ⟨x,t,rfl,rfl⟩<;>rfl
 pyHash:=fun hv h=>by
  rcases iF hv with⟨i,t,rfl,rfl⟩ | ⟨x,t,rfl,rfl⟩
  ·exact wpAny_pyHash_int h
  ·exact wpAny_pyHash_str h
 eqBool:=fun hu hv h=>by
  rcases iF hu with⟨i,t,rfl,rfl⟩ | ⟨x,t,rfl,rfl⟩
  ·rcases iF hv with⟨j,u,rfl,rfl⟩ | ⟨y,u,rfl,rfl⟩
   ·rw[X5]at h;exact wpAny_eqBool_int h
   ·rw[V5]at h;exact SeqAt.EqAt.int_str i t y u _ _ _ _ h
  ·rcases iF hv with⟨j,u,rfl,rfl⟩ | ⟨y,u,rfl,rfl⟩
   ·rw[E1]at h;exact SeqAt.EqAt.str_int x t j u _ _ _ _ h
   ·rw[Ov]at h;exact wpAny_eqBool_str h
 «strs»:=fun k x t v h=>by
  rcases iF h with⟨i,u,rfl,e⟩ | ⟨y,u,rfl,e⟩
  ·exact nomatch e
  ·injection e with e1 _
   subst e1
   cases v<;>rfl
theorem Yk(prog:Program)(w:World)(i:Int)(t:Tok):(bM prog w).is (.inl i) (.int i t)=true:=Nn i t
theorem y9(prog:Program)(w:World)(x:Str)(t:Tok):(bM prog w).is (.inr x) (.str x t)=true:=Rq x t
end L2
namespace L2
open PySem PySem.Spec PyProof.Rows
inductive V where
 | non | bl (b:Bool) | int (i:Int) | str (x:Str) | byt (b:Array UInt8) | flt (b:UInt64) | ref (a:Addr) | ty (n:String)
 deriving DecidableEq
def RelV:V->Value->Prop
 | .non,u=>u=Value.none
 | .bl b,u=>u=Value.bool b
 | .int i,u=>∃ t,u=Value.int i t
 | .str x,u=>∃ t,u=Value.str x t
 | .byt b,u=>∃ t,u=Value.bytes b t
 | .flt b,u=>∃ t,u=Value.float b t
 | .ref a,u=>u=Value.ref a
 | .ty n,u=>u=Value.type n
abbrev Vals:List V->List Value->Prop:=Paired RelV
theorem Vals.length{xs:List V}{us:List Value}(r:Vals xs us):xs.length=us.length:=Paired.length r
theorem Vals.get:∀ {xs:List V} {us:List Value} {i:Nat} {x:V},Vals xs us->xs[i]?=some x->∃ u,us[i]?=some u/\RelV x u
 | _,_,_,_,.nil,e=>by simp at e
 | _,_,0,_,.cons r _,e=>by simp at e;subst e;exact⟨_,rfl,r⟩
 | _,_,i+1,x,.cons _ t,e=>by
  obtain⟨u,h1,h2⟩:=Vals.get (i:=i) (x:=x) t (by simpa using e)
  exact⟨u,by simpa using h1,h2⟩
theorem Vals.set{x:V}{u:Value}(r:RelV x u):∀ {xs:List V} {us:List Value} (i:Nat),Vals xs us->Vals (xs.set i x) (us.set i u)
 | _,_,_,.nil=>.nil
 | _,_,0,.cons _ t=>.cons r t
 | _,_,i+1,.cons q t=>.cons q (Vals.set r i t)
theorem Vals.append:∀ {xs ys:List V} {us ws:List Value},Vals xs us->Vals ys ws->Vals (xs++ys) (us++ws)
 | _,_,_,_,.nil,s=>s
 | _,_,_,_,.cons r t,s=>.cons r (Vals.append t s)
theorem Vals.take:∀ {xs:List V} {us:List Value} (n:Nat),Vals xs us->Vals (xs.take n) (us.take n)
 | _,_,0,_=>.nil
 | _,_,_+1,.nil=>.nil
 | _,_,n+1,.cons r t=>.cons r (Vals.take n t)
theorem Vals.drop:∀ {xs:List V} {us:List Value} (n:Nat),Vals xs us->Vals (xs.drop n) (us.drop n)
 | _,_,0,r=>r
 | _,_,_+1,.nil=>.nil
 | _,_,n+1,.cons _ t=>Vals.drop n t
theorem Vals.none_of:∀ {xs:List V} {us:List Value} {i:Nat},Vals xs us->xs[i]?=none->us[i]?=none:=fun {xs us i} r e=>by
 have h1:=r.length
 have h2:xs.length<=i:=List.getElem?_eq_none_iff.mp e
 exact List.getElem?_eq_none_iff.mpr (by omega)
def RelO:Option V->Option Value->Prop
 | some v,some u=>RelV v u
 | none,none=>True
 | _,_=>False
def KV{κ:Type}:List (κ×V)->List (κ×Value)->Prop:=Paired fun(p:κ×V) (q:κ×Value)=>p.1=q.1/\RelV p.2 q.2
def kV:aJ->V
 | .inl i=>.int i
 | .inr x=>.str x
inductive HO where
 | lst (xs:List V)
 | tup (xs:List V)
 | dK (kvs:List (aJ×V)) | dT (kvs:List (List aJ×V)) | dN (K:PySem.W.Frag) (kvs:List (List PyData×V))
 | set (S:Int->Bool) (n:Nat)
 | ins (C dx:Addr) (fs:List (Str×V))
 | own (x:Addr)
 | xd (fs:List (Str×V))
 | met (f x:Addr)
 | rng (lo hi:Int)
 | frz (o:Obj) (u:HO)
 | tbl (ps:Array Value)
 | ext (φ:Heap->Prop)
abbrev Hp:=Addr->Option HO
def aE(H:Hp)(a:Addr)(o:HO):Hp:=fun b=>if b=a then some o else H b
theorem bQ{H:Hp}{a:Addr}{o:HO}:aE H a o a=some o:=by unfold aE;rw[if_pos rfl]
theorem aV{H:Hp}{a b:Addr}{o:HO}(h:b≠a):aE H a o b=H b:=by unfold aE;rw[if_neg h]
theorem Ag{H:Hp}{a b:Addr}{o u:HO}(h:H a=some o)(h':H b=some u)(d:o≠u):a≠b:=by
 intro e;subst e;rw[h]at h';exact d (Option.some.inj h')
theorem lB{H:Hp}{a b:Addr}{o:HO}(h:H a=some o)(h':H b=none):a≠b:=by
 intro e;subst e;rw[h]at h';cases h'
def NoD(h:Heap)(a:Addr):Prop:=∃ o,h.get? a=some o/\o.dict=none
theorem NoD.new(h:Heap)(c:Value)(d:Data)(hf:Obj.isFreed {cls:=c,data:=d}=false:=by rfl):NoD (h.push {cls:=c,data:=d}) h.objs.size:=⟨_,Heap.get?_push_size _ hf,rfl⟩
theorem NoD.keep{h h':Heap}{a:Addr}(x:NoD h a)(k:∀ o,h.get? a=some o->h'.get? a=some o):NoD h' a:=let ⟨o,e,d⟩:=x;⟨o,k _ e,d⟩
def TupAt(K:PySem.W.Frag)(H:Hp)(a:Addr)(xs:List V):Prop:=(H a=some (.tup xs)\/∃ o,H a=some (.frz o (.tup xs))) \/
  ∃ (o:Obj) (its:Array Value) (n:Nat),K.lookup a=some o/\(o.cls=.type "tuple"/\o.dict=none)/\o.data=.seq its n/\its.size<=sizeLine/\Vals xs its.toList
mutual
def NKV(K:PySem.W.Frag)(H:Hp):PyData->V->Prop
 | .int i,v=>v=.int i
 | .str x,v=>v=.str x
 | .tuple xs,v=>∃ a vs,v=.ref a/\TupAt K H a vs/\NKVs K H xs vs
 | .none,_ | .bool _,_ | .list _,_ | .dict _,_=>False
def NKVs(K:PySem.W.Frag)(H:Hp):List PyData->List V->Prop
 | [],vs=>vs=[]
 | x::xs,vs=>∃ v r,vs=v::r/\NKV K H x v/\NKVs K H xs r
end
section
variable {K:PySem.W.Frag}{H H':Hp}
theorem TupAt.stay{a:Addr}{xs:List V}(x:TupAt K H a xs)(ht:∀ b xs,H b=some (.tup xs)->H' b=some (.tup xs))(hf:∀ b o u,H b=some (.frz o u)->H' b=some (.frz o u)):TupAt K H' a xs:=by
 rcases x with (x | ⟨o,x⟩) | x
 ·exact .inl (.inl (ht _ _ x))
 ·exact .inl (.inr ⟨o,hf _ _ _ x⟩)
 ·exact .inr x
mutual
theorem NKV.stay(ht:∀ b xs,H b=some (.tup xs)->H' b=some (.tup xs))(hf:∀ b o u,H b=some (.frz o u)->H' b=some (.frz o u)):∀ (p:PyData) (v:V),NKV K H p v->NKV K H' p v
 | .int _,_,x=>by simpa only[NKV] using x
 | .str _,_,x=>by simpa only[NKV] using x
 | .tuple xs,_,x=>by
  simp only[NKV]at x ⊢;obtain⟨a,vs,e,x1,x2⟩:=x;exact⟨a,vs,e,x1.stay ht hf,NKVs.stay ht hf xs vs x2⟩
 | .none,_,x | .bool _,_,x | .list _,_,x | .dict _,_,x=>by simp only[NKV]at x
theorem NKVs.stay(ht:∀ b xs,H b=some (.tup xs)->H' b=some (.tup xs))(hf:∀ b o u,H b=some (.frz o u)->H' b=some (.frz o u)):∀ (ps:List PyData) (vs:List V),NKVs K H ps vs->NKVs K H' ps vs
 | [],_,x=>by simpa only[NKVs] using x
 | p::ps,_,x=>by
  simp only[NKVs]at x ⊢;obtain⟨v,r,e,x1,x2⟩:=x;exact⟨v,r,e,NKV.stay ht hf p v x1,NKVs.stay ht hf ps r x2⟩
end
end
section
variable (P:Program)(w:World)
def ObjOk(H:Hp)(h:Heap)(a:Addr):HO->Prop
 | .lst xs=>xs.length<=sizeLine/\∃ (its:List Value) (n:Nat),Vals xs its/\h.get? a=some {cls:=.type "list",data:=.seq its.toArray n}
 | .tup xs=>(xs.length<=sizeLine/\NoD h a)/\∃ its:List Value,Vals xs its/\IsTup h a its.toArray
 | .dK kvs=>kvs.length<=sizeLine/\(a==sysModules)=false/\∃ vs,KV kvs vs/\h.DictOf (bM P w) a vs
 | .dT kvs=>kvs.length<=sizeLine/\(a==sysModules)=false/\∃ xs:List (List aJ×Addr×Value),
   Paired (fun(p:List aJ×V) (q:List aJ×Addr×Value)=>p.1=q.1/\H q.2.1=some (.tup (p.1.map kV))/\RelV p.2 q.2.2) kvs xs /\
   ∃ o es ep,h.get? a=some o/\o.ExactDict/\o.data=.dict es ep/\es.toList=xs.map (entryOfKey (tupleKind (bM P w)))/\(xs.map (·.1)).Nodup
 | .dN K kvs=>kvs.length<=sizeLine/\(a==sysModules)=false/\∃ xs:List (List PyData×Addr×Value),
   Paired (fun(p:List PyData×V) (q:List PyData×Addr×Value)=>p.1=q.1/\(isKs p.1=true/\PyData.depthAll p.1<=6/\NKV K H (.tuple p.1) (.ref q.2.1))/\RelV p.2 q.2.2) kvs xs /\
   ∃ o es ep,h.get? a=some o/\o.ExactDict/\o.data=.dict es ep/\es.toList=xs.map (entryOfKey (qL P w))/\(xs.map (·.1)).Nodup
 | .set S n=>h.SetOf (intKind P w) a S n
 | .ins C dx fs=>H dx=some (.own a)/\fs.length<=1000/\dx≠a/\h.get? a=some (PySem.W.instObj C dx) /\
   ∃ mA,h.Ns1 dx mA/\(∀ f,RelO (fs.lookup f) (mA f))/\PySem.Within mA (fs.map (·.1))
 | .own _=>∃ o,h.get? a=some o
 | .xd fs=>∃ mA,h.Ns1 a mA/\∀ f,RelO (fs.lookup f) (mA f)
 | .rng lo hi=>∃ t u v,h.get? a=some {cls:=.type "range",data:=.fields #[.int lo t,.int hi u,.int 1 v]}
 | .frz o u=>h.get? a=some o/\ObjOk H h a u
 | .tbl ps=>h.get? a=some {cls:=.none,data:=.fields ps}
 | .met f x=>h.get? a=some (PySem.W.methodObj (.ref f) (.ref x))
 | .ext φ=>φ h/\(∃ o,h.get? a=some o)/\∀ h1 h2:Heap,φ h1->(∀ o,h1.get? a=some o->h2.get? a=some o)->φ h2
def HOk(H:Hp)(h:Heap):Prop:=∀ a o,H a=some o->ObjOk P w H h a o
end
section
variable {P:Program}{w:World}{H H':Hp}{h h':Heap}{a:Addr}{o:HO}
theorem ObjOk.lt(x:ObjOk P w H h a o):a<h.objs.size:=by
 cases o with
 | lst xs=>obtain⟨_,_,_,_,e⟩:=x;exact Heap.lt_size e
 | tup xs=>obtain⟨_,_,_,p⟩:=x;exact p.lt
 | dK kvs=>obtain⟨_,_,_,_,o,_,_,e,_⟩:=x;exact Heap.lt_size e
 | dT kvs=>obtain⟨_,_,_,_,o,_,_,e,_⟩:=x;exact Heap.lt_size e
 | dN K kvs=>obtain⟨_,_,_,_,o,_,_,e,_⟩:=x;exact Heap.lt_size e
 | set S n=>obtain⟨o,_,_,_,e,_⟩:=x;exact Heap.lt_size e
 | ins C dx fs=>obtain⟨_,_,_,e,_⟩:=x;exact Heap.lt_size e
 | own y=>obtain⟨_,e⟩:=x;exact Heap.lt_size e
 | xd fs=>obtain⟨_,⟨_,_,_,e,_⟩,_⟩:=x;exact Heap.lt_size e
 | rng lo hi=>obtain⟨_,_,_,e⟩:=x;exact Heap.lt_size e
 | frz ob u=>obtain⟨e,_⟩:=x;exact Heap.lt_size e
 | tbl ps=>exact Heap.lt_size (show h.get? a=some _ from x)
 | met f y=>exact Heap.lt_size (show h.get? a=some _ from x)
 | ext φ=>obtain⟨_,⟨_,e⟩,_⟩:=x;exact Heap.lt_size e
theorem Paired.mapP{α β:Type}{F G:α->β->Prop}:∀ {l₁:List α} {l₂:List β},Paired F l₁ l₂->(∀ a b,F a b->G a b)->Paired G l₁ l₂
 | _,_,.nil,_=>.nil
 | _,_,.cons r t,f=>.cons (f _ _ r) (Paired.mapP t f)
theorem ObjOk.stay(x:ObjOk P w H h a o)(k:∀ b u,(b=a\/H b=some (.own a))->h.get? b=some u->h'.get? b=some u)
  (ho:∀ b,H b=some (.own a)->H' b=some (.own a)) (ht:∀ b xs,H b=some (.tup xs)->H' b=some (.tup xs)) (hf:∀ b ob u,H b=some (.frz ob u)->H' b=some (.frz ob u)):ObjOk P w H' h' a o:=by
 induction o with
 | lst xs=>obtain⟨z,its,n,r,e⟩:=x;exact⟨z,its,n,r,k _ _ (.inl rfl) e⟩
 | tup xs=>obtain⟨z,its,r,ob,e,c⟩:=x;exact⟨⟨z.1,z.2.keep fun _ e=>k _ _ (.inl rfl) e⟩,its,r,ob,k _ _ (.inl rfl) e,c⟩
 | dK kvs=>obtain⟨z,y,vs,r,ob,es,ep,e,c⟩:=x;exact⟨z,y,vs,r,ob,es,ep,k _ _ (.inl rfl) e,c⟩
 | dT kvs =>
  obtain⟨z,y,xs,r,ob,es,ep,e,c⟩:=x;exact⟨z,y,xs,Paired.mapP r fun p q z=>⟨z.1,ht _ _ z.2.1,z.2.2⟩,ob,es,ep,k _ _ (.inl rfl) e,c⟩
 | dN K kvs =>
  obtain⟨z,y,xs,r,ob,es,ep,e,c⟩:=x;exact⟨z,y,xs,Paired.mapP r fun p q z=>⟨z.1,⟨z.2.1.1,z.2.1.2.1,NKV.stay ht hf _ _ z.2.1.2.2⟩,z.2.2⟩,ob,es,ep,k _ _ (.inl rfl) e,c⟩
 | set S n=>obtain⟨ob,es,ep,t,e,c⟩:=x;exact⟨ob,es,ep,t,k _ _ (.inl rfl) e,c⟩
 | ins C dx fs =>
  obtain⟨d,z,ne,e,mA,⟨od,es,ep,e2,c⟩,r⟩:=x;exact⟨ho _ d,z,ne,k _ _ (.inl rfl) e,mA,⟨od,es,ep,k _ _ (.inr d) e2,c⟩,r⟩
 | own y=>obtain⟨ob,e⟩:=x;exact⟨ob,k _ _ (.inl rfl) e⟩
 | xd fs=>obtain⟨mA,⟨od,es,ep,e,c⟩,r⟩:=x;exact⟨mA,⟨od,es,ep,k _ _ (.inl rfl) e,c⟩,r⟩
 | rng lo hi=>obtain⟨t,u,v,e⟩:=x;exact⟨t,u,v,k _ _ (.inl rfl) e⟩
 | frz ob u ih=>obtain⟨e,q⟩:=x;exact⟨k _ _ (.inl rfl) e,ih q⟩
 | tbl ps =>
  have e:h.get? a=some {cls:=.none,data:=.fields ps}:=x
  show h'.get? a=some {cls:=.none,data:=.fields ps}
  exact k a _ (.inl rfl) e
 | met f y =>
  have e:h.get? a=some (PySem.W.methodObj (.ref f) (.ref y)):=x
  show h'.get? a=some (PySem.W.methodObj (.ref f) (.ref y))
  exact k a _ (.inl rfl) e
 | ext φ=>obtain⟨p,⟨o,e⟩,st⟩:=x;exact⟨st _ _ p fun o q=>k _ _ (.inl rfl) q,⟨o,k _ _ (.inl rfl) e⟩,st⟩
theorem HOk.lt(x:HOk P w H h)(e:H a=some o):a<h.objs.size:=(x a o e).lt
theorem HOk.fresh(x:HOk P w H h)(e:h.objs.size<=a):H a=none:=by
 cases q:H a with
 | none=>rfl
 | some u=>exact absurd (Nat.lt_of_lt_of_le (x.lt q) e) (Nat.lt_irrefl _)
theorem HOk.kept(x:HOk P w H h)(k:∀ b u,h.get? b=some u->h'.get? b=some u):HOk P w H h':=fun a o e =>
 (x a o e).stay (fun b u _ q=>k b u q) (fun _ q=>q) (fun _ _ q=>q) fun _ _ _ q=>q
theorem HOk.laid(x:HOk P w H h)(k:∀ b u,h.get? b=some u->h'.get? b=some u)(hp:h.objs.size<=a)(new:ObjOk P w (aE H a o) h' a o):HOk P w (aE H a o) h':=fun b u e=>by
 have hn:=x.fresh hp
 by_cases hb:b=a
 ·subst hb;rw[bQ]at e;cases e;exact new
 ·rw[aV hb]at e;exact(x b u e).stay (fun c v _ q=>k c v q) (fun c q=>by rw[aV (lB q hn)];exact q) (fun c xs q=>by rw[aV (lB q hn)];exact q) fun c ob u q=>by rw[aV (lB q hn)];exact q
end
def Rd(H:Hp)(a:Addr)(u:HO):Prop:=H a=some u\/∃ o,H a=some (.frz o u)
theorem Rd.of{H:Hp}{a:Addr}{u:HO}(h:H a=some u):Rd H a u:=.inl h
theorem Rd.ok{P:Program}{w:World}{H:Hp}{h:Heap}{a:Addr}{u:HO}(r:Rd H a u)(x:HOk P w H h):ObjOk P w H h a u:=by
 rcases r with r | ⟨o,r⟩
 ·exact x a u r
 ·obtain⟨_,q⟩:=x a _ r;exact q
def rH:Option HO->Prop
 | some (.lst _)=>True
 | some (.dK _)=>True
 | some (.dT _)=>True
 | some (.dN _ _)=>True
 | some (.set _ _)=>True
 | some (.ins _ _ _)=>True
 | some (.ext _)=>True
 | _=>False
section
variable {P:Program}{w:World}{H:Hp}{h h':Heap}{x e:Addr}{o':HO}
theorem HOk.write(ok:HOk P w H h)(mu:rH (H x))(he:e=x\/H e=some (.own x))(k:∀ b u,b≠e->h.get? b=some u->h'.get? b=some u)(heo:∃ u,h'.get? e=some u)
  (new:ObjOk P w (aE H x o') h' x o'):HOk P w (aE H x o') h':=fun b u q=>by
 have nown:∀ c y,H c=some (.own y)->c≠x:=fun c y r z=>by subst z;rw[r]at mu;exact mu
 have ntup:∀ c xs,H c=some (.tup xs)->c≠x:=fun c xs r z=>by subst z;rw[r]at mu;exact mu
 by_cases hb:b=x
 ·subst hb;rw[bQ]at q;cases q;exact new
 ·rw[aV hb]at q
  by_cases hbe:b=e
  ·have q':H b=some (.own x):=by
    rcases he with z | z
    ·exact absurd (hbe.trans z) hb
    ·rw[hbe];exact z
   rw[q]at q';cases q';obtain⟨v,hv⟩:=heo;exact⟨v,by rw[hbe];exact hv⟩
  ·refine(ok b u q).stay (fun c v hc r=>k c v ?_ r) (fun c r=>by rw[aV (nown c b r)];exact r) (fun c xs r=>by rw[aV (ntup c xs r)];exact r) fun c ob u r=>by rw[aV (fun z=>by subst z;rw[r]at mu;exact mu)];exact r
   rcases hc with rfl | hc
   ·exact hbe
   ·rintro rfl;rcases he with z | z
    ·exact nown c b hc z
    ·rw[hc]at z;cases z;exact hb rfl
end
structure Un (fs ex:List Addr) (H H':Hp) (h h':Heap):Prop where
 keep:∀ b o,h.get? b=some o->H b=none->b∉fs->b∉ex->h'.get? b=some o
 slot:∀ b o,h.get? b=some o->H b=none->b∈fs->b∉ex->∃ sl,h'.get? b=some {o with slots:=sl}
 free:∀ b o,h.get? b=some o->H b=none->b∉ex->H' b=none
 there:∀ b o,h.get? b=some o->b∉ex->∃ o',h'.get? b=some o'
 tups:∀ b xs,H b=some (.tup xs)->H' b=some (.tup xs)
 frzs:∀ b o u,H b=some (.frz o u)->H' b=some (.frz o u)
 tbls:∀ b ps,H b=some (.tbl ps)->∃ more,H' b=some (.tbl (ps++more))
section
variable {fs fs' ex ex':List Addr}{H H1 H2:Hp}{h h1 h2 h':Heap}{a x e:Addr}{o:HO}
theorem Un.any(u:Un fs ex H H1 h h1){b:Addr}{ob:Obj}(q:h.get? b=some ob)(n:H b=none)(hx:b∉ex):∃ sl,h1.get? b=some {ob with slots:=sl}:=by
 by_cases hb:b∈fs
 ·exact u.slot b ob q n hb hx
 ·exact⟨ob.slots,u.keep b ob q n hb hx⟩
theorem Un.trans(a:Un fs ex H H1 h h1)(b:Un fs ex H1 H2 h1 h2):Un fs ex H H2 h h2 where
 keep:=fun c ob q n hc hx=>b.keep c ob (a.keep c ob q n hc hx) (a.free c ob q n hx) hc hx
 slot:=fun c ob q n hc hx=>by
  obtain⟨sl,e1⟩:=a.slot c ob q n hc hx;obtain⟨sl',e2⟩:=b.slot c _ e1 (a.free c ob q n hx) hc hx;exact⟨sl',e2⟩
 free:=fun c ob q n hx=>by
  obtain⟨o',e1⟩:=a.there c ob q hx;exact b.free c o' e1 (a.free c ob q n hx) hx
 there:=fun c ob q hx=>by
  obtain⟨o',e1⟩:=a.there c ob q hx;exact b.there c o' e1 hx
 tups:=fun c xs q=>b.tups c xs (a.tups c xs q)
 frzs:=fun c ob xs q=>b.frzs c ob xs (a.frzs c ob xs q)
 tbls:=fun c ps q=>by
  obtain⟨m1,e1⟩:=a.tbls c ps q;obtain⟨m2,e2⟩:=b.tbls c _ e1;exact⟨m1++m2,by rw[e2,Array.append_assoc]⟩
theorem Un.kept(k:∀ b u,h.get? b=some u->h'.get? b=some u):Un fs ex H H h h' :=
 ⟨fun b ob q _ _ _=>k b ob q,fun b ob q _ _ _=>⟨ob.slots,k b ob q⟩,fun _ _ _ n _=>n,fun b ob q _=>⟨ob,k b ob q⟩,fun _ _ q=>q,fun _ _ _ q=>q,fun _ ps q=>⟨#[],by rw[q];simp⟩⟩
theorem Un.refl:Un fs ex H H h h:=Un.kept fun _ _ q=>q
theorem Un.laid(k:∀ b u,h.get? b=some u->h'.get? b=some u)(hp:h.objs.size<=a)(hn:H a=none):Un fs ex H (aE H a o) h h' where
 keep:=fun b u q _ _ _=>k b u q
 slot:=fun b u q _ _ _=>⟨u.slots,k b u q⟩
 free:=fun b u q n _=>by rw[aV (Nat.ne_of_lt (Nat.lt_of_lt_of_le (Heap.lt_size q) hp))];exact n
 there:=fun b u q _=>⟨u,k b u q⟩
 tups:=fun b xs q=>by rw[aV (lB q hn)];exact q
 frzs:=fun b u xs q=>by rw[aV (lB q hn)];exact q
 tbls:=fun b ps q=>⟨#[],by rw[aV (lB q hn),q];simp⟩
theorem Un.write(mu:rH (H x))(he:e=x\/H e=some (.own x))(k:∀ b u,b≠e->h.get? b=some u->h'.get? b=some u)(heo:∃ u,h'.get? e=some u):Un fs ex H (aE H x o) h h':=by
 have hx:∀ b,H b=none->b≠x:=fun b n z=>by subst z;rw[n]at mu;exact mu
 have hb:∀ b,H b=none->b≠e:=fun b n z=>by
  subst z;rcases he with r | r
  ·exact hx b n r
  ·rw[n]at r;cases r
 have hm:∀ b u,H b=some u->¬ rH (some u)->b≠x:=fun b u q nm z=>by subst z;rw[q]at mu;exact nm mu
 refine⟨fun b u q n _ _=>k b u (hb b n) q,fun b u q n _ _=>⟨u.slots,k b u (hb b n) q⟩,fun b u q n _=>by rw[aV (hx b n)];exact n,fun b u q _=>?_,
  fun b xs q=>by rw[aV (hm b _ q fun z=>z)];exact q,fun b u xs q=>by rw[aV (hm b _ q fun z=>z)];exact q,fun b ps q=>⟨#[],by rw[aV (hm b _ q fun z=>z),q];simp⟩⟩
 by_cases hbe:b=e
 ·subst hbe;exact heo
 ·exact⟨u,k b u hbe q⟩
theorem Un.mono(u:Un fs ex H H1 h h1)(hs:∀ b∈fs,b∈fs')(hx:∀ b∈ex,b∈ex'):Un fs' ex' H H1 h h1 :=
 ⟨fun b ob q n hb he=>u.keep b ob q n (fun z=>hb (hs b z)) fun z=>he (hx b z),fun _ _ q n _ he=>u.any q n fun z=>he (hx _ z),fun b ob q n he=>u.free b ob q n fun z=>he (hx b z),fun b ob q he=>u.there b ob q fun z=>he (hx b z),u.tups,u.frzs,u.tbls⟩
end
def xE(h:Heap)(H:Hp):List Addr:=(List.range h.objs.size).filter fun a=>(H a).isSome
def jX(h:Heap)(H:Hp):Heap:=PySem.W.hideAll h (xE h H)
theorem Ph(h:Heap)(H:Hp):(jX h H).objs.size=h.objs.size:=PySem.W.hideAll_size _ _
theorem BG{h:Heap}{H:Hp}{b:Addr}{o:Obj}(e:h.get? b=some o)(n:H b=none):(jX h H).get? b=some o :=
 PySem.W.hideAll_get _ e fun hm=>by
  have q:(H b).isSome=true:=(List.mem_filter.mp hm).2
  rw[n]at q;simp at q
theorem BH{h:Heap}{H:Hp}{b:Addr}{o:Obj}(e:(jX h H).get? b=some o):h.get? b=some o/\H b=none:=by
 have e':h.get? b=some o:=PySem.W.of_hideAll (xE h H) e
 refine⟨e',?_⟩
 cases q:H b with
 | none=>rfl
 | some x =>
  have hm:b∈xE h H:=List.mem_filter.mpr ⟨List.mem_range.mpr (Heap.lt_size e'),by simp[q]⟩
  have z:(jX h H).get? b=none:=PySem.W.hideAll_none (xE h H) hm
  rw[z]at e;cases e
def A7(g h:Heap)(L:Addr):List (Addr×Obj):=(List.range h.objs.size).filterMap fun a=>if a=L\/(g.get? a).isSome=true then none else (h.get? a).map fun o=>(a,o)
def rest(g h:Heap)(L d:Addr):List (Addr×Obj):=(A7 g h L).filter fun p=>decide (p.1≠d)
end L2
namespace L2
open PySem PySem.Spec PyProof.Rows
structure Mod (K:PySem.W.Frag) (mg:Str->Option Value) (base:Heap):Prop where
 kin:K.In base
 glob:base.Ns mainGlobals mg
 blt:∃ mb,base.Ns builtinsNs mb/\∀ x:Str,x≠"__name__"->mb x=bootBuiltins x
 nolimit:base.NoLimit
structure Cx where
 prog:Program
 w:World
 K:PySem.W.Frag
 mg:Str->Option Value
 base:Heap
 A:Around
 N:List Str
 s₀:Shared
 H₀:Hp
 env:Env
 outer:List Env
 stack:List Env
 ex:List Addr
 fn:Str->Bool
 calm:Bool
 pn:List (Addr×Obj)
 xe:Value->Shared->Prop
def fT(l:List Env):List Addr:=l.filterMap (·.frame)
abbrev Cx.fs(X:Cx):List Addr:=fT X.outer
def iQ(sc:Scope)(x:Str):Prop:=sc.names.lookup x=some .local\/sc.names.lookup x=some .cell\/sc.names.lookup x=some .free
def kM(sc:Scope)(x:Str):Prop:=sc.names.lookup x=some .local\/sc.names.lookup x=some .cell
def S6(env:Env)(h:Heap)(m:Str->Option Value)(x:Str)(u:Value):Prop :=
 (env.kindOf x=some .local/\m x=some u)\/((env.kindOf x=some .cell\/env.kindOf x=some .free)/\∃ c,env.cells.lookup x=some c/\h.IsCell c (some u))
structure Cx.Ok (X:Cx):Prop where
 mod:Mod X.K X.mg X.base
 kind:X.env.scope.kind=.function
 glob:X.env.globals=mainGlobals
 blt:X.env.builtins=builtinsNs
 above:X.s₀.heap.objs.size<=X.env.locals
 inj:∀ x y c,X.env.cells.lookup x=some c->X.env.cells.lookup y=some c->x=y
 has:∀ x,(X.env.kindOf x=some .cell\/X.env.kindOf x=some .free)->∃ c,X.env.cells.lookup x=some c
 cab:∀ x c,X.fn x=true->X.env.cells.lookup x=some c->X.s₀.heap.objs.size<=c
 hd:X.calm=true->X.A.handled=none
 frames:X.A.frames=some X.stack
 stk:X.stack=X.outer\/(X.stack=X.env::X.outer/\X.env.frame=some X.env.locals)
 exf:∀ b∈X.ex,b≠X.env.locals/\∀ x c,X.env.cells.lookup x=some c->c≠b
 bs:∀ b o,X.base.get? b=some o->X.s₀.heap.get? b=some o/\X.H₀ b=none
 bsz:X.base.objs.size<=X.s₀.heap.objs.size
 noex:∀ b o,X.base.get? b=some o->b∉X.ex
 exfs:∀ b∈X.ex,b∉X.fs
 funs:X.s₀.heap.FunFrames X.base X.outer
 frf:∀ b∈X.fs,X.H₀ b=none
structure Inv (X:Cx) (pins:List (Addr×Obj)) (σ:List (Option V)) (H:Hp) (s:Shared):Prop where
 ok:X.Ok
 os:s.os=X.s₀.os
 bare:AllBare s.gens
 base:Un X.fs X.ex X.H₀ H X.s₀.heap s.heap
 loc:∃ m,s.heap.Ns X.env.locals m/\∀ (i:Nat) (x:Str) (v:V),X.N[i]?=some x->σ[i]?=some (some v)->iQ X.env.scope x->∃ u,RelV v u/\S6 X.env s.heap m x u
 cell:∀ x c,X.env.cells.lookup x=some c->∃ v,s.heap.IsCell c v
 free:H X.env.locals=none
 freeC:∀ x c,X.env.cells.lookup x=some c->H c=none
 pin:∀ p∈X.pn++pins,s.heap.get? p.1=some p.2/\H p.1=none/\p.1≠X.env.locals/\p.1∉X.fs/\∀ v,p.2.data≠.cell v
 hok:HOk X.prog X.w H s.heap
 len:σ.length=X.N.length
section
variable {X:Cx}{pins:List (Addr×Obj)}{σ:List (Option V)}{H H':Hp}{s:Shared}{h':Heap}
theorem Cx.Ok.nofr(ok:X.Ok){b:Addr}{o:Obj}(e:X.base.get? b=some o):b∉X.fs:=fun hb=>by
 have:=(ok.funs.mem hb).1
 rw[e]at this;cases this
theorem Inv.bs(I:Inv X pins σ H s):∀ b o,X.base.get? b=some o->s.heap.get? b=some o/\H b=none:=fun b o e =>
 ⟨I.base.keep b o (I.ok.bs b o e).1 (I.ok.bs b o e).2 (I.ok.nofr e) (I.ok.noex b o e),I.base.free b o (I.ok.bs b o e).1 (I.ok.bs b o e).2 (I.ok.noex b o e)⟩
theorem Inv.bk(I:Inv X pins σ H s):∀ b o,X.base.get? b=some o->s.heap.get? b=some o:=fun b o e=>(I.bs b o e).1
theorem Inv.mod(I:Inv X pins σ H s):Mod X.K X.mg X.base:=I.ok.mod
theorem Inv.kIn(I:Inv X pins σ H s):X.K.In s.heap:=I.ok.mod.kin.keeps I.bk
theorem Inv.nolimit(I:Inv X pins σ H s):s.heap.NoLimit:=I.ok.mod.nolimit.keeps I.bk
theorem Inv.fr(I:Inv X pins σ H s):∃ m,Fr X.base X.env.locals s.heap m :=
 let ⟨m,hn,_⟩:=I.loc
 ⟨m,hn,I.bk,Nat.le_trans I.ok.bsz I.ok.above⟩
theorem Inv.lt(I:Inv X pins σ H s):X.env.locals<s.heap.objs.size:=let ⟨_,hn,_⟩:=I.loc;hn.lt
theorem Inv.sz(I:Inv X pins σ H s):X.s₀.heap.objs.size<=s.heap.objs.size:=Nat.le_trans I.ok.above (Nat.le_of_lt I.lt)
theorem Inv.nofs(I:Inv X pins σ H s){a:Addr}(h:s.heap.objs.size<=a):a∉X.fs:=fun hb=>by
 obtain⟨_,o,ho,_⟩:=I.ok.funs.mem hb;exact absurd (Nat.lt_of_lt_of_le (Heap.lt_size ho) (Nat.le_trans I.sz h)) (Nat.lt_irrefl _)
theorem Inv.cne(I:Inv X pins σ H s):∀ x c,X.env.cells.lookup x=some c->c≠X.env.locals:=fun x c e z=>by
 obtain⟨v,o,ho,hd⟩:=I.cell x c e;obtain⟨m,⟨o',es,ep,ho',hd',_⟩,_⟩:=I.loc;rw[z,ho']at ho;cases ho;rw[hd']at hd;cases hd
theorem Inv.funs(I:Inv X pins σ H s):s.heap.FunFrames X.base X.outer:=by
 have all:∀ (l:List Env),(∀ b∈fT l,b∈X.fs)->X.s₀.heap.FunFrames X.base l->s.heap.FunFrames X.base l:=by
  intro l
  induction l with
  | nil=>intro _ _;trivial
  | cons env r ih =>
   intro hs hl;obtain⟨hk,⟨L,o,hf,hn,ho,hd⟩,hr⟩:=hl;have hL:L∈X.fs:=hs L (by unfold fT;rw[List.filterMap_cons,hf];exact List.mem_cons_self)
   obtain⟨sl,e⟩:=I.base.slot L o ho (I.ok.frf L hL) hL fun z=>I.ok.exfs L z hL;exact⟨hk,⟨L,_,hf,hn,e,hd⟩,ih (fun b hb=>hs b (by unfold fT;rw[List.filterMap_cons,hf];exact List.mem_cons_of_mem _ hb)) hr⟩
 exact all X.outer (fun _ hb=>hb) I.ok.funs
theorem Inv.stack(I:Inv X pins σ H s):s.heap.FunFrames X.base X.stack:=by
 rcases I.ok.stk with e | ⟨e,hf⟩
 ·rw[e];exact I.funs
 ·rw[e];obtain⟨m,hn,_⟩:=I.loc;refine .cons (by rw[I.ok.kind];decide) hf hn ?_ I.funs
  exact Heap.get?_none_of_le (Nat.le_trans I.ok.bsz I.ok.above)
theorem Inv.stkSub(I:Inv X pins σ H s):∀ b∈fT X.stack,b∈X.env.locals::X.fs:=fun b hb=>by
 rcases I.ok.stk with e | ⟨e,hf⟩
 ·rw[e]at hb;exact List.mem_cons_of_mem _ hb
 ·rw[e]at hb;unfold fT at hb;rw[List.filterMap_cons,hf]at hb;exact hb
theorem Inv.stkFree(I:Inv X pins σ H s):∀ b∈fT X.stack,H b=none:=fun b hb=>by
 rcases List.mem_cons.mp (I.stkSub b hb) with e | hb
 ·rw[e];exact I.free
 ·obtain⟨_,o,ho,_⟩:=I.ok.funs.mem hb;exact I.base.free b o ho (I.ok.frf b hb) fun z=>I.ok.exfs b z hb
theorem Inv.step{g':Array GenState}{t':Nat}{d':Drawn}{ch:List Addr}(I:Inv X pins σ H s)
  (hch:∀ b∈ch,(b∈X.ex\/X.s₀.heap.objs.size<=b)/\b≠X.env.locals/\(∀ x c,X.env.cells.lookup x=some c->c≠b)/\∀ p∈X.pn++pins,p.1≠b)
  (keep:∀ b o,b≠X.env.locals->b∉X.fs->b∉ch->s.heap.get? b=some o->H b=none->h'.get? b=some o)
  (slot:∀ b o,b≠X.env.locals->b∈X.fs->b∉ch->s.heap.get? b=some o->H b=none->∃ sl,h'.get? b=some {o with slots:=sl}) (free:∀ b o,b∉ch->s.heap.get? b=some o->H b=none->H' b=none)
  (there:∀ b o,b∉ch->s.heap.get? b=some o->∃ o',h'.get? b=some o')
  (tups:∀ b xs,H b=some (.tup xs)->H' b=some (.tup xs)) (frzs:∀ b o u,H b=some (.frz o u)->H' b=some (.frz o u)) (tbls:∀ b ps,H b=some (.tbl ps)->∃ more,H' b=some (.tbl (ps++more)))
  (ns:∀ m,s.heap.Ns X.env.locals m->h'.Ns X.env.locals m) (hok:HOk X.prog X.w H' h') (hg:AllBare g') :
  Inv X pins σ H' {s with heap:=h',gens:=g',drawn:=d',toks:=t'}:=by
 have neL:∀ b o,X.s₀.heap.get? b=some o->b≠X.env.locals:=fun b o e=>Nat.ne_of_lt (Nat.lt_of_lt_of_le (Heap.lt_size e) I.ok.above)
 have neC:∀ b o,X.s₀.heap.get? b=some o->b∉X.ex->b∉ch:=fun b o e hx hb=>by
  rcases (hch b hb).1 with z | z
  ·exact hx z
  ·exact absurd (Nat.lt_of_lt_of_le (Heap.lt_size e) z) (Nat.lt_irrefl _)
 have cellK:∀ x c,X.env.cells.lookup x=some c->∀ v,s.heap.IsCell c v->h'.IsCell c v:=fun x c e v ⟨o,ho,hd⟩=>by
  have nch:c∉ch:=fun z=>(hch c z).2.2.1 x c e rfl
  by_cases hc:c∈X.fs
  ·obtain⟨sl,q⟩:=slot c o (I.cne x c e) hc nch ho (I.freeC x c e);exact⟨_,q,hd⟩
  ·exact⟨o,keep c o (I.cne x c e) hc nch ho (I.freeC x c e),hd⟩
 refine⟨I.ok,I.os,hg,⟨fun b o e n hb hx=>?_,fun b o e n hb hx=>?_,fun b o e n hx=>?_,fun b o e hx=>?_,fun b xs e=>tups b xs (I.base.tups b xs e),fun b o xs e=>frzs b o xs (I.base.frzs b o xs e),fun b ps e=>?_⟩,?_,fun x c e=>?_,?_,fun x c e=>?_,fun p hp=>?_,hok,I.len⟩
 ·exact keep b o (neL b o e) hb (neC b o e hx) (I.base.keep b o e n hb hx) (I.base.free b o e n hx)
 ·obtain⟨sl,e1⟩:=I.base.slot b o e n hb hx;obtain⟨sl',e2⟩:=slot b _ (neL b o e) hb (neC b o e hx) e1 (I.base.free b o e n hx);exact⟨sl',e2⟩
 ·obtain⟨o',e1⟩:=I.base.there b o e hx;exact free b o' (neC b o e hx) e1 (I.base.free b o e n hx)
 ·obtain⟨o',e1⟩:=I.base.there b o e hx;exact there b o' (neC b o e hx) e1
 ·obtain⟨m1,e1⟩:=I.base.tbls b ps e;obtain⟨m2,e2⟩:=tbls b _ e1;exact⟨m1++m2,by rw[e2,Array.append_assoc]⟩
 ·obtain⟨m,hn,hl⟩:=I.loc;refine⟨m,ns m hn,fun i x v e1 e2 e3=>?_⟩;obtain⟨u,r,l⟩:=hl i x v e1 e2 e3;refine⟨u,r,?_⟩;rcases l with l | ⟨k,c,e,z⟩
  ·exact .inl l
  ·exact .inr ⟨k,c,e,cellK x c e _ z⟩
 ·obtain⟨v,z⟩:=I.cell x c e;exact⟨v,cellK x c e v z⟩
 ·obtain⟨m,⟨o,_,_,ho,_⟩,_⟩:=I.loc;exact free _ o (fun z=>(hch _ z).2.1 rfl) ho I.free
 ·obtain⟨v,o,ho,hd⟩:=I.cell x c e;exact free c o (fun z=>(hch c z).2.2.1 x c e rfl) ho (I.freeC x c e)
 ·obtain⟨e,n,ne,nf,d⟩:=I.pin p hp;have nch:p.1∉ch:=fun z=>(hch p.1 z).2.2.2 p hp rfl
  exact⟨keep p.1 p.2 ne nf nch e n,free p.1 p.2 nch e n,ne,nf,d⟩
theorem Inv.un{t':Nat}(I:Inv X pins σ H s)(u:Un X.fs [] H H' s.heap h')(hok:HOk X.prog X.w H' h'):Inv X pins σ H' {s with heap:=h',toks:=t'}:=by
 obtain⟨m,⟨o,es,ep,ho,r⟩,_⟩:=id I.loc;obtain⟨sl,hL⟩:=u.any ho I.free (by simp)
 exact I.step (g':=s.gens) (d':=s.drawn) (ch:=[]) (fun _ z=>nomatch z) (fun b o _ hb _ e n=>u.keep b o e n hb (by simp)) (fun b o _ hb _ e n=>u.slot b o e n hb (by simp)) (fun b o _ e n=>u.free b o e n (by simp)) (fun b o _ e=>u.there b o e (by simp)) u.tups u.frzs u.tbls (fun m' hm=>by
  obtain⟨o',es',ep',ho',r'⟩:=hm;rw[ho]at ho';cases ho';exact⟨_,es',ep',hL,r'⟩) hok I.bare
theorem Inv.call{g':Array GenState}{t':Nat}{d':Drawn}{ch:List Addr}(I:Inv X pins σ H s)(u:Un (fT X.stack) ch H H' s.heap h')(hok:HOk X.prog X.w H' h')(hg:AllBare g')
  (hch:∀ b∈ch,(b∈X.ex\/X.s₀.heap.objs.size<=b)/\b≠X.env.locals/\(∀ x c,X.env.cells.lookup x=some c->c≠b)/\∀ p∈X.pn++pins,p.1≠b) :
  Inv X pins σ H' {s with heap:=h',gens:=g',drawn:=d',toks:=t'}:=by
 obtain⟨m,⟨o,es,ep,ho,r⟩,_⟩:=id I.loc;obtain⟨sl,hL⟩:=u.any ho I.free fun z=>(hch _ z).2.1 rfl;exact I.step (ch:=ch) hch (fun b o hL hb hc e n=>u.keep b o e n (fun z=>(List.mem_cons.mp (I.stkSub b z)).elim hL hb) hc) (fun b o _ _ hc e n=>u.any e n hc) (fun b o hc e n=>u.free b o e n hc) (fun b o hc e=>u.there b o e hc) u.tups u.frzs u.tbls (fun m' hm=>by
  obtain⟨o',es',ep',ho',r'⟩:=hm;rw[ho]at ho';cases ho';exact⟨_,es',ep',hL,r'⟩) hok hg
theorem Inv.turned{t':Nat}{it:Addr}(I:Inv X pins σ H s)(k:∀ b o,b≠it->s.heap.get? b=some o->h'.get? b=some o)(hn:H it=none)(hL:it≠X.env.locals)
  (h1:it∈X.ex\/X.s₀.heap.objs.size<=it) (h2:∀ x c,X.env.cells.lookup x=some c->c≠it) (h3:∀ p∈X.pn++pins,p.1≠it):Inv X pins σ H {s with heap:=h',toks:=t'}:=by
 have nit:∀ b u,H b=some u->b≠it:=fun b u e z=>by rw[z,hn]at e;cases e
 refine I.step (g':=s.gens) (d':=s.drawn) (ch:=[it]) (fun b hb=>?_) (fun b o _ _ hc e _=>k b o (fun z=>hc (by simp[z])) e) (fun b o _ _ hc e _=>⟨o.slots,k b o (fun z=>hc (by simp[z])) e⟩) (fun _ _ _ _ n=>n)
  (fun b o hc e=>⟨o,k b o (fun z=>hc (by simp[z])) e⟩) (fun _ _ e=>e) (fun _ _ _ e=>e) (fun b ps e=>⟨#[],by rw[e];simp⟩) (fun m hm=>?_) (fun b u e=>?_) I.bare
 ·have e:b=it:=by simpa using hb
  subst e;exact⟨h1,hL,h2,h3⟩
 ·obtain⟨o,es,ep,ho,r⟩:=hm;exact⟨o,es,ep,k _ o (Ne.symm hL) ho,r⟩
 ·refine(I.hok b u e).stay (fun c v hc q=>k c v ?_ q) (fun _ q=>q) (fun _ _ q=>q) fun _ _ _ q=>q;rcases hc with z | z
  ·rw[z];exact nit b u e
  ·exact nit c _ z
theorem Inv.tok(I:Inv X pins σ H s)(t:Nat):Inv X pins σ H {s with toks:=t}:=I.un (h':=s.heap) (t':=t) Un.refl I.hok
theorem Inv.kept{t':Nat}(I:Inv X pins σ H s)(k:∀ b u,s.heap.get? b=some u->h'.get? b=some u):Inv X pins σ H {s with heap:=h',toks:=t'}:=I.un (Un.kept k) (I.hok.kept k)
theorem Inv.laid{a:Addr}{o:HO}{t':Nat}(I:Inv X pins σ H s)(k:∀ b u,s.heap.get? b=some u->h'.get? b=some u)(hp:s.heap.objs.size<=a)(new:ObjOk X.prog X.w (aE H a o) h' a o) :
  Inv X pins σ (aE H a o) {s with heap:=h',toks:=t'}:=I.un (Un.laid k hp (I.hok.fresh hp)) (I.hok.laid k hp new)
theorem Inv.write{x e:Addr}{o:HO}{t':Nat}(I:Inv X pins σ H s)(mu:rH (H x))(he:e=x\/H e=some (.own x))(k:∀ b u,b≠e->s.heap.get? b=some u->h'.get? b=some u)(heo:∃ u,h'.get? e=some u)
  (new:ObjOk X.prog X.w (aE H x o) h' x o):Inv X pins σ (aE H x o) {s with heap:=h',toks:=t'}:=I.un (Un.write mu he k heo) (I.hok.write mu he k heo new)
theorem Inv.pins_of{pins':List (Addr×Obj)}(I:Inv X pins σ H s)(h:∀ p∈pins',s.heap.get? p.1=some p.2/\H p.1=none/\p.1≠X.env.locals/\p.1∉X.fs/\∀ v,p.2.data≠.cell v):Inv X pins' σ H s :=
 ⟨I.ok,I.os,I.bare,I.base,I.loc,I.cell,I.free,I.freeC,fun p hp=>(List.mem_append.mp hp).elim (fun z=>I.pin p (List.mem_append_left _ z)) (h p),I.hok,I.len⟩
theorem Mt{N:List Str}(hN:N.Nodup){i j:Nat}{x:Str}(a:N[i]?=some x)(b:N[j]?=some x):i=j:=by
 obtain⟨h1,e1⟩:=List.getElem?_eq_some_iff.mp a;obtain⟨h2,e2⟩:=List.getElem?_eq_some_iff.mp b;exact(List.getElem_inj hN).mp (e1.trans e2.symm)
theorem Pj{M:Model}{A:Around}{E:Value->Shared->Prop}{i:Nat}{x:Str}{v:V}{u:Value}{Q:Unit->Shared->Prop}(I:Inv X pins σ H s)(hN:X.N.Nodup)(hi:X.N[i]?=some x)(hx:kM X.env.scope x)(r:RelV v u)
  (h:∀ s',Inv X pins (σ.set i (some v)) H s'->(∃ a,Heap.SameBut a s.heap s'.heap/\(a=X.env.locals\/X.env.cells.lookup x=some a))->Q () s') (hf:X.fn x=true\/X.env.scope.names.lookup x=some .local:=by first | exact .inl rfl | exact .inr rfl | assumption):wpAny M A (storeName X.env x u) Q E s:=by
 obtain⟨m,hn,hl⟩:=id I.loc;have hcls:(X.env.scope.kind==.class||(X.env.scope.kind==.module&&X.env.locals != X.env.globals))=false:=by rw[I.ok.kind];rfl
 have hiσ:i<σ.length:=by rw[I.len];exact(List.getElem?_eq_some_iff.mp hi).1
 have cne:=I.cne
 have tracked:∀ {a:Addr} {h':Heap},(∃ o,s.heap.get? a=some o/\H a=none)->Heap.SameBut a s.heap h'->HOk X.prog X.w H h':=fun {a h'} ha hs b ob e=>by
  obtain⟨_,_,hfree⟩:=ha;refine(I.hok b ob e).stay (fun c w' hc q=>(hs.2 c ?_).trans q) (fun _ q=>q) (fun _ _ q=>q) fun _ _ _ q=>q;rintro rfl;rcases hc with rfl | hc
  ·rw[hfree]at e;cases e
  ·rw[hfree]at hc;cases hc
 rcases hx with hk | hk
 ·refine wpAny_storeName_local hk hn (fun h' hn' hs=>?_) hcls;obtain⟨oL,_,_,hoL,_⟩:=id hn;refine h _ ⟨I.ok,I.os,I.bare,⟨fun b o e n hb hx=>?_,fun b o e n hb hx=>?_,I.base.free,fun b o e hx=>?_,I.base.tups,I.base.frzs,I.base.tbls⟩,⟨_,hn',fun j y v' e1 e2 e3=>?_⟩,fun y c e=>?_,I.free,I.freeC,fun p hp=>?_,tracked ⟨oL,hoL,I.free⟩ hs,by simpa using I.len⟩ ⟨_,hs,.inl rfl⟩
  ·exact(hs.2 b (Nat.ne_of_lt (Nat.lt_of_lt_of_le (Heap.lt_size e) I.ok.above))).trans (I.base.keep b o e n hb hx)
  ·obtain⟨sl,e1⟩:=I.base.slot b o e n hb hx;exact⟨sl,(hs.2 b (Nat.ne_of_lt (Nat.lt_of_lt_of_le (Heap.lt_size e) I.ok.above))).trans e1⟩
  ·obtain⟨o',e1⟩:=I.base.there b o e hx;exact⟨o',(hs.2 b (Nat.ne_of_lt (Nat.lt_of_lt_of_le (Heap.lt_size e) I.ok.above))).trans e1⟩
  ·by_cases hj:j=i
   ·subst hj;rw[hi]at e1;cases e1;rw[List.getElem?_set_self hiσ]at e2
    cases e2
    exact⟨u,r,.inl ⟨hk,by simp⟩⟩
   ·rw[List.getElem?_set_ne (Ne.symm hj)]at e2;obtain⟨u',r',q⟩:=hl j y v' e1 e2 e3;refine⟨u',r',?_⟩;rcases q with⟨k,e⟩ | ⟨k,c,e,z⟩
    ·refine .inl ⟨k,?_⟩;have:y≠x:=fun e=>hj (Mt hN e1 (e▸hi))
     simp[this,e]
    ·exact .inr ⟨k,c,e,z.sameBut hs (cne y c e)⟩
  ·obtain⟨w',z⟩:=I.cell y c e;exact⟨w',z.sameBut hs (cne y c e)⟩
  ·obtain⟨e,n,ne,nf,d⟩:=I.pin p hp;exact⟨(hs.2 p.1 ne).trans e,n,ne,nf,d⟩
 ·have hfn:X.fn x=true:=by
   rcases hf with z | z
   ·exact z
   ·rw[z]at hk;cases hk
  obtain⟨c,hc⟩:=I.ok.has x (.inl hk);obtain⟨w',z⟩:=I.cell x c hc;refine wpAny_storeName_cell I.ok.kind hk hc z (fun h' hc' hs=>?_);obtain⟨oc,hoc,hocd⟩:=id z;refine h {s with heap:=h'} ⟨I.ok,I.os,I.bare,⟨fun b o e n hb hx=>?_,fun b o e n hb hx=>?_,I.base.free,fun b o e hx=>?_,I.base.tups,I.base.frzs,I.base.tbls⟩,⟨m,hn.sameBut hs (Ne.symm (cne x c hc)),fun j y v' e1 e2 e3=>?_⟩,fun y c' e=>?_,I.free,I.freeC,fun p hp=>?_,tracked ⟨oc,hoc,I.freeC x c hc⟩ hs,by simpa using I.len⟩ ⟨c,hs,.inr hc⟩
  ·exact(hs.2 b (Nat.ne_of_lt (Nat.lt_of_lt_of_le (Heap.lt_size e) (I.ok.cab x c hfn hc)))).trans (I.base.keep b o e n hb hx)
  ·obtain⟨sl,e1⟩:=I.base.slot b o e n hb hx;exact⟨sl,(hs.2 b (Nat.ne_of_lt (Nat.lt_of_lt_of_le (Heap.lt_size e) (I.ok.cab x c hfn hc)))).trans e1⟩
  ·obtain⟨o',e1⟩:=I.base.there b o e hx;exact⟨o',(hs.2 b (Nat.ne_of_lt (Nat.lt_of_lt_of_le (Heap.lt_size e) (I.ok.cab x c hfn hc)))).trans e1⟩
  ·by_cases hj:j=i
   ·subst hj;rw[hi]at e1;cases e1;rw[List.getElem?_set_self hiσ]at e2
    cases e2
    exact⟨u,r,.inr ⟨.inl hk,c,hc,hc'⟩⟩
   ·rw[List.getElem?_set_ne (Ne.symm hj)]at e2;obtain⟨u',r',q⟩:=hl j y v' e1 e2 e3;refine⟨u',r',?_⟩;rcases q with q | ⟨k,c',e,z'⟩
    ·exact .inl q
    ·refine .inr ⟨k,c',e,z'.sameBut hs ?_⟩;rintro rfl;exact hj (Mt hN e1 (I.ok.inj _ _ _ e hc▸hi))
  ·by_cases hcc:c'=c
   ·subst hcc;exact⟨_,hc'⟩
   ·obtain⟨w2,z2⟩:=I.cell y c' e;exact⟨w2,z2.sameBut hs hcc⟩
  ·obtain⟨e,n,ne,nf,d⟩:=I.pin p hp;refine⟨(hs.2 p.1 ?_).trans e,n,ne,nf,d⟩;intro q;rw[q,hoc]at e;have q':oc=p.2:=Option.some.inj e
   exact d w' (by rw[<- q'];exact hocd)
theorem Go{M:Model}{A:Around}{E:Value->Shared->Prop}{i:Nat}{x:Str}{v:V}{u:Value}{Q:Unit->Shared->Prop}(I:Inv X pins σ H s)(hN:X.N.Nodup)(hi:X.N[i]?=some x)(hx:kM X.env.scope x)(r:RelV v u)
  (h:∀ s',Inv X pins (σ.set i (some v)) H s'->Q () s') (hf:X.fn x=true\/X.env.scope.names.lookup x=some .local:=by first | exact .inl rfl | exact .inr rfl | assumption):wpAny M A (storeName X.env x u) Q E s :=
 Pj I hN hi hx r (fun s' I' _=>h s' I') hf
theorem Inv.call'{s':Shared}{ch:List Addr}(I:Inv X pins σ H s)(ho:s'.os=s.os)(u:Un (fT X.stack) ch H H' s.heap s'.heap)(hok:HOk X.prog X.w H' s'.heap)(hg:AllBare s'.gens)
  (hch:∀ b∈ch,(b∈X.ex\/X.s₀.heap.objs.size<=b)/\b≠X.env.locals/\(∀ x c,X.env.cells.lookup x=some c->c≠b)/\∀ p∈X.pn++pins,p.1≠b):Inv X pins σ H' s':=by
 obtain⟨h',g',d',t',o'⟩:=s';have e:o'=s.os:=ho
 subst e;exact I.call (g':=g') (t':=t') (d':=d') u hok hg hch
end
abbrev XK:=Value->Option Addr->Hp->Prop
abbrev St:=List (Option V)
abbrev VK:=V->Hp->Prop
abbrev TE:=St->Hp->VK->Prop
abbrev TT:=St->Hp->(Bool->Hp->Prop)->Prop
abbrev TA:=St->Hp->(List V->Hp->Prop)->Prop
structure Ends where
 nx:St->Hp->Prop
 rt:VK
 bk:St->Hp->Prop:=fun _ _=>False
 ct:St->Hp->Prop:=fun _ _=>False
abbrev TS:=Ends->St->Hp->Prop
def EP(X:Cx)(pins:List (Addr×Obj))(σ:St)(Q:VK)(u:Value)(s':Shared):Prop:=∃ v H',Inv X pins σ H' s'/\RelV v u/\Q v H'
def TP(X:Cx)(pins:List (Addr×Obj))(σ:St)(Q:Bool->Hp->Prop)(b:Bool)(s':Shared):Prop:=∃ H',Inv X pins σ H' s'/\Q b H'
def AP(X:Cx)(pins:List (Addr×Obj))(σ:St)(Q:List V->Hp->Prop)(us:List Value)(s':Shared):Prop:=∃ vs H',Inv X pins σ H' s'/\Vals vs us/\Q vs H'
def SP(X:Cx)(pins:List (Addr×Obj))(D:Ends)(f:Flow)(s':Shared):Prop :=
 match f with
 | .next=>∃ σ' H',Inv X pins σ' H' s'/\D.nx σ' H'
 | .brk=>∃ σ' H',Inv X pins σ' H' s'/\D.bk σ' H'
 | .cont=>∃ σ' H',Inv X pins σ' H' s'/\D.ct σ' H'
 | .ret u=>∃ v σ' H',Inv X pins σ' H' s'/\RelV v u/\D.rt v H'
def PE(X:Cx)(e:Expr)(t:TE):Prop :=
 ∀ (pins:List (Addr×Obj)) (s:Shared) (σ:St) (H:Hp) (Q:VK),Inv X pins σ H s->t σ H Q->wpAny (model X.prog X.w) X.A (eval e X.env) (EP X pins σ Q) X.xe s
def PT(X:Cx)(e:Expr)(t:TT):Prop :=
 ∀ (pins:List (Addr×Obj)) (s:Shared) (σ:St) (H:Hp) (Q:Bool->Hp->Prop),Inv X pins σ H s->t σ H Q->wpAny (model X.prog X.w) X.A (isTrue e X.env (eval e X.env)) (TP X pins σ Q) X.xe s
def PW(X:Cx)(e:Expr)(t:TT):Prop :=
 ∀ (whole:Sem Value) (pins:List (Addr×Obj)) (s:Shared) (σ:St) (H:Hp) (Q:Bool->Hp->Prop),Inv X pins σ H s->t σ H Q->wpAny (model X.prog X.w) X.A (isTrue e X.env whole) (TP X pins σ Q) X.xe s
theorem PW.pt{X:Cx}{e:Expr}{t:TT}(h:PW X e t):PT X e t:=h _
def PA(X:Cx)(es:List Expr)(t:TA):Prop :=
 ∀ (pos:Pos) (pins:List (Addr×Obj)) (s:Shared) (σ:St) (H:Hp) (Q:List V->Hp->Prop),Inv X pins σ H s->t σ H Q->wpAny (model X.prog X.w) X.A (spliced (backTo pos (starEach es X.env))) (AP X pins σ Q) X.xe s
def PS(X:Cx)(st:Stmt)(t:TS):Prop :=
 ∀ (pins:List (Addr×Obj)) (s:Shared) (σ:St) (H:Hp) (D:Ends),Inv X pins σ H s->t D σ H->wpAny (model X.prog X.w) X.A (exec st X.env) (SP X pins D) X.xe s
def PSs(X:Cx)(st:List Stmt)(t:TS):Prop :=
 ∀ (pins:List (Addr×Obj)) (s:Shared) (σ:St) (H:Hp) (D:Ends),Inv X pins σ H s->t D σ H->wpAny (model X.prog X.w) X.A (execs st X.env) (SP X pins D) X.xe s
theorem aI{α:Type}{t:Sem α}{Q Q':α->Shared->Prop}{M:Model}{A:Around}{E:Value->Shared->Prop}{s:Shared}(h:wpAny M A t Q E s)(hQ:∀ a s,Q a s->Q' a s):wpAny M A t Q' E s:=wpAny_mono h hQ fun _ _ x=>x
end L2
namespace L2
open PySem PySem.Spec PyProof.Rows
section
variable {X:Cx}
def Ri(i:Nat):TE:=fun σ H Q=>∃ v,σ[i]?=some (some v)/\Q v H
def tC(v:V):TE:=fun _ H Q=>Q v H
theorem Ts{i:Nat}{x:Str}{pos:Pos}(hN:X.N[i]?=some x)(hv:iQ X.env.scope x)(hd:(x==("__debug__" : Str))=false:=by decide)(hcd:(x==("__classdict__" : Str))=false:=by decide):PE X (.Name x pos) (Ri i):=by
 intro pins s σ H Q I h;obtain⟨v,e,h⟩:=h;obtain⟨m,hn,hl⟩:=I.loc;obtain⟨u,r,l⟩:=hl i x v hN e hv;have fin:EP X pins σ Q u s:=⟨v,H,I,r,h⟩
 rcases l with⟨hk,hm⟩ | ⟨hk,c,hc,hcell⟩
 ·exact wpAny_Name (wpAny_loadName_local I.ok.kind hk hn hm fin) hd
 ·rcases hk with hk | hk
  ·exact wpAny_Name (wpAny_loadName_cell I.ok.kind hk hc hcell fin) hd
  ·exact wpAny_Name (wpAny_loadName_free I.ok.kind hk hc hcell fin hcd) hd
theorem V8{i j pos}:PE X (.Constant (.int i) j pos) (tC (.int i)):=fun _ _ _ H _ I h=>wpAny_Constant_int ⟨.int i,H,I.tok _,⟨_,rfl⟩,h⟩
theorem Rc{b j pos}:PE X (.Constant (.bool b) j pos) (tC (.bl b)):=fun _ _ _ H _ I h=>Constant_bool ⟨.bl b,H,I,rfl,h⟩
theorem CA{j pos}:PE X (.Constant .none j pos) (tC .non):=fun _ _ _ H _ I h=>Constant_none ⟨.non,H,I,rfl,h⟩
theorem Vb{x j pos}:PE X (.Constant (.str x) j pos) (tC (.str x)):=fun _ _ _ H _ I h=>Calls.Constant_str ⟨.str x,H,I.tok _,⟨_,rfl⟩,h⟩
def Gl(X:Cx)(x:Str):Prop:=X.env.kindOf x=some .globalImplicit
theorem Fv{E:Value->Shared->Prop}{pins:List (Addr×Obj)}{s:Shared}{σ:St}{H:Hp}{x:Str}{u:Value}{pos:Pos}{Q:Value->Shared->Prop}(I:Inv X pins σ H s)(hg:Gl X x)(hm:X.mg x=some u)(h:Q u s)
  (hd:(x==("__debug__" : Str))=false:=by decide):wpAny (model X.prog X.w) X.A (eval (.Name x pos) X.env) Q E s :=
 Calls.Name_function_global I.ok.kind hg (Calls.loadGlobal_global (by rw[I.ok.glob];exact I.mod.glob.keeps I.bk) hm h) hd
theorem kW{E:Value->Shared->Prop}{pins:List (Addr×Obj)}{s:Shared}{σ:St}{H:Hp}{x:Str}{u:Value}{pos:Pos}{Q:Value->Shared->Prop}(I:Inv X pins σ H s)(hg:Gl X x)(hm:X.mg x=none)(hv:bootBuiltins x=some u)(h:Q u s)
  (hn:x≠"__name__":=by decide) (hd:(x==("__debug__" : Str))=false:=by decide):wpAny (model X.prog X.w) X.A (eval (.Name x pos) X.env) Q E s:=by
 obtain⟨mb,h1,h2⟩:=I.mod.blt;exact Calls.Name_function_global I.ok.kind hg (Calls.loadGlobal_builtin (by rw[I.ok.glob];exact I.mod.glob.keeps I.bk) hm (by rw[I.ok.blt];exact h1.keeps I.bk) ((h2 x hn).trans hv) h) hd
theorem wC{x:Str}{v:V}{u:Value}{pos:Pos}(hg:Gl X x)(hm:X.mg x=some u)(r:RelV v u)(hd:(x==("__debug__" : Str))=false:=by decide):PE X (.Name x pos) (tC v) :=
 fun _ _ _ H _ I h=>Fv I hg hm ⟨v,H,I,r,h⟩ hd
variable {a b:Expr}{ta tb:TE}{pos:Pos}
def tB(t:TE):TT:=fun σ H Q=>t σ H fun x H1=>∃ c,x=.bl c/\Q c H1
theorem O2{e:Expr}{t:TE}(h:PE X e t)(he:∀ whole,isTrue e X.env whole=(do let v <- whole;standAt e.pos;holding [v] (truthy v)):=by intro _;rfl):PT X e (tB t):=by
 intro pins s σ H Q I hw;refine isTrue_plain (aI (h pins s σ H _ I hw) fun v s1 ⟨x,H1,I1,r1,q1⟩=>?_) (he _);obtain⟨d,rfl,q⟩:=q1
 cases r1
 exact wpAny_truthy_bool ⟨H1,I1,q⟩
variable {tA tB':TT}{rest:List Expr}
def AA(t u:TT):TT:=fun σ H Q=>t σ H fun c H1=>if c=true then u σ H1 Q else Q false H1
def AW(t u:TT):TT:=fun σ H Q=>t σ H fun c H1=>if c=true then Q true H1 else u σ H1 Q
def F6(t:TT):TT:=fun σ H Q=>t σ H fun c H1=>Q (!c) H1
theorem Op(ha:PT X a tA):PW X (.BoolOp .And [a] pos) tA:=by
 intro wh pins s σ H Q I h;refine isTrue_and (aI (ha pins s σ H Q I h) fun c s1 e=>?_)
 cases c with
 | true=>exact isTrue_and_nil e
 | false=>exact e
theorem Zv(ha:PT X a tA):PW X (.BoolOp .Or [a] pos) tA:=by
 intro wh pins s σ H Q I h;refine isTrue_or (aI (ha pins s σ H Q I h) fun c s1 e=>?_)
 cases c with
 | false=>exact isTrue_or_nil e
 | true=>exact e
theorem J6(ha:PT X a tA)(hb:PW X (.BoolOp .And (b::rest) pos) tB'):PW X (.BoolOp .And (a::b::rest) pos) (AA tA tB'):=by
 intro wh pins s σ H Q I h;refine isTrue_and (aI (ha pins s σ H _ I h) fun c s1 ⟨H1,I1,q1⟩=>?_)
 cases c with
 | true=>exact hb wh pins s1 σ H1 Q I1 q1
 | false=>exact⟨H1,I1,q1⟩
theorem L4(ha:PT X a tA)(hb:PW X (.BoolOp .Or (b::rest) pos) tB'):PW X (.BoolOp .Or (a::b::rest) pos) (AW tA tB'):=by
 intro wh pins s σ H Q I h;refine isTrue_or (aI (ha pins s σ H _ I h) fun c s1 ⟨H1,I1,q1⟩=>?_)
 cases c with
 | true=>exact⟨H1,I1,q1⟩
 | false=>exact hb wh pins s1 σ H1 Q I1 q1
theorem N3(ha:PT X a tA):PT X (.UnaryOp .Not a pos) (F6 tA):=by
 intro pins s σ H Q I h;exact isTrue_not (ha pins s σ H (fun c H1=>Q (!c) H1) I h)
def R6(ta tb:TE):TE:=fun σ H Q=>ta σ H fun x H1=>∃ c,x=.bl c/\if c=true then tb σ H1 Q else Q (.bl false) H1
theorem CI{op}{t:TE}(h:PE X a t):PE X (.BoolOp op [a] pos) t:=fun pins s σ H Q I hw=>BoolOp_one (h pins s σ H Q I hw)
theorem Zf(ha:PE X a ta)(hb:PE X (.BoolOp .And (b::rest) pos) tb):PE X (.BoolOp .And (a::b::rest) pos) (R6 ta tb):=by
 intro pins s σ H Q I h;refine BoolOp_and (aI (ha pins s σ H _ I h) fun v s1 ⟨x,H1,I1,r1,q1⟩=>?_);obtain⟨c,rfl,q1⟩:=q1
 cases r1
 refine wpAny_truthy_bool ?_
 cases c with
 | true=>exact hb pins s1 σ H1 Q I1 q1
 | false=>exact⟨.bl false,H1,I1,rfl,q1⟩
def z9(t:TT)(ta tb:TE):TE:=fun σ H Q=>t σ H fun c H1=>if c=true then ta σ H1 Q else tb σ H1 Q
theorem Xi{c:Expr}(hc:PT X c tA)(ha:PE X a ta)(hb:PE X b tb):PE X (.IfExp c a b pos) (z9 tA ta tb):=by
 intro pins s σ H Q I h;refine wpAny_IfExp (aI (hc pins s σ H _ I h) fun d s1 ⟨H1,I1,q1⟩=>?_)
 cases d with
 | true=>exact ha pins s1 σ H1 Q I1 q1
 | false=>exact hb pins s1 σ H1 Q I1 q1
end
end L2
namespace L2
open PySem PySem.Spec PyProof.Rows
def SqL(K:PySem.W.Frag)(H:Hp)(a:Addr)(xs:List V):Prop :=
 Rd H a (.lst xs) \/
  ∃ (o:Obj) (its:Array Value) (n:Nat),K.lookup a=some o/\o.cls=.type "list"/\o.dict=none/\o.data=.seq its n/\its.size<=sizeLine/\Vals xs its.toList
def SqT(K:PySem.W.Frag)(H:Hp)(a:Addr)(xs:List V):Prop :=
 Rd H a (.tup xs) \/
  ∃ (o:Obj) (its:Array Value) (n:Nat),K.lookup a=some o/\(o.cls=.type "tuple"/\o.dict=none)/\o.data=.seq its n/\its.size<=sizeLine/\Vals xs its.toList
def E7:Value->Option V
 | .none=>some .non
 | .bool b=>some (.bl b)
 | .int i _=>some (.int i)
 | .str x _=>some (.str x)
 | .bytes b _=>some (.byt b)
 | .float b _=>some (.flt b)
 | .ref a=>some (.ref a)
 | .type n=>some (.ty n)
 | _=>none
theorem RelV.abs{x:V}{u:Value}(r:RelV x u):E7 u=some x:=by
 cases x with
 | non=>cases r;rfl
 | bl _=>cases r;rfl
 | int _=>obtain⟨t,rfl⟩:=r;rfl
 | str _=>obtain⟨t,rfl⟩:=r;rfl
 | byt _=>obtain⟨t,rfl⟩:=r;rfl
 | flt _=>obtain⟨t,rfl⟩:=r;rfl
 | ref _=>cases r;rfl
 | ty _=>cases r;rfl
theorem RelV.inj{x y:V}{u:Value}(r:RelV x u)(q:RelV y u):x=y:=Option.some.inj (r.abs.symm.trans q.abs)
theorem Vals.inj:∀ {xs ys:List V} {us:List Value},Vals xs us->Vals ys us->xs=ys
 | _,_,_,.nil,.nil=>rfl
 | _,_,_,.cons r t,.cons r' t'=>by rw[r.inj r',Vals.inj t t']
section
variable {X:Cx}{pins:List (Addr×Obj)}{σ:St}{H:Hp}{s:Shared}{a:Addr}{xs ys:List V}
theorem SqL.of{K:PySem.W.Frag}(h:H a=some (.lst xs)):SqL K H a xs:=.inl (.inl h)
theorem SqT.of{K:PySem.W.Frag}(h:H a=some (.tup xs)):SqT K H a xs:=.inl (.inl h)
theorem Inv.list(I:Inv X pins σ H s)(h:SqL X.K H a xs):∃ its:List Value,Vals xs its/\PlainL s.heap a its.toArray/\xs.length<=sizeLine:=by
 rcases h with h | ⟨o,its,n,hk,hc,hd,hs,hz,r⟩
 ·obtain⟨z,its,n,r,e⟩:=h.ok I.hok;exact⟨its,r,⟨_,n,e,rfl,rfl,rfl⟩,z⟩
 ·refine⟨its.toList,r,⟨o,n,I.kIn a o hk,hc,hd,by simpa using hs⟩,?_⟩
  have e:=r.length
  simp only[Array.length_toList]at e;omega
theorem Inv.tuple(I:Inv X pins σ H s)(h:SqT X.K H a xs):∃ its:List Value,Vals xs its/\IsTup s.heap a its.toArray/\xs.length<=sizeLine:=by
 rcases h with h | ⟨o,its,n,hk,hc,hs,hz,r⟩
 ·obtain⟨z,its,r,p⟩:=h.ok I.hok;exact⟨its,r,p,z.1⟩
 ·refine⟨its.toList,r,⟨o,I.kIn a o hk,hc.1,n,by simpa using hs⟩,?_⟩
  have e:=r.length
  simp only[Array.length_toList]at e;omega
theorem Inv.list_inj(I:Inv X pins σ H s)(h:SqL X.K H a xs)(h':SqL X.K H a ys):xs=ys:=by
 obtain⟨its,r,⟨o,n,e,_,_,d⟩,_⟩:=I.list h;obtain⟨its',r',⟨o',n',e',_,_,d'⟩,_⟩:=I.list h';rw[e]at e';cases e';rw[d]at d'
 injection d' with d1 _
 have:its=its':=by simpa using congrArg Array.toList d1
 subst this;exact r.inj r'
theorem Inv.tuple_inj(I:Inv X pins σ H s)(h:SqT X.K H a xs)(h':SqT X.K H a ys):xs=ys:=by
 obtain⟨its,r,⟨o,e,_,n,d⟩,_⟩:=I.tuple h;obtain⟨its',r',⟨o',e',_,n',d'⟩,_⟩:=I.tuple h';rw[e]at e';cases e';rw[d]at d'
 injection d' with d1 _
 have:its=its':=by simpa using congrArg Array.toList d1
 subst this;exact r.inj r'
end
abbrev Cx.wish(X:Cx)(E:Value->Shared->Prop):Cx:={X with xe:=E}
abbrev Cx.nox(X:Cx):Cx:=X.wish fun _ _=>False
theorem Cx.Ok.wish{X:Cx}(ok:X.Ok)(E:Value->Shared->Prop):(X.wish E).Ok :=
 ⟨ok.mod,ok.kind,ok.glob,ok.blt,ok.above,ok.inj,ok.has,ok.cab,ok.hd,ok.frames,ok.stk,ok.exf,ok.bs,ok.bsz,ok.noex,ok.exfs,ok.funs,ok.frf⟩
theorem Cx.Ok.unwish{X:Cx}{E:Value->Shared->Prop}(ok:(X.wish E).Ok):X.Ok :=
 ⟨ok.mod,ok.kind,ok.glob,ok.blt,ok.above,ok.inj,ok.has,ok.cab,ok.hd,ok.frames,ok.stk,ok.exf,ok.bs,ok.bsz,ok.noex,ok.exfs,ok.funs,ok.frf⟩
section
variable {X:Cx}{pins:List (Addr×Obj)}{σ:St}{H:Hp}{s:Shared}{E:Value->Shared->Prop}
theorem Inv.wish(I:Inv X pins σ H s)(E:Value->Shared->Prop):Inv (X.wish E) pins σ H s:=⟨I.ok.wish E,I.os,I.bare,I.base,I.loc,I.cell,I.free,I.freeC,I.pin,I.hok,I.len⟩
theorem Inv.unwish(I:Inv (X.wish E) pins σ H s):Inv X pins σ H s:=⟨I.ok.unwish,I.os,I.bare,I.base,I.loc,I.cell,I.free,I.freeC,I.pin,I.hok,I.len⟩
theorem SP.unwish{D:Ends}{f:Flow}{s':Shared}(h:SP (X.wish E) pins D f s'):SP X pins D f s':=by
 cases f with
 | next=>obtain⟨σ',H',I,q⟩:=h;exact⟨σ',H',I.unwish,q⟩
 | brk=>obtain⟨σ',H',I,q⟩:=h;exact⟨σ',H',I.unwish,q⟩
 | cont=>obtain⟨σ',H',I,q⟩:=h;exact⟨σ',H',I.unwish,q⟩
 | ret u=>obtain⟨v,σ',H',I,r,q⟩:=h;exact⟨v,σ',H',I.unwish,r,q⟩
theorem PE.nox{e:Expr}{t:TE}(h:PE X.nox e t):PE X e t:=fun pins s σ H Q I hw =>
 wpAny_mono (h pins s σ H Q (I.wish _) hw) (fun _ _ ⟨v,H',I',r,q⟩=>⟨v,H',I'.unwish,r,q⟩) fun _ _ z=>False.elim z
theorem PT.nox{e:Expr}{t:TT}(h:PT X.nox e t):PT X e t:=fun pins s σ H Q I hw =>
 wpAny_mono (h pins s σ H Q (I.wish _) hw) (fun _ _ ⟨H',I',q⟩=>⟨H',I'.unwish,q⟩) fun _ _ z=>False.elim z
theorem PSs.nox{st:List Stmt}{t:TS}(h:PSs X.nox st t):PSs X st t:=fun pins s σ H D I hw =>
 wpAny_mono (h pins s σ H D (I.wish _) hw) (fun _ _ q=>q.unwish) fun _ _ z=>False.elim z
end
section
variable {X:Cx}{st:Stmt}{rest:List Stmt}{t u:TS}{e:Expr}{te:TE}{pos:Pos}
def Qx:TS:=fun D σ H=>D.nx σ H
def AZ(t u:TS):TS:=fun D σ H=>t {D with nx:=u D} σ H
theorem B7:PSs X [] Qx:=fun _ _ σ H _ I h=>wpAny_execs_nil ⟨σ,H,I,h⟩
theorem E6(h1:PS X st t)(h2:PSs X rest u):PSs X (st::rest) (AZ t u):=by
 intro pins s σ H D I h;refine wpAny_execs_cons (aI (h1 pins s σ H {D with nx:=u D} I h) fun f s1 q=>?_)
 cases f with
 | next =>
  obtain⟨σ',H',I',q⟩:=q;exact h2 pins s1 σ' H' D I' q
 | ret v=>exact q
 | brk=>exact q
 | cont=>exact q
theorem Inv.quiet{pins:List (Addr×Obj)}{σ:St}{H:Hp}{s:Shared}(I:Inv X pins σ H s):interactive X.env=false:=by simp[interactive,I.ok.kind]
def v6(te:TE):TS:=fun D σ H=>te σ H D.rt
theorem Zw(he:PE X e te):PS X (.Return (some e) pos) (v6 te):=by
 intro pins s σ H D I h;exact wpAny_Return_some (aI (he pins s σ H _ I h) fun v s1 ⟨x,H1,I1,r1,q1⟩=>⟨x,σ,H1,I1,r1,q1⟩)
def Pe(c:TT)(t u:TS):TS:=fun D σ H=>c σ H fun b H1=>if b=true then t D σ H1 else u D σ H1
theorem Wm{c:Expr}{a b:List Stmt}{tc:TT}(hc:PT X c tc)(ha:PSs X a t)(hb:PSs X b u):PS X (.If c a b pos) (Pe tc t u):=by
 intro pins s σ H D I h;refine wpAny_If (aI (hc pins s σ H _ I h) fun d s1 ⟨H1,I1,q1⟩=>?_)
 cases d with
 | true=>exact ha pins s1 σ H1 D I1 q1
 | false=>exact hb pins s1 σ H1 D I1 q1
end
abbrev TG:=V->St->Hp->(St->Hp->Prop)->Prop
abbrev iC:=List V->St->Hp->(St->Hp->Prop)->Prop
def PG(X:Cx)(target:Expr)(t:TG):Prop :=
 ∀ (pins:List (Addr×Obj)) (s:Shared) (σ:St) (H:Hp) (v:V) (u:Value) (Q:St->Hp->Prop),Inv X pins σ H s->RelV v u->t v σ H Q ->
  wpAny (model X.prog X.w) X.A (assign target X.env u) (fun _ s'=>∃ σ' H',Inv X pins σ' H' s'/\Q σ' H') X.xe s
def PGs(X:Cx)(ts:List Expr)(t:iC):Prop :=
 ∀ (pins:List (Addr×Obj)) (s:Shared) (σ:St) (H:Hp) (vs:List V) (us:List Value) (Q:St->Hp->Prop),Inv X pins σ H s->Vals vs us->t vs σ H Q ->
  wpAny (model X.prog X.w) X.A (assignInOrder ((assignEach ts X.env).map (·.2)) us) (fun _ s'=>∃ σ' H',Inv X pins σ' H' s'/\Q σ' H') X.xe s
abbrev TSet:=V->V->V->Hp->(Hp->Prop)->Prop
section
variable {X:Cx}{pos:Pos}
def Gv(i:Nat):TG:=fun v σ H Q=>Q (σ.set i (some v)) H
theorem C4{i:Nat}{x:Str}(hN:X.N.Nodup)(hi:X.N[i]?=some x)(hx:kM X.env.scope x)(hf:X.fn x=true\/X.env.scope.names.lookup x=some .local:=by first | exact .inl rfl | exact .inr rfl | assumption):PG X (.Name x pos) (Gv i):=by
 intro pins s σ H v u Q I r h;exact wpAny_assign_Name (Go I hN hi hx r (fun s' I'=>⟨_,H,I',h⟩) hf)
def AO:iC:=fun vs σ H Q=>vs=[]/\Q σ H
def Tz(t:TG)(u:iC):iC:=fun vs σ H Q=>∃ v r,vs=v::r/\t v σ H fun σ' H'=>u r σ' H' Q
theorem Wb:PGs X [] AO:=by
 intro pins s σ H vs us Q I r h;obtain⟨e,h⟩:=h;subst e
 cases r
 exact assignInOrder_nil ⟨σ,H,I,h⟩
theorem Sm{e:Expr}{es:List Expr}{t:TG}{u:iC}(h1:PG X e t)(h2:PGs X es u)
  (hs:(assignEach (e::es) X.env).map (·.2)=assign e X.env::(assignEach es X.env).map (·.2):=by rfl):PGs X (e::es) (Tz t u):=by
 intro pins s σ H vs us Q I r h;obtain⟨v,vr,e1,h⟩:=h;subst e1
 cases r with
 | cons r rr =>
  rw[hs];refine assignInOrder_cons (aI (h1 pins s σ H _ _ _ I r h) fun _ s1 ⟨σ1,H1,I1,q1⟩=>?_);exact h2 pins s1 σ1 H1 _ _ Q I1 rr q1
def Up(K:PySem.W.Frag)(n:Nat)(t:iC):TG:=fun v σ H Q=>∃ a xs,v=.ref a/\SqT K H a xs/\xs.length=n/\t xs σ H Q
theorem CH{es:List Expr}{k:Nat}{t:iC}{n:Nat}(hc:X.calm=true)(h:PGs X es t)
  (hn:(assignEach es X.env).length=n:=by rfl) (hst:(assignEach es X.env).findIdx? (·.1)=none:=by rfl):PG X (.Tuple es k pos) (Up X.K n t):=by
 intro pins s σ H v u Q I r hw;obtain⟨a,xs,e1,hq,hl,hw⟩:=hw;subst e1
 cases r
 obtain⟨its,rv,ht,hz⟩:=I.tuple hq;refine assign_Tuple_tuple (I.ok.hd hc) ht (by simp[hn,<- hl,rv.length]) hst fun h' hx=>?_
 have I1:Inv X pins σ H {s with heap:=h'}:=I.kept (t':=s.toks) fun b o e=>hx b o (Nat.ne_of_lt (Heap.lt_size e)) e
 exact h pins _ σ H xs _ Q I1 (by simpa using rv) hw
def Ju(te:TE)(g:TG):TS:=fun D σ H=>te σ H fun x H1=>g x σ H1 D.nx
theorem j5{tg e:Expr}{te:TE}{g:TG}(he:PE X e te)(hg:PG X tg g)(hs:swapsWithSole [tg] e pos.line X.env=pure false:=by rfl)(hw:swappedStores [tg] e X.env=pure none:=by rfl)
  (h1:(assignEach [tg] X.env).map (·.2)=[assign tg X.env]:=by rfl):PS X (.Assign [tg] e pos) (Ju te g):=by
 intro pins s σ H D I h;refine wpAny_Assign_stores (aI (he pins s σ H _ I h) fun v s1 ⟨x,H1,I1,r1,q1⟩=>?_) hs hw;rw[h1];exact aI (hg pins s1 σ H1 x v _ I1 r1 q1) fun _ s2 q=>q
theorem Yg{i:Nat}{x:Str}{e:Expr}{te:TE}{pos':Pos}(hN:X.N.Nodup)(hi:X.N[i]?=some x)(hx:kM X.env.scope x)(he:PE X e te)(hs:swapsWith e (some (.Name x pos')) pos.line X.env=pure false:=by rfl)(hf:X.fn x=true\/X.env.scope.names.lookup x=some .local:=by first | exact .inl rfl | exact .inr rfl | assumption) :
  PS X (.Assign [.Name x pos'] e pos) (Ju te (Gv i)):=by
 intro pins s σ H D I h;refine wpAny_Assign_Name (aI (he pins s σ H _ I h) fun v s1 ⟨y,H1,I1,r1,q1⟩=>?_) hs;exact Go I1 hN hi hx r1 (fun s2 I2=>⟨_,H1,I2,q1⟩) hf
end
structure It where
 go:Nat->Hp->Prop
 yld:Nat->Hp->V->Hp->Prop
 stop:Nat->Hp->Prop
def cS(X:Cx)(pins:List (Addr×Obj))(H:Hp)(b:Addr):Prop :=
 H b=none/\b≠X.env.locals/\b∉X.fs/\(b∈X.ex\/X.s₀.heap.objs.size<=b)/\(∀ x c,X.env.cells.lookup x=some c->c≠b)/\∀ p∈X.pn++pins,p.1≠b
theorem Inv.fpOk{X:Cx}{pins:List (Addr×Obj)}{σ:St}{H H':Hp}{s:Shared}{b:Addr}(I:Inv X pins σ H s)(hb:s.heap.objs.size<=b)(hn:H' b=none):cS X pins H' b:=by
 refine⟨hn,Nat.ne_of_gt (Nat.lt_of_lt_of_le I.lt hb),I.nofs hb,.inr (Nat.le_trans I.sz hb),fun x c e z=>?_,fun p hp z=>?_⟩
 ·obtain⟨v,q⟩:=I.cell x c e;exact absurd (Nat.lt_of_lt_of_le q.lt (by rw[z];exact hb)) (Nat.lt_irrefl _)
 ·exact absurd (Nat.lt_of_lt_of_le (Heap.lt_size (I.pin p hp).1) (by rw[z];exact hb)) (Nat.lt_irrefl _)
structure Turn (P:Program) (w:World) (K:PySem.W.Frag) (tg:Expr) (J:It) (fp:List Addr) (it:Addr) (tn:Nat->Heap->Prop):Prop where
 mem:it∈fp
 obj:∀ i h,tn i h->∀ b∈fp,∃ o,h.get? b=some o/\∀ v,o.data≠.cell v
 keep:∀ i h h',tn i h->(∀ b∈fp,∀ o,h.get? b=some o->h'.get? b=some o)->tn i h'
 item:∀ (X:Cx),X.prog=P->X.w=w->X.K=K->X.calm=true->∀ (i:Nat) (pins:List (Addr×Obj)) (s:Shared) (σ:St) (H:Hp) (E:Value->Shared->Prop),Inv X pins σ H s->(∀ b∈fp,cS X pins H b)->tn i s.heap->J.go i H ->
  wpAny (model P w) X.A (pyNext (.ref it)) (fun r s1=>∃ u,r=some u /\
   wpAny (model P w) X.A (letOwnedTupleGo tg (.ref it) u) (fun _ s2=>∃ x H',Inv X pins σ H' s2/\RelV x u/\J.yld i H x H'/\tn (i+1) s2.heap/\∀ b∈fp,H' b=none) E s1) E s
 done:∀ (X:Cx),X.prog=P->X.w=w->X.K=K->X.calm=true->∀ (i:Nat) (pins:List (Addr×Obj)) (s:Shared) (σ:St) (H:Hp) (E:Value->Shared->Prop),Inv X pins σ H s->(∀ b∈fp,cS X pins H b)->tn i s.heap->J.stop i H ->
  wpAny (model P w) X.A (pyNext (.ref it)) (fun r s1=>r=none/\Inv X pins σ H s1) E s
 self:∀ (A:Around) (i:Nat) (s:Shared) (Q:Value->Shared->Prop) (E:Value->Shared->Prop),tn i s.heap->Q (.ref it) s->wpAny (model P w) A (pyIter (.ref it)) Q E s
abbrev TI:=St->Hp->(It->Hp->Prop)->Prop
def Gx(X:Cx)(pins:List (Addr×Obj))(σ:St)(tg:Expr)(R:It->Hp->Prop)(itv:Value)(s2:Shared):Prop :=
 ∃ (it:Addr) (fp:List Addr) (tn:Nat->Heap->Prop) (J:It) (H':Hp),itv=.ref it/\Inv X pins σ H' s2/\Turn X.prog X.w X.K tg J fp it tn/\tn 0 s2.heap/\(∀ b∈fp,cS X pins H' b)/\R J H'
def PI(X:Cx)(tg iter:Expr)(wi:TI):Prop :=
 ∀ (pins:List (Addr×Obj)) (s:Shared) (σ:St) (H:Hp) (R:It->Hp->Prop),Inv X pins σ H s->wi σ H R ->
  wpAny (model X.prog X.w) X.A (eval iter X.env) (fun v s1=>wpAny (model X.prog X.w) X.A (pyIter v) (Gx X pins σ tg R) X.xe s1) X.xe s
theorem xL{M:Model}{A:Around}{E:Value->Shared->Prop}{s:Shared}{tg:Expr}{it:Addr}{u:Value}{o:Obj}{n:String}{vs:Array Value}{Q:Unit->Shared->Prop}(ho:s.heap.get? it=some o)(hc:o.cls=.type n)(hd:o.data=.fields vs)
  (hn:["enumerate","zip","dict_itemiterator","dict_reverseitemiterator","odict_iterator","itertools.zip_longest","itertools.pairwise"].contains n=false) (hQ:Q () s):wpAny M A (letOwnedTupleGo tg (.ref it) u) Q E s:=by
 unfold letOwnedTupleGo
 cases tg<;>first
  | exact wpAny_pure hQ
  | (cases u<;>first
    | exact wpAny_pure hQ
    | (refine wpAny_bind (wpAny_load ho ?_)
       rw[hc,hd];show wpAny M A (if (["enumerate","zip","dict_itemiterator","dict_reverseitemiterator","odict_iterator","itertools.zip_longest","itertools.pairwise"].contains n&&vs[0]? == some (rawInt _))=true then _ else _) Q E s
       rw[if_neg (by intro h;rw[hn,Bool.false_and]at h;cases h)]
       exact wpAny_pure hQ))
def sG(K:PySem.W.Frag)(a:Addr):It :=
 ⟨fun i H=>∃ xs x,SqL K H a xs/\xs[i]?=some x,fun i H x H'=>H'=H/\∀ xs,SqL K H a xs->xs[i]?=some x,fun i H=>∃ xs,SqL K H a xs/\xs.length<=i⟩
def yL(K:PySem.W.Frag)(a:Addr):It :=
 ⟨fun i H=>∃ xs x,SqT K H a xs/\xs[i]?=some x,fun i H x H'=>H'=H/\∀ xs,SqT K H a xs->xs[i]?=some x,fun i H=>∃ xs,SqT K H a xs/\xs.length<=i⟩
def Aw(lo:Int)(n:Nat):It:=⟨fun i _=>i<n,fun i H x H'=>H'=H/\x=.int (lo+i),fun i _=>n<=i⟩
theorem S2{P:Program}{w:World}{K:PySem.W.Frag}{tg:Expr}(a it:Addr):Turn P w K tg (sG K a) [it] it (fun i h=>h.IsListIter it a i) where
 mem:=by simp
 obj:=fun i h st b hb=>by
  have e:b=it:=by simpa using hb
  subst e;obtain⟨o,e,c,d⟩:=st;exact⟨o,e,fun v z=>by rw[d]at z;cases z⟩
 keep:=fun i h h' st k=>st.at fun o e=>k it (by simp) o e
 item:=by
  intro X hP hw hK hc i pins s σ H E I hf st hg;subst hP hw hK;obtain⟨xs,x,hq,hx⟩:=hg;obtain⟨its,rv,p,hz⟩:=I.list hq;obtain⟨u,hu,ru⟩:=rv.get hx;obtain⟨f0,f1,f2,f3,f4,f5⟩:=hf it (by simp)
  refine wpAny_pyNext_list_item st p.isList (x:=u) (by simpa using hu) fun h' st' sb=>?_
  have I1:Inv X pins σ H {s with heap:=h'}:=I.turned (t':=s.toks) (fun b o hb e=>(sb.2 b hb).trans e) f0 f1 f3 f4 f5
  obtain⟨o,e,c,d⟩:=id st';exact⟨u,rfl,xL (s:={s with heap:=h'}) e c d (by decide) ⟨x,H,I1,ru,⟨rfl,fun ys hy=>by rw[I.list_inj hy hq];exact hx⟩,st',fun b hb=>(hf b hb).1⟩⟩
 done:=by
  intro X hP hw hK hc i pins s σ H E I hf st hg;subst hP hw hK;obtain⟨xs,hq,hx⟩:=hg;obtain⟨its,rv,p,hz⟩:=I.list hq;obtain⟨f0,f1,f2,f3,f4,f5⟩:=hf it (by simp)
  have hl:=rv.length
  exact wpAny_pyNext_list_end (I.ok.hd hc) st p.isList (by simp;omega) fun h' eb=>⟨rfl,I.turned (t':=s.toks) (fun b o hb e=>eb b o hb e) f0 f1 f3 f4 f5⟩
 self:=fun _ _ _ _ _ st h=>wpAny_pyIter_listiter st h
theorem M0{P:Program}{w:World}{K:PySem.W.Frag}{tg:Expr}(a it:Addr):Turn P w K tg (yL K a) [it] it (fun i h=>h.IsTupleIter it a i) where
 mem:=by simp
 obj:=fun i h st b hb=>by
  have e:b=it:=by simpa using hb
  subst e;obtain⟨o,e,c,d⟩:=st;exact⟨o,e,fun v z=>by rw[d]at z;cases z⟩
 keep:=fun i h h' st k=>st.at fun o e=>k it (by simp) o e
 item:=by
  intro X hP hw hK hc i pins s σ H E I hf st hg;subst hP hw hK;obtain⟨xs,x,hq,hx⟩:=hg;obtain⟨its,rv,p,hz⟩:=I.tuple hq;obtain⟨u,hu,ru⟩:=rv.get hx;obtain⟨f0,f1,f2,f3,f4,f5⟩:=hf it (by simp)
  refine wpAny_pyNext_tuple_item st (show s.heap.IsTuple a its.toArray from p) (x:=u) (by simpa using hu) fun h' st' sb=>?_
  have I1:Inv X pins σ H {s with heap:=h'}:=I.turned (t':=s.toks) (fun b o hb e=>(sb.2 b hb).trans e) f0 f1 f3 f4 f5
  obtain⟨o,e,c,d⟩:=id st';exact⟨u,rfl,xL (s:={s with heap:=h'}) e c d (by decide) ⟨x,H,I1,ru,⟨rfl,fun ys hy=>by rw[I.tuple_inj hy hq];exact hx⟩,st',fun b hb=>(hf b hb).1⟩⟩
 done:=by
  intro X hP hw hK hc i pins s σ H E I hf st hg;subst hP hw hK;obtain⟨xs,hq,hx⟩:=hg;obtain⟨its,rv,p,hz⟩:=I.tuple hq;obtain⟨f0,f1,f2,f3,f4,f5⟩:=hf it (by simp)
  have hl:=rv.length
  exact wpAny_pyNext_tuple_end (I.ok.hd hc) st (show s.heap.IsTuple a its.toArray from p) (by simp;omega) fun h' eb=>⟨rfl,I.turned (t':=s.toks) (fun b o hb e=>eb b o hb e) f0 f1 f3 f4 f5⟩
 self:=fun _ _ _ _ _ st h=>wpAny_pyIter_tupleiter st h
theorem CL{P:Program}{w:World}{K:PySem.W.Frag}{tg:Expr}(it:Addr)(lo:Int)(n:Nat):Turn P w K tg (Aw lo n) [it] it (fun i h=>IsRangeIter h it (lo+(i:Nat)*1) ((n:Int)-(i:Nat)) 1) where
 mem:=by simp
 obj:=fun i h st b hb=>by
  have e:b=it:=by simpa using hb
  subst e;exact⟨_,st,fun v z=>by
   have z':Data.fields _=Data.cell v:=z
   cases z'⟩
 keep:=fun i h h' st k=>k it (by simp) _ st
 item:=by
  intro X hP hw hK hc i pins s σ H E I hf st hg;subst hP hw hK;obtain⟨f0,f1,f2,f3,f4,f5⟩:=hf it (by simp)
  have W:=Walks.range (prog:=X.prog) (w:=X.w) (I.ok.hd hc) it lo 1 n
  refine W.item i s _ _ hg st fun v h' tk hv st' kk=>?_;obtain⟨t,rfl⟩:=hv;have I1:Inv X pins σ H {s with heap:=h',toks:=tk}:=I.turned (fun b o hb e=>kk b o (by simpa using hb) e) f0 f1 f3 f4 f5
  refine⟨_,rfl,xL (s:={s with heap:=h',toks:=tk}) (n:="range_iterator") st' rfl rfl (by decide) ⟨.int (lo+i),H,I1,⟨t,?_⟩,⟨rfl,rfl⟩,st',fun b hb=>(hf b hb).1⟩⟩
  rw[Int.mul_one]
 done:=by
  intro X hP hw hK hc i pins s σ H E I hf st hg;subst hP hw hK;obtain⟨f0,f1,f2,f3,f4,f5⟩:=hf it (by simp)
  exact wpAny_pyNext_range_end (I.ok.hd hc) st (by have:n<=i:=hg;omega) fun h' eb=>⟨rfl,I.turned (t':=s.toks) (fun b o hb e=>eb b o hb e) f0 f1 f3 f4 f5⟩
 self:=fun _ _ _ _ _ st h=>wpAny_pyIter_rangeiter st h
end L2
namespace L2
open PySem PySem.Spec PyProof.Rows
section
variable {X:Cx}{tg:Expr}
theorem T5{pins:List (Addr×Obj)}{σ:St}{H:Hp}{s:Shared}{R:It->Hp->Prop}{E:Value->Shared->Prop}{lo hi:Int}{t u v:Tok}{tk:Nat}(I:Inv X pins σ H s)(h1:-(2^62)<=lo)(h2:lo<2^62)(h3:-(2^62)<=hi)(h4:hi<2^62)
  (q:R (Aw lo (hi-lo).toNat) H):wpAny (model X.prog X.w) X.A (pyIter (.ref s.heap.objs.size)) (Gx X pins σ tg R) E {s with heap:=s.heap.push {cls:=.type "range",data:=.fields #[.int lo t,.int hi u,.int 1 v]},toks:=tk}:=by
 refine wpAny_pyIter_range (IsRange.new ..) (small_one h1 h2 h3 h4) ?_;have I1:Inv X pins σ H {s with heap:=s.heap.push {cls:=.type "range",data:=.fields #[.int lo t,.int hi u,.int 1 v]},toks:=tk}:=I.kept fun b o e=>Heap.get?_push_of_some _ e
 refine⟨(s.heap.push {cls:=.type "range",data:=.fields #[.int lo t,.int hi u,.int 1 v]}).objs.size,[(s.heap.push {cls:=.type "range",data:=.fields #[.int lo t,.int hi u,.int 1 v]}).objs.size],_,_,H,rfl,
  I1.kept (t':=tk) fun b o e=>Heap.get?_push_of_some _ e,CL _ lo (hi-lo).toNat,?_,fun b hb=>?_,q⟩
 ·have e1:lo+((0:Nat):Int)*1=lo:=by simp
  have e2:(((hi-lo).toNat:Nat):Int)-((0:Nat):Int)=Builtin.Range.rangeSize lo hi 1:=by rw[rangeSize_one];split<;>omega
  show IsRangeIter _ _ (lo+((0:Nat):Int)*1) ((((hi-lo).toNat:Nat):Int)-((0:Nat):Int)) 1
  rw[e1,e2];exact Heap.get?_push_size _ rfl
 ·have e:b=(s.heap.push {cls:=.type "range",data:=.fields #[.int lo t,.int hi u,.int 1 v]}).objs.size:=by simpa using hb
  subst e;exact I1.fpOk (Nat.le_refl _) (I1.hok.fresh (Nat.le_refl _))
def A4(ta:TA):TI:=fun σ H R=>ta σ H fun vs H1=>∃ j:Int,vs=[.int j]/\-(2^62)<=j/\j<2^62/\R (Aw 0 j.toNat) H1
theorem W6{a:Expr}{ta:TA}{p pos:Pos}(hg:Gl X "range")(hm:X.mg "range"=none)(ha:PA X [a] ta)(hs:starEach [a] X.env=[(false,eval a X.env)]:=by rfl):PI X tg (.Call (.Name "range" p) [a] [] pos) (A4 ta):=by
 intro pins s σ H R I h;refine Call_ (kW I hg hm boot_range (PyProof.Rows.callWith_type1 (aI (ha pos pins s σ H _ I h) fun us s1 ⟨vs,H1,I1,r1,q1⟩=>?_) hs rfl));obtain⟨j,e,q1,q2,q⟩:=q1;subst e
 cases r1 with
 | cons r rr =>
  cases rr
  obtain⟨t,rfl⟩:=r;exact call_range_1 (T5 I1 (by omega) (by omega) q1 q2 (by simpa using q))
def CK(wi:TI)(g:TG)(tb:TS):TS:=fun D σ H=>wi σ H fun J H1=>∃ W:Nat->Nat->St->Hp->Prop,(∃ m,W 0 m σ H1)/\∀ i m σ H,W i m σ H ->
 (J.stop i H/\D.nx σ H)\/(J.go i H/\∃ N:St->Hp->Prop,(∀ σ' H',N σ' H'->∃ m',m'<m/\W (i+1) m' σ' H')/\∀ x H',J.yld i H x H'->g x σ H' fun σ2 H2=>tb {D with nx:=N,ct:=N,bk:=D.nx} σ2 H2)
def kC(fp:List Addr)(h:Heap):List (Addr×Obj):=fp.filterMap fun b=>(h.get? b).map fun o=>(b,o)
theorem hU{fp:List Addr}{h:Heap}{b:Addr}{o:Obj}(hb:b∈fp)(e:h.get? b=some o):(b,o)∈kC fp h:=List.mem_filterMap.mpr ⟨b,hb,by rw[e];rfl⟩
theorem p9{fp:List Addr}{h:Heap}{p:Addr×Obj}(hp:p∈kC fp h):p.1∈fp/\h.get? p.1=some p.2:=by
 obtain⟨b,hb,e⟩:=List.mem_filterMap.mp hp
 cases q:h.get? b with
 | none=>rw[q]at e;cases e
 | some o =>
  rw[q]at e;have e':(b,o)=p:=Option.some.inj e
  subst e';exact⟨hb,q⟩
theorem Inv.pinned{pins:List (Addr×Obj)}{σ:St}{H:Hp}{s:Shared}{fp:List Addr}(I:Inv X pins σ H s)(hf:∀ b∈fp,cS X pins H b)(ho:∀ b∈fp,∃ o,s.heap.get? b=some o/\∀ v,o.data≠.cell v):Inv X (pins++kC fp s.heap) σ H s :=
 I.pins_of fun p hp=>(List.mem_append.mp hp).elim (fun z=>I.pin p (List.mem_append_right _ z)) fun z=>by
  obtain⟨hb,e⟩:=p9 z;obtain⟨f0,f1,f2,_⟩:=hf p.1 hb;obtain⟨o,e',d⟩:=ho p.1 hb;rw[e]at e';cases e';exact⟨e,f0,f1,f2,d⟩
theorem Inv.unpinned{pins pl:List (Addr×Obj)}{σ:St}{H:Hp}{s:Shared}(I:Inv X (pins++pl) σ H s):Inv X pins σ H s:=I.pins_of fun p hp=>I.pin p (List.mem_append_right _ (List.mem_append_left _ hp))
theorem i5{iter:Expr}{body:List Stmt}{wi:TI}{g:TG}{tb:TS}{pos:Pos}(hp:PassesOwn (model X.prog X.w) X.A X.env X.xe)(hc:X.calm=true)(hi:PI X tg iter wi)(hg:PG X tg g)(hb:PSs X body tb)
  (hs:∀ x,foldedSetIterable iter X.env x=pure x:=by intro _;rfl):PS X (.For tg iter body [] pos) (CK wi g tb):=by
 intro pins s σ H D I h;refine wpAny_For (aI (hi pins s σ H _ I h) fun v s1 h1=>aI h1 fun itv s2 h2=>?_) hs;obtain⟨it,fp,tn,J,H2,e,I2,T,st2,f2,W,⟨m0,w0⟩,turn⟩:=h2;subst e
 -- what stays true of the iterator's objects through the loop
 have stat:∀ {H':Hp},(∀ b∈fp,H' b=none)->∀ b∈fp,cS X pins H' b:=fun hn b hb=>⟨hn b hb,(f2 b hb).2⟩
 refine codeAny_forLoop_any (fun n s'=>∃ i σ' H',Inv X pins σ' H' s'/\tn i s'.heap/\(∀ b∈fp,H' b=none)/\W i n σ' H') ?_ m0 ⟨0,σ,H2,I2,st2,fun b hb=>(f2 b hb).1,w0⟩;rintro n s3 ⟨i,σ3,H3,I3,st3,fr3,w3⟩;rcases turn i n σ3 H3 w3 with⟨stop,qn⟩ | ⟨go,N,hN,step⟩
 ·refine wpAny_passesOwn hp (aI (T.done X rfl rfl rfl hc i pins s3 σ3 H3 X.xe I3 (stat fr3) st3 stop) fun r s4 ⟨hr,I4⟩=>?_);subst hr;exact wpAny_execs_nil ⟨σ3,H3,I4,qn⟩
 ·refine wpAny_passesOwn hp (aI (T.item X rfl rfl rfl hc i pins s3 σ3 H3 X.xe I3 (stat fr3) st3 go) fun r s4 ⟨u,hr,h4⟩=>?_);subst hr;refine wpAny_passesOwn hp (aI h4 fun _ s5 ⟨x,H5,I5,r5,y5,st5,fr5⟩=>?_);have I5':=I5.pinned (stat fr5) (T.obj _ _ st5)
  refine wpAny_passesOwn hp (aI (hg _ s5 σ3 H5 x u _ I5' r5 (step x H5 y5)) fun _ s6 ⟨σ6,H6,I6,q6⟩=>?_);refine wpAny_passesOwn hp (aI (hb _ s6 σ6 H6 _ I6 q6) fun f s7 q7=>?_);have again:∀ {σ7:St} {H7:Hp},Inv X (pins++kC fp s5.heap) σ7 H7 s7->N σ7 H7->∃ m,m<n/\∃ i σ' H',Inv X pins σ' H' s7/\tn i s7.heap/\(∀ b∈fp,H' b=none)/\W i m σ' H':=fun {σ7 H7} I7 n7=>by
   obtain⟨m',hm,w7⟩:=hN σ7 H7 n7;refine⟨m',hm,i+1,σ7,H7,I7.unpinned,T.keep _ _ _ st5 fun b hb o e=>(I7.pin (b,o) (List.mem_append_right _ (List.mem_append_right _ (hU hb e)))).1,fun b hb=>?_,w7⟩;obtain⟨o,e,d⟩:=T.obj _ _ st5 b hb;exact(I7.pin (b,o) (List.mem_append_right _ (List.mem_append_right _ (hU hb e)))).2.1
  cases f with
  | next=>obtain⟨σ7,H7,I7,n7⟩:=q7;exact again I7 n7
  | cont=>obtain⟨σ7,H7,I7,n7⟩:=q7;exact again I7 n7
  | brk=>obtain⟨σ7,H7,I7,q7⟩:=q7;exact⟨σ7,H7,I7.unpinned,q7⟩
  | ret v=>obtain⟨x7,σ7,H7,I7,r7,q7⟩:=q7;exact⟨x7,σ7,H7,I7.unpinned,r7,q7⟩
end
end L2
namespace L2
open PySem PySem.Spec PyProof.Rows
abbrev R2:=V->V->Hp->VK->Prop
def OpR(X:Cx)(f:Value->Value->Sem Value)(r:R2):Prop :=
 ∀ (pins:List (Addr×Obj)) (s:Shared) (σ:St) (H:Hp) (x y:V) (v u:Value) (Q:VK),Inv X pins σ H s->RelV x v->RelV y u->r x y H Q ->
  wpAny (model X.prog X.w) X.A (f v u) (EP X pins σ Q) X.xe s
def Bb(X:Cx)(f:Value->Sem Value)(r:V->Hp->VK->Prop):Prop :=
 ∀ (pins:List (Addr×Obj)) (s:Shared) (σ:St) (H:Hp) (x:V) (v:Value) (Q:VK),Inv X pins σ H s->RelV x v->r x H Q ->
  wpAny (model X.prog X.w) X.A (f v) (EP X pins σ Q) X.xe s
def CallR(X:Cx)(f:Value)(r:List V->Hp->VK->Prop):Prop :=
 ∀ (pins:List (Addr×Obj)) (s:Shared) (σ:St) (H:Hp) (xs:List V) (us:List Value) (Q:VK),Inv X pins σ H s->Vals xs us->r xs H Q ->
  wpAny (model X.prog X.w) X.A (call f us) (EP X pins σ Q) X.xe s
def Zx(r:R2)(ta tb:TE):TE:=fun σ H Q=>ta σ H fun x H1=>tb σ H1 fun y H2=>r x y H2 Q
def Tv(r:V->Hp->VK->Prop)(ta:TE):TE:=fun σ H Q=>ta σ H fun x H1=>r x H1 Q
def rI(C:Int->Int->Prop)(g:Int->Int->V):R2:=fun x y H Q=>∃ i j,x=.int i/\y=.int j/\C i j/\Q (g i j) H
def mL(g:Int->Int->V):R2:=fun x y H Q=>∃ i j,x=.int i/\y=.int j/\Q (g i j) H
def rU(g:Int->V):V->Hp->VK->Prop:=fun x H Q=>∃ i,x=.int i/\Q (g i) H
section
variable {X:Cx}{a b c:Expr}{ta tb tc:TE}{pos:Pos}
theorem Od(ha:PE X a ta)(hb:PE X b tb){pins:List (Addr×Obj)}{s:Shared}{σ:St}{H:Hp}{R:V->V->Hp->Prop}(I:Inv X pins σ H s)
  (h:ta σ H fun x H1=>tb σ H1 fun y H2=>R x y H2) {Q:Value->Shared->Prop} {f:Value->Value->Sem Value}
  (hf:∀ v u s2 x y H2,Inv X pins σ H2 s2->RelV x v->RelV y u->R x y H2->wpAny (model X.prog X.w) X.A (f v u) Q X.xe s2) :
  wpAny (model X.prog X.w) X.A (eval a X.env) (fun v s₁=>wpAny (model X.prog X.w) X.A (eval b X.env) (fun u s₂=>wpAny (model X.prog X.w) X.A (f v u) Q X.xe s₂) X.xe s₁) X.xe s:=by
 refine aI (ha pins s σ H _ I h) fun v s1 ⟨x,H1,I1,r1,q1⟩=>?_;refine aI (hb pins s1 σ H1 _ I1 q1) fun u s2 ⟨y,H2,I2,r2,q2⟩=>?_;exact hf v u s2 x y H2 I2 r1 r2 q2
theorem t9{op:UnaryOp}{r:V->Hp->VK->Prop}(ho:Bb X (unaryOp op) r)(ha:PE X a ta):PE X (.UnaryOp op a pos) (Tv r ta):=by
 intro pins s σ H Q I h;exact UnaryOp_ (aI (ha pins s σ H _ I h) fun v s1 ⟨x,H1,I1,r1,q1⟩=>ho pins s1 σ H1 x v Q I1 r1 q1)
theorem Oc{f:Value->Value->Sem Value}{C:Int->Int->Prop}{g:Int->Int->Int}
  (rule:∀ (i j:Int) (t u:Tok) (s:Shared) (Q:Value->Shared->Prop) (E:Value->Shared->Prop),C i j->Q (.int (g i j) s.toks) {s with toks:=s.toks+1}->wpAny (model X.prog X.w) X.A (f (.int i t) (.int j u)) Q E s) :
  OpR X f (rI C fun i j=>.int (g i j)):=by
 intro pins s σ H x y v u Q I rx ry h;obtain⟨i,j,rfl,rfl,hc,q⟩:=h;obtain⟨t,rfl⟩:=rx;obtain⟨t',rfl⟩:=ry;exact rule i j t t' s _ _ hc ⟨.int (g i j),H,I.tok _,⟨_,rfl⟩,q⟩
theorem No{f:Value->Value->Sem Value}{g:Int->Int->Int}
  (rule:∀ (i j:Int) (t u:Tok) (s:Shared) (Q:Value->Shared->Prop) (E:Value->Shared->Prop),Q (.int (g i j) s.toks) {s with toks:=s.toks+1}->wpAny (model X.prog X.w) X.A (f (.int i t) (.int j u)) Q E s) :
  OpR X f (mL fun i j=>.int (g i j)):=by
 intro pins s σ H x y v u Q I rx ry h;obtain⟨i,j,rfl,rfl,q⟩:=h;obtain⟨t,rfl⟩:=rx;obtain⟨t',rfl⟩:=ry;exact rule i j t t' s _ _ ⟨.int (g i j),H,I.tok _,⟨_,rfl⟩,q⟩
theorem zM{f:Value->Value->Sem Value}{g:Int->Int->Bool}
  (rule:∀ (i j:Int) (t u:Tok) (s:Shared) (Q:Value->Shared->Prop) (E:Value->Shared->Prop),Q (.bool (g i j)) s->wpAny (model X.prog X.w) X.A (f (.int i t) (.int j u)) Q E s) :
  OpR X f (mL fun i j=>.bl (g i j)):=by
 intro pins s σ H x y v u Q I rx ry h;obtain⟨i,j,rfl,rfl,q⟩:=h;obtain⟨t,rfl⟩:=rx;obtain⟨t',rfl⟩:=ry;exact rule i j t t' s _ _ ⟨.bl (g i j),H,I,rfl,q⟩
def Sl(i j:Int):Prop:=0<=j/\j<=1000000/\i.natAbs<2^64
def CMul(i j:Int):Prop:=(-(2^64)<i/\i<2^64)\/(-(2^64)<j/\j<2^64)
theorem CMul.ok{i j:Int}(h:CMul i j):IntMulOk i j:=by
 rcases h with⟨h1,h2⟩ | ⟨h1,h2⟩
 ·exact .of_left (intBits_le_64 h1 h2)
 ·exact .of_right (intBits_le_64 h1 h2)
theorem G6:OpR X (binaryOp .Add) (mL fun i j=>.int (i+j)):=No fun _ _ _ _ _ _ _ q=>add_int q
theorem Q8:OpR X (binaryOp .Sub) (mL fun i j=>.int (i-j)):=No fun _ _ _ _ _ _ _ q=>sub_int q
theorem V4:OpR X (binaryOp .Mod) (rI (fun _ j=>j≠0) fun i j=>.int (i.fmod j)):=Oc fun _ _ _ _ _ _ _ hc q=>mod_int' hc q
theorem AH:OpR X (binaryOp .Pow) (rI Sl fun i j=>.int (i^j.toNat)):=Oc fun _ _ _ _ _ _ _ hc q=>pow_int_small hc.1 hc.2.1 hc.2.2 q
theorem Os{f:Value->Sem Value}{g:Int->Int}
  (rule:∀ (i:Int) (t:Tok) (s:Shared) (Q:Value->Shared->Prop) (E:Value->Shared->Prop),Q (.int (g i) s.toks) {s with toks:=s.toks+1}->wpAny (model X.prog X.w) X.A (f (.int i t)) Q E s) :
  Bb X f (rU fun i=>.int (g i)):=by
 intro pins s σ H x v Q I rx h;obtain⟨i,rfl,q⟩:=h;obtain⟨t,rfl⟩:=rx;exact rule i t s _ _ ⟨.int (g i),H,I.tok _,⟨_,rfl⟩,q⟩
theorem A0:Bb X (unaryOp .USub) (rU fun i=>.int (-i)):=Os fun _ _ _ _ _ q=>neg_int q
end
def Jf:V->V->Bool
 | .non,.non=>true | .non,.int _=>true | .int _,.non=>true | .non,.bl _=>true | .bl _,.non=>true | .non,.str _=>true | .str _,.non=>true
 | .int _,.int _=>true | .bl _,.bl _=>true | .str _,.str _=>true | .byt _,.byt _=>true
 | .int _,.str _=>true | .str _,.int _=>true | .bl _,.str _=>true | .str _,.bl _=>true
 | _,_=>false
def i8:R2:=fun x y H Q=>Jf x y=true/\Q (.bl (decide (x=y))) H
def CQ:R2:=fun x y H Q=>Jf x y=true/\Q (.bl (!decide (x=y))) H
theorem Li{i j:Int}:decide (V.int i=V.int j)=(i==j):=by
 rw[Bool.eq_iff_iff];simp
theorem Mg{i j:Bool}:decide (V.bl i=V.bl j)=(i==j):=by
 rw[Bool.eq_iff_iff];simp
theorem Lw{i j:Str}:decide (V.str i=V.str j)=(i==j):=by
 rw[Bool.eq_iff_iff];simp
theorem Mj{i j:Array UInt8}:decide (V.byt i=V.byt j)=(i.toList==j.toList):=by
 rw[Bool.eq_iff_iff]
 cases i
 cases j
 simp
section
variable {X:Cx}{a b c:Expr}{ta tb tc:TE}{pos:Pos}
theorem bR{pins:List (Addr×Obj)}{σ:St}{H:Hp}{s:Shared}{Q:VK}{k k':Bool}(I:Inv X pins σ H s)(q:Q (.bl k) H)(e:k=k'):EP X pins σ Q (.bool k') s:=by
 subst e;exact⟨.bl k,H,I,rfl,q⟩
theorem Pz:OpR X (compareOp .Eq) i8:=by
 intro pins s σ H x y v u Q I rx ry h;obtain⟨hs,q⟩:=h
 cases x with
 | non =>
  cases rx
  cases y with
  | non=>cases ry;exact PySem.EqNone.eq_none_none (bR I q (by simp))
  | bl j=>cases ry;exact PySem.EqNone.eq_none_bool (bR I q (by simp))
  | int j=>obtain⟨t',rfl⟩:=ry;exact PySem.EqNone.eq_none_int (bR I q (by simp))
  | str j=>obtain⟨t',rfl⟩:=ry;exact PySem.EqNone.eq_none_str (bR I q (by simp))
  | _=>exact absurd (show false=true from hs) Bool.false_ne_true
 | bl i =>
  cases rx
  cases y with
  | non=>cases ry;exact PySem.EqNone.eq_bool_none (bR I q (by simp))
  | bl j=>cases ry;exact eq_bool (bR I q Mg)
  | str j=>obtain⟨t',rfl⟩:=ry;exact PySem.EqMixed.eq_bool_str (bR I q (by simp))
  | _=>exact absurd (show false=true from hs) Bool.false_ne_true
 | int i =>
  obtain⟨t,rfl⟩:=rx
  cases y with
  | non=>cases ry;exact PySem.EqNone.eq_int_none (bR I q (by simp))
  | int j=>obtain⟨t',rfl⟩:=ry;exact eq_int (bR I q Li)
  | str j=>obtain⟨t',rfl⟩:=ry;exact PySem.EqMixed.eq_int_str (bR I q (by simp))
  | _=>exact absurd (show false=true from hs) Bool.false_ne_true
 | str i =>
  obtain⟨t,rfl⟩:=rx
  cases y with
  | non=>cases ry;exact PySem.EqNone.eq_str_none (bR I q (by simp))
  | bl j=>cases ry;exact PySem.EqMixed.eq_str_bool (bR I q (by simp))
  | int j=>obtain⟨t',rfl⟩:=ry;exact PySem.EqMixed.eq_str_int (bR I q (by simp))
  | str j=>obtain⟨t',rfl⟩:=ry;exact eq_str (bR I q Lw)
  | _=>exact absurd (show false=true from hs) Bool.false_ne_true
 | byt i =>
  obtain⟨t,rfl⟩:=rx
  cases y with
  | byt j=>obtain⟨t',rfl⟩:=ry;exact PySem.W.eq_bytes (bR I q Mj)
  | _=>exact absurd (show false=true from hs) Bool.false_ne_true
 | _=>cases y<;>exact absurd (show false=true from hs) Bool.false_ne_true
theorem Zg:OpR X (compareOp .NotEq) CQ:=by
 intro pins s σ H x y v u Q I rx ry h;obtain⟨hs,q⟩:=h
 cases x with
 | non =>
  cases rx
  cases y with
  | non=>cases ry;exact PySem.EqNone.ne_none_none (bR I q (by simp))
  | bl j=>cases ry;exact PySem.EqNone.ne_none_bool (bR I q (by simp))
  | int j=>obtain⟨t',rfl⟩:=ry;exact PySem.EqNone.ne_none_int (bR I q (by simp))
  | str j=>obtain⟨t',rfl⟩:=ry;exact PySem.EqNone.ne_none_str (bR I q (by simp))
  | _=>exact absurd (show false=true from hs) Bool.false_ne_true
 | bl i =>
  cases rx
  cases y with
  | non=>cases ry;exact PySem.EqNone.ne_bool_none (bR I q (by simp))
  | bl j=>cases ry;exact ne_bool (bR I q (congrArg not Mg))
  | str j=>obtain⟨t',rfl⟩:=ry;exact PySem.EqMixed.ne_bool_str (bR I q (by simp))
  | _=>exact absurd (show false=true from hs) Bool.false_ne_true
 | int i =>
  obtain⟨t,rfl⟩:=rx
  cases y with
  | non=>cases ry;exact PySem.EqNone.ne_int_none (bR I q (by simp))
  | int j=>obtain⟨t',rfl⟩:=ry;exact ne_int (bR I q (congrArg not Li))
  | str j=>obtain⟨t',rfl⟩:=ry;exact PySem.EqMixed.ne_int_str (bR I q (by simp))
  | _=>exact absurd (show false=true from hs) Bool.false_ne_true
 | str i =>
  obtain⟨t,rfl⟩:=rx
  cases y with
  | non=>cases ry;exact PySem.EqNone.ne_str_none (bR I q (by simp))
  | bl j=>cases ry;exact PySem.EqMixed.ne_str_bool (bR I q (by simp))
  | int j=>obtain⟨t',rfl⟩:=ry;exact PySem.EqMixed.ne_str_int (bR I q (by simp))
  | str j=>obtain⟨t',rfl⟩:=ry;exact ne_str (bR I q (congrArg not Lw))
  | _=>exact absurd (show false=true from hs) Bool.false_ne_true
 | byt i =>
  obtain⟨t,rfl⟩:=rx
  cases y with
  | byt j=>obtain⟨t',rfl⟩:=ry;exact PySem.W.ne_bytes (bR I q (congrArg not Mj))
  | _=>exact absurd (show false=true from hs) Bool.false_ne_true
 | _=>cases y<;>exact absurd (show false=true from hs) Bool.false_ne_true
theorem K4:OpR X (compareOp .Lt) (mL fun i j=>.bl (decide (i<j))):=zM fun _ _ _ _ _ _ _ q=>lt_int q
theorem P0:OpR X (compareOp .Gt) (mL fun i j=>.bl (decide (j<i))):=zM fun _ _ _ _ _ _ _ q=>gt_int q
theorem F8:OpR X (compareOp .GtE) (mL fun i j=>.bl (decide (j<=i))):=zM fun _ _ _ _ _ _ _ q=>ge_int q
theorem Tt:OpR X (compareOp .IsNot) (fun x y H Q=>y=.non/\Q (.bl (!decide (x=.non))) H):=by
 intro pins s σ H x y v u Q I rx ry h;obtain⟨rfl,q⟩:=h
 cases ry
 refine isnot_none_gen (bR I q ?_)
 cases x<;>first
  | (cases rx;rfl)
  | (obtain⟨t,rfl⟩:=rx;rfl)
theorem OpR.or{f:Value->Value->Sem Value}{r r':R2}(h:OpR X f r)(h':OpR X f r'):OpR X f (fun x y H Q=>r x y H Q\/r' x y H Q):=by
 intro pins s σ H x y v u Q I rx ry q;rcases q with q | q
 ·exact h pins s σ H x y v u Q I rx ry q
 ·exact h' pins s σ H x y v u Q I rx ry q
theorem wS(b:Expr){op:CmpOp}(h:op≠.In:=by decide)(h2:op≠.NotIn:=by decide):behindInMarks op b=false:=by
 have e1:(op==CmpOp.In)=false:=by cases op<;>first | rfl | exact absurd rfl h
 have e2:(op==CmpOp.NotIn)=false:=by cases op<;>first | rfl | exact absurd rfl h2
 cases b<;>simp[behindInMarks,e1,e2]
theorem kS:(sizeLine:Nat)<2^63:=by rw[sizeLine_eq];decide
theorem Ys:OpR X (binaryOp .Add) (fun x y H Q=>∃ i j,x=.str i/\y=.str j/\i.length+j.length<=sizeLine/\Q (.str (i++j)) H):=by
 intro pins s σ H x y v u Q I rx ry h;obtain⟨i,j,rfl,rfl,hz,q⟩:=h;obtain⟨t,rfl⟩:=rx;obtain⟨t',rfl⟩:=ry;exact add_str (fun t' tk=>⟨.str (i++j),H,I.tok _,⟨_,rfl⟩,q⟩) hz
theorem jL{x:V}{us:List Value}(r:Vals [x] us):∃ u,us=[u]/\RelV x u:=by
 cases r with
 | cons r1 r2=>cases r2;exact⟨_,rfl,r1⟩
theorem xY{x y:V}{us:List Value}(r:Vals [x,y] us):∃ u w',us=[u,w']/\RelV x u/\RelV y w':=by
 cases r with
 | cons r1 r2 =>
  cases r2 with
  | cons r3 r4=>cases r4;exact⟨_,_,rfl,r1,r3⟩
theorem Mo:CallR X (.type "int") (fun xs H Q=>(∃ i,xs=[.int i]/\Q (.int i) H)\/∃ k,xs=[.bl k]/\Q (.int (if k then 1 else 0)) H):=by
 intro pins s σ H xs us Q I r h;rcases h with⟨i,rfl,q⟩ | ⟨k,rfl,q⟩
 ·obtain⟨u,rfl,t,rfl⟩:=jL r;exact call_int_int ⟨.int i,H,I,⟨_,rfl⟩,q⟩
 ·obtain⟨u,rfl,r1⟩:=jL r
  cases r1
  exact call_int_bool ⟨.int (if k then 1 else 0),H,I.tok _,⟨_,rfl⟩,q⟩
end
end L2
namespace L2
open PySem PySem.Spec PyProof.Rows
structure ObjM (h:Heap) (x dx C:Addr) (mA:Str->Option Value):Prop where
 obj:h.get? x=some (PySem.W.instObj C dx)
 ns:h.Ns1 dx mA
 ne:dx≠x
theorem Xm{h:Heap}{dx:Addr}{mA:Str->Option Value}(n:h.Ns1 dx mA):∃ od,h.get? dx=some od/\∀ name,PySem.W.lookIn name od=some (mA name):=by
 obtain⟨o,es,ep,ho,hd,hk,_,hm⟩:=n;refine⟨o,ho,fun name=>?_⟩;have e:=hm name
 unfold nsFind findBy at e;rw[<- Array.find?_toList]at e;unfold PySem.W.lookIn;rw[hd];dsimp only
 split
 ·rename_i y q;rw[q]at e;exact congrArg some e
 ·rename_i q;rw[q]at e;have a:es.toList.any (·.refKey)=false:=by
   rw[List.any_eq_false];intro y hy;obtain⟨z,t,hkey⟩:=hk y (Array.mem_toList_iff.mp hy);simp[DictEntry.refKey,hkey]
  have a':¬ es.toList.any (·.refKey)=true:=by rw[a];exact Bool.false_ne_true
  rw[if_neg a'];exact congrArg some e
theorem ObjM.look{h:Heap}{x dx C:Addr}{mA:Str->Option Value}(I:ObjM h x dx C mA):∃ od,PySem.W.InstAt h x (PySem.W.instObj C dx) C (some od)/\∀ name,PySem.W.lookIn name od=some (mA name) :=
 let ⟨od,ho,hl⟩:=Xm I.ns
 ⟨od,⟨I.obj,rfl,rfl,ho⟩,hl⟩
section
variable {prog:Program}{w:World}{A:Around}{E:Value->Shared->Prop}{s:Shared}{K:PySem.W.Frag}{x dx C f:Addr}{mA:Str->Option Value}{name:Str}{v:Value}
theorem sH{expr:Bool}{Q:Value->Shared->Prop}(X:K.In s.heap)(I:ObjM s.heap x dx C mA)(hg:PySem.W.plainGet K C name=true)(hh:PySem.W.hasDictIn K C=true)
  (ha:PySem.W.findIn K (.ref C) name=some none) (hv:mA name=some v) (hv':PySem.W.handedIn v=true) (h:Q v {s with toks:=s.toks+1}) :
  wpAny (model prog w) A (getAttr (.ref x) name expr) Q E s:=by
 obtain⟨od,J,hl⟩:=I.look;exact PySem.W.get_value X J (PySem.W.plainGet_of hg).1 (PySem.W.findObj_own hh ha rfl (by rw[hl,hv])) hv' h
theorem AF{pl:Sem Bool}{Q:Value×List Value->Shared->Prop}(X:K.In s.heap)(I:ObjM s.heap x dx C mA)(hg:PySem.W.plainGet K C name=true)
  (hf:PySem.W.findIn K (.ref C) name=some (some (.ref f))) (ht:PySem.W.isFn K (.ref f)=true) (hv:mA name=none) (h:Q (.ref f,[.ref x]) s) :
  wpAny (model prog w) A (getMethod (.ref x) name pl) Q E s:=by
 obtain⟨od,J,hl⟩:=I.look;exact PySem.W.method_fn X J (PySem.W.plainGet_of hg).1 (PySem.W.plainGet_of hg).2 hf (beq_iff_eq.mp ht) (by show(PySem.W.lookIn name od).map (·.isSome)=some false;rw[hl,hv];rfl) h
theorem Wx{ns:List Str}{Q:Unit->Shared->Prop}(X:K.In s.heap)(I:ObjM s.heap x dx C mA)
  (hs:PySem.W.findIn K (.ref C) "__setattr__"=some (some (.builtin "object.__setattr__"))) (hp:PySem.W.plainOver K C=true) (ht:PySem.W.takerIn K C name=some none) (hh:PySem.W.hasDictIn K C=true)
  (hw:PySem.Within mA ns) (hsz:ns.length<=sizeLine)
  (h:∀ h',ObjM h' x dx C (fun y=>if y=name then some v else mA y)->Heap.SameBut dx s.heap h'->Q () {s with heap:=h',toks:=s.toks+2}) :
  wpAny (model prog w) A (setAttr (.ref x) name v) Q E s:=by
 obtain⟨od,J,hl⟩:=I.look;refine PySem.W.set_plain X J hs (PySem.W.osa_open (s:={s with toks:=s.toks+1}) (r:=none) X J hp ht fun b=>?_);obtain⟨cd,hc,hd'⟩:=PySem.W.any_some hh;have hx:s.heap.get? x=some ⟨.ref C,some dx,.plain,#[]⟩:=I.obj
 refine wpAny_bind (wpAny_pure (wpAny_bind (wpAny_bind (wpAny_loadPart hx (wpAny_bind (PySem.W.Looks.here (s:={s with toks:=s.toks+1}) (PySem.W.looks_clsIn X hc) ?_))))));rw[hd'];refine wpAny_pure (a:=some dx) (wpAny_bind (wpAny_pure (wpAny_bind ?_)));refine wpAny_nsSet1 (s:={s with toks:=s.toks+1}) I.ns fun h' hn2 hs2=>?_;obtain⟨oD,esD,epD,hoD,hdD,hcD⟩:=hn2.count (PySem.Within.cons name v hw);refine wpAny_bind (wpAny_lookBehind hoD (by rw[hdD];exact pastItsLine_dict (Nat.le_trans hcD (by rw[List.length_cons];omega))) ?_)
 exact wpAny_pure (h _ ⟨(hs2.2 _ (Ne.symm I.ne)).trans I.obj,hn2,I.ne⟩ hs2)
theorem AQ{R:Result->Shared->Prop}{vs:List Value}{kw:List (Str×Value)}(X:K.In s.heap)(hm:PySem.W.makesIn K C=true)
  (hi:PySem.W.findIn K (.ref C) "__init__"=some (some (.ref f))) (hf:PySem.W.typeIn K (.ref f)=some (.type "function"))
  (h:codeAny (model prog w) (A.under (.builtin "type.__call__" ⟨.ref C::vs,kw⟩)) (.call (.ref f) ⟨.ref (s.heap.objs.size+1)::vs,kw⟩) (PySem.W.InitBack (s.heap.objs.size+1) R)
   {s with heap:=(s.heap.push PySem.W.emptyDict).push (PySem.W.instObj C s.heap.objs.size)}) :
  codeAny (model prog w) A (.call (.ref C) ⟨vs,kw⟩) R s:=by
 obtain⟨hh,g,d,t,os⟩:=s;exact PySem.W.make_core (PySem.W.makes_of X hm) (PySem.W.looks_findIn X hi) (fun self=>PySem.W.bind_fn X self hf) (.inl rfl) h
end
def cY(f:Str)(v:V):List (Str×V)->List (Str×V)
 | []=>[(f,v)]
 | (g,x)::r=>if g=f then (g,v)::r else (g,x)::cY f v r
theorem Ir(f g:Str)(v:V):∀ fs:List (Str×V),(cY f v fs).lookup g=if g=f then some v else fs.lookup g
 | []=>by
  show List.lookup g [(f,v)]=_
  by_cases h:g=f
  ·have hb:(g==f)=true:=beq_iff_eq.mpr h
   simp only[List.lookup,hb,if_pos h]
  ·have hb:(g==f)=false:=beq_eq_false_iff_ne.mpr h
   simp only[List.lookup,hb,if_neg h]
 | (k,x)::r=>by
  have ih:=Ir f g v r
  rw[show cY f v ((k,x)::r)=(if k=f then (k,v)::r else (k,x)::cY f v r) from rfl]
  by_cases hk:k=f
  ·rw[if_pos hk]
   by_cases h:g=k
   ·have hb:(g==k)=true:=beq_iff_eq.mpr h
    simp only[List.lookup,hb,if_pos (h.trans hk)]
   ·have hb:(g==k)=false:=beq_eq_false_iff_ne.mpr h
    simp only[List.lookup,hb,if_neg (fun e:g=f=>h (e.trans hk.symm))]
  ·rw[if_neg hk]
   by_cases h:g=k
   ·have hb:(g==k)=true:=beq_iff_eq.mpr h
    simp only[List.lookup,hb,if_neg (fun e:g=f=>hk (h.symm.trans e))]
   ·have hb:(g==k)=false:=beq_eq_false_iff_ne.mpr h
    simp only[List.lookup,hb];exact ih
theorem En(f:Str)(v:V):∀ fs:List (Str×V),f∈(cY f v fs).map (·.1)/\∀ g,g∈fs.map (·.1)->g∈(cY f v fs).map (·.1)
 | []=>⟨by simp[cY],fun g h=>by simp at h⟩
 | (k,x)::r=>by
  obtain⟨i1,i2⟩:=En f v r;rw[show cY f v ((k,x)::r)=(if k=f then (k,v)::r else (k,x)::cY f v r) from rfl]
  by_cases hk:k=f
  ·rw[if_pos hk];subst hk;exact⟨by simp,fun g h=>by simpa using h⟩
  ·rw[if_neg hk];refine⟨?_,fun g h=>?_⟩
   ·rw[List.map_cons];exact List.mem_cons_of_mem _ i1
   ·rw[List.map_cons]at h ⊢;rcases List.mem_cons.mp h with e | e
    ·exact List.mem_cons.mpr (.inl e)
    ·exact List.mem_cons_of_mem _ (i2 g e)
theorem Gm(f:Str)(v:V):∀ fs:List (Str×V),(cY f v fs).length<=fs.length+1
 | []=>by simp[cY]
 | (k,x)::r=>by
  have ih:=Gm f v r
  rw[show cY f v ((k,x)::r)=(if k=f then (k,v)::r else (k,x)::cY f v r) from rfl]
  by_cases hk:k=f
  ·rw[if_pos hk,List.length_cons,List.length_cons];omega
  ·rw[if_neg hk,List.length_cons,List.length_cons];omega
theorem RelO.some_of{v:V}{o:Option Value}(r:RelO (some v) o):∃ u,o=some u/\RelV v u:=by
 cases o with
 | none=>exact(show False from r).elim
 | some u=>exact⟨u,rfl,r⟩
theorem RelO.none_of{o:Option Value}(r:RelO none o):o=none:=by
 cases o with
 | none=>rfl
 | some u=>exact(show False from r).elim
theorem Ua{v:V}{u:Value}(r:RelV v u):PySem.W.handedIn u=true:=by
 cases v with
 | non=>cases (show u=Value.none from r);rfl
 | bl b=>cases (show u=Value.bool b from r);rfl
 | int i=>obtain⟨t,e⟩:=(show ∃ t,u=Value.int i t from r);cases e;rfl
 | str x=>obtain⟨t,e⟩:=(show ∃ t,u=Value.str x t from r);cases e;rfl
 | byt b=>obtain⟨t,e⟩:=(show ∃ t,u=Value.bytes b t from r);cases e;rfl
 | flt b=>obtain⟨t,e⟩:=(show ∃ t,u=Value.float b t from r);cases e;rfl
 | ref a=>cases (show u=Value.ref a from r);rfl
 | ty n=>cases (show u=Value.type n from r);rfl
section
variable {P:Program}{w:World}{H H':Hp}{h h':Heap}{a C dx:Addr}{fs fs':List (Str×V)}
theorem Dh(hok:HOk P w H h)(e:H a=some (.ins C dx fs)):∃ mA,ObjM h a dx C mA/\(∀ f,RelO (fs.lookup f) (mA f))/\PySem.Within mA (fs.map (·.1))/\fs.length<=1000/\H dx=some (.own a):=by
 obtain⟨d,z,ne,ob,mA,n,r,q⟩:=(show ObjOk P w H h a (.ins C dx fs) from hok a _ e)
 exact⟨mA,⟨ob,n,ne⟩,r,q,z,d⟩
end
structure Cls (K:PySem.W.Frag) (C:Addr):Prop where
 pg:PySem.W.plainGet K C Str.empty=true
 hd:PySem.W.hasDictIn K C=true
 po:PySem.W.plainOver K C=true
 sa:PySem.W.findIn K (.ref C) "__setattr__"=some (some (.builtin "object.__setattr__"))
theorem Cls.get{K:PySem.W.Frag}{C:Addr}(c:Cls K C)(f:Str):PySem.W.plainGet K C f=true:=c.pg
def NoAttr(K:PySem.W.Frag)(C:Addr)(f:Str):Prop:=PySem.W.findIn K (.ref C) f=some none
theorem NoAttr.taker{K:PySem.W.Frag}{C:Addr}{f:Str}(n:NoAttr K C f):PySem.W.takerIn K C f=some none:=by
 unfold PySem.W.takerIn;rw[show PySem.W.findIn K (.ref C) f=some none from n]
 rfl
structure Meth (K:PySem.W.Frag) (C:Addr) (m:Str) (f:Addr):Prop where
 at_:PySem.W.findIn K (.ref C) m=some (some (.ref f))
 fn:PySem.W.isFn K (.ref f)=true
 kp:PySem.W.keepIn K (.ref f)=true
section
variable {X:Cx}{pins:List (Addr×Obj)}{σ:St}{H:Hp}{s:Shared}{a C dx:Addr}{fs:List (Str×V)}{f:Str}{v:V}{A:Around}{E:Value->Shared->Prop}
theorem B8{b:Bool}{Q:Value->Shared->Prop}(I:Inv X pins σ H s)(e:H a=some (.ins C dx fs))(c:Cls X.K C)(n:NoAttr X.K C f)(l:fs.lookup f=some v)
  (h:∀ u s',Inv X pins σ H s'->RelV v u->Q u s'):wpAny (model X.prog X.w) A (getAttr (.ref a) f b) Q E s:=by
 obtain⟨mA,O,r,_,_,_⟩:=Dh I.hok e;obtain⟨u,hu,ru⟩:=RelO.some_of (v:=v) (o:=mA f) (by rw[<- l];exact r f)
 exact sH I.kIn O (c.get f) c.hd n hu (Ua ru) (h u _ (I.tok _) ru)
theorem F7{m:Str}{g:Addr}{pl:Sem Bool}{Q:Value×List Value->Shared->Prop}(I:Inv X pins σ H s)(e:H a=some (.ins C dx fs))(c:Cls X.K C)(k:Meth X.K C m g)(l:fs.lookup m=none)
  (h:Q (.ref g,[.ref a]) s):wpAny (model X.prog X.w) A (getMethod (.ref a) m pl) Q E s:=by
 obtain⟨mA,O,r,_,_,_⟩:=Dh I.hok e;have hn:mA m=none:=RelO.none_of (by rw[<- l];exact r m)
 exact AF I.kIn O (c.get m) k.at_ k.fn hn h
theorem Ox{y:V}{u:Value}{Q:Unit->Shared->Prop}(I:Inv X pins σ H s)(e:H a=some (.ins C dx fs))(c:Cls X.K C)(n:NoAttr X.K C f)(hl:fs.length<1000)(ry:RelV y u)
  (h:∀ s',Inv X pins σ (aE H a (.ins C dx (cY f y fs))) s'->Q () s'):wpAny (model X.prog X.w) A (setAttr (.ref a) f u) Q E s:=by
 obtain⟨mA,O,r,wi,_,ho⟩:=Dh I.hok e;have hz:(fs.map (·.1)).length<=sizeLine:=by rw[List.length_map,sizeLine_eq];omega
 refine Wx I.kIn O c.sa c.po n.taker c.hd wi hz fun h' O' sb=>h _ ?_;have hd:∃ o,h'.get? dx=some o:=let ⟨o,_,_,e',_⟩:=O'.ns;⟨o,e'⟩
 refine I.write (x:=a) (e:=dx) (by rw[e];exact True.intro) (.inr ho) (fun b q hb z=>(sb.2 b hb).trans z) hd ?_
 refine⟨by rw[aV O.ne];exact ho,?_,O.ne,O'.obj,_,O'.ns,fun g=>?_,fun g hg=>?_⟩
 ·have:=Gm f y fs;omega
 ·show RelO ((cY f y fs).lookup g) (if g=f then some u else mA g)
  rw[Ir]
  by_cases q:g=f
  ·rw[if_pos q,if_pos q];exact ry
  ·rw[if_neg q,if_neg q];exact r g
 ·by_cases q:g=f
  ·rw[q];exact(En f y fs).1
  ·refine(En f y fs).2 g (wi g fun z=>hg ?_);show(if g=f then some u else mA g)=none
   rw[if_neg q];exact z
theorem Inv.made(I:Inv X pins σ H s):Inv X pins σ (aE (aE H s.heap.objs.size (.own (s.heap.objs.size+1))) (s.heap.objs.size+1) (.ins C s.heap.objs.size []))
  {s with heap:=(s.heap.push PySem.W.emptyDict).push (PySem.W.instObj C s.heap.objs.size)}:=by
 have e1:(s.heap.push PySem.W.emptyDict).get? s.heap.objs.size=some PySem.W.emptyDict:=Heap.get?_push_size s.heap rfl
 have e2:((s.heap.push PySem.W.emptyDict).push (PySem.W.instObj C s.heap.objs.size)).get? (s.heap.objs.size+1)=some (PySem.W.instObj C s.heap.objs.size):=by
  have:=Heap.get?_push_size (s.heap.push PySem.W.emptyDict) (o:=PySem.W.instObj C s.heap.objs.size) rfl
  rwa [Heap.size_push]at this
 have e3:(s.heap.push PySem.W.emptyDict).Ns s.heap.objs.size (fun _=>none):=⟨PySem.W.emptyDict,#[],_,e1,rfl,(fun e he=>absurd he (by simp)),fun _=>rfl⟩
 have I1:=I.laid (a:=s.heap.objs.size) (o:=.own (s.heap.objs.size+1)) (h':=s.heap.push PySem.W.emptyDict) (t':=s.toks) (fun b u q=>Heap.get?_push_of_some _ q) (Nat.le_refl _) ⟨_,e1⟩
 refine I1.laid (a:=s.heap.objs.size+1) (o:=.ins C s.heap.objs.size []) (t':=s.toks) (fun b u q=>Heap.get?_push_of_some _ q) (Nat.le_of_eq (Heap.size_push _ _)) ?_;have ne:s.heap.objs.size≠s.heap.objs.size+1:=Nat.ne_of_lt (Nat.lt_succ_self _)
 refine⟨by rw[aV ne,bQ],Nat.zero_le _,ne,e2,fun _=>none,(Heap.Ns1.of_empty e3).at fun o q=>Heap.get?_push_of_some _ q,fun _=>True.intro,fun y hy=>absurd rfl hy⟩
theorem Tm{prog:Program}{w:World}{env:Env}{e:Expr}{f:Str}{pos:Pos}{s:Shared}{Q:Value->Shared->Prop}(hb:attributeBase e f env (eval e env)=eval e env)
  (h:wpAny (model prog w) A (eval e env) (fun o s₁=>wpAny (model prog w) A (getAttr o f true) Q E s₁) E s):wpAny (model prog w) A (eval (.Attribute e f pos) env) Q E s :=
 Attribute_any_ h (by rw[arm_eval_Attribute,hb])
end
def Qk(K:PySem.W.Frag)(ta:TE)(f:Str):TE:=fun σ H Q=>ta σ H fun x H1=>∃ a C dx fs v,x=.ref a/\H1 a=some (.ins C dx fs)/\Cls K C/\NoAttr K C f/\fs.lookup f=some v/\Q v H1
def Re(K:PySem.W.Frag)(ta tv:TE)(f:Str):TS:=fun D σ H=>tv σ H fun y H1=>ta σ H1 fun x H2=>∃ a C dx fs,x=.ref a/\H2 a=some (.ins C dx fs)/\Cls K C/\NoAttr K C f/\fs.length<1000 /\
 D.nx σ (aE H2 a (.ins C dx (cY f y fs)))
section
variable {X:Cx}{o e value:Expr}{f:Str}{pos pos' tpos:Pos}{ta tv:TE}
theorem Rf(he:PE X e ta)(hb:attributeBase e f X.env (eval e X.env)=eval e X.env):PE X (.Attribute e f pos) (Qk X.K ta f):=by
 intro pins s σ H Q I h;refine Tm hb (aI (he pins s σ H _ I h) fun u s1 ⟨x,H1,I1,rx,a,C,dx,fs,v,ex,ea,c,n,l,q⟩=>?_);subst ex;obtain rfl:u=Value.ref a:=rx;exact B8 I1 ea c n l fun u' s2 I2 ru=>⟨v,H1,I2,ru,q⟩
theorem CB(ha:PE X o ta)(hv:PE X value tv)(hs:swapsWith value (some (.Attribute o f pos')) pos.line X.env=pure false):PS X (.Assign [.Attribute o f pos'] value pos) (Re X.K ta tv f):=by
 intro pins s σ H D I h;refine plainObj_wpAny_Assign_Attribute (aI (hv pins s σ H _ I h) fun u s1 ⟨y,H1,I1,ry,q⟩=>aI (ha pins s1 σ H1 _ I1 q) fun ov s2 ⟨x,H2,I2,rx,a,C,dx,fs,ex,ea,c,n,l,q2⟩=>?_) hs;subst ex;obtain rfl:ov=Value.ref a:=rx;exact Ox I2 ea c n l ry fun s3 I3=>⟨σ,_,I3,q2⟩
end
end L2
namespace L2
open PySem PySem.Spec PyProof.Rows
structure Room (k:Nat) (A:Around):Prop where
 hd:A.handled=none
 gd:A.guards=some []
 dp:A.depth+3*k+5<recursionLimit
 un:A.units+16*k+200<cLine
theorem Room.mono{j k:Nat}{A:Around}(r:Room k A)(h:j<=k):Room j A:=⟨r.hd,r.gd,by have:=r.dp;omega,by have:=r.un;omega⟩
theorem Room.deeper{k:Nat}{A:Around}(r:Room (k+1) A)(env:Env):Room k (A.deeper env) :=
 ⟨r.hd,r.gd,by have:=r.dp;show A.depth+1+3*k+5<_;omega,by have:=r.un;show A.units+3+16*k+200<_;omega⟩
theorem Room.in1{k:Nat}{A:Around}(r:Room (k+1) A):Room k A.in1 :=
 ⟨r.hd,r.gd,by have:=r.dp;show A.depth+3*k+5<_;omega,by have:=r.un;show A.units+1+16*k+200<_;omega⟩
theorem J5{A:Around}{C:Addr}{us:List Value}{kw:List (Str×Value)}:(A.under (.builtin "type.__call__" ⟨.ref C::us,kw⟩)).depth=A.depth+1:=by
 first | rfl | simp[Around.under,Code.weight,Code.isCreation,Code.isGuard,Code.isCaller,Code.frames,Code.isFrame,guardIds]
theorem Ps{A:Around}{C:Addr}{us:List Value}{kw:List (Str×Value)}:(A.under (.builtin "type.__call__" ⟨.ref C::us,kw⟩)).units=A.units+1:=by
 first | rfl | simp[Around.under,Code.cUnits,Code.frames,Code.isFrame]
theorem Room.make{k:Nat}{A:Around}(r:Room (k+1) A)(C:Addr)(us:List Value)(kw:List (Str×Value)):Room k (A.under (.builtin "type.__call__" ⟨.ref C::us,kw⟩)) :=
 ⟨r.hd,(by first | exact r.gd | (simpa[Around.under,Code.isGuard,guardIds] using r.gd)),by have:=r.dp;rw[J5];omega,by have:=r.un;rw[Ps];omega⟩
theorem Room.depth{k:Nat}{A:Around}(r:Room k A):A.depth<recursionLimit:=by have:=r.dp;omega
theorem Room.units{k:Nat}{A:Around}(r:Room k A):A.units+64<cLine:=by have:=r.un;omega
def U5:TA:=fun _ H Q=>Q [] H
def Pm(ta:TE)(tr:TA):TA:=fun σ H Q=>ta σ H fun x H1=>tr σ H1 fun xs H2=>Q (x::xs) H2
section
variable {X:Cx}{e:Expr}{es:List Expr}{te:TE}{t:TA}{pos:Pos}
theorem uG:PA X [] U5:=fun _ _ _ _ H Q I h=>Calls.spliced_nil ⟨[],H,I,.nil,h⟩
theorem vA(ha:PE X e te)(hr:PA X es t)(hs:starEach (e::es) X.env=(false,eval e X.env)::starEach es X.env:=by rfl):PA X (e::es) (Pm te t):=by
 intro pos pins s σ H Q I h;rw[hs];show wpAny _ _ (spliced ((false,eval e X.env)::backTo pos (starEach es X.env))) _ _ s
 refine Calls.spliced_cons (aI (ha pins s σ H _ I h) fun u s1 ⟨x,H1,I1,r1,q1⟩=>?_);exact aI (hr pos pins s1 σ H1 _ I1 q1) fun us s2 ⟨xs,H2,I2,r2,q2⟩=>⟨x::xs,H2,I2,.cons r1 r2,q2⟩
def G7(t:TA):TE:=fun σ H Q=>t σ H fun xs H1=>xs.length<=sizeLine/\∀ p,H1 p=none->Q (.ref p) (aE H1 p (.tup xs))
theorem C8{x1}(h:PA X es t):PE X (.Tuple es x1 pos) (G7 t):=by
 intro pins s σ H Q I hq;refine wpAny_Tuple_spliced (aI (h pos pins s σ H _ I hq) fun us s1 ⟨xs,H1,I1,r,z,q⟩=>⟨by rw[<- r.length];exact z,?_⟩)
 have hf:H1 s1.heap.objs.size=none:=I1.hok.fresh (Nat.le_refl _)
 refine⟨.ref s1.heap.objs.size,aE H1 s1.heap.objs.size (.tup xs),I1.laid (t':=s1.toks) (fun b u e=>Heap.get?_push_of_some _ e) (Nat.le_refl _) ?_,rfl,q _ hf⟩;exact⟨⟨z,NoD.new _ _ _⟩,us,r,⟨_,Heap.get?_push_size _ rfl,rfl,_,rfl⟩⟩
end
abbrev Sp:=List V->Hp->VK->XK->Prop
abbrev fQ:=List Env->Hp->Shared->XK->Value->Shared->Prop
structure Env0 (P:Program) (w:World) (K:PySem.W.Frag) (mg:Str->Option Value) (base:Heap) (A:Around) (outer:List Env) (s:Shared) (H:Hp):Prop where
 frames:A.frames=some outer
 mod:Mod K mg base
 bs:∀ b o,base.get? b=some o->s.heap.get? b=some o/\H b=none
 bsz:base.objs.size<=s.heap.objs.size
 funs:s.heap.FunFrames base outer
 frf:∀ b∈fT outer,H b=none
 hok:HOk P w H s.heap
 bare:AllBare s.gens
def CE(outer:List Env)(P:Program)(w:World)(H:Hp)(s:Shared)(Q:VK)(u:Value)(s':Shared):Prop :=
 ∃ v H',s'.os=s.os/\AllBare s'.gens/\Un (fT outer) [] H H' s.heap s'.heap/\HOk P w H' s'.heap/\RelV v u/\Q v H'
def CR(CX:fQ)(outer:List Env)(P:Program)(w:World)(H:Hp)(s:Shared)(Q:VK)(E:XK)(r:Result)(s':Shared):Prop :=
 match r with
 | .ok (.ret u)=>CE outer P w H s Q u s'
 | .ok _=>False
 | .error e=>CX outer H s E e s'
structure FnOk (P:Program) (w:World) (K:PySem.W.Frag) (mg:Str->Option Value) (base:Heap) (CX:fQ) (k:Nat) (f:Addr) (fd:FuncData) (ps:List Str) (sp:Sp):Prop where
 len:∀ vs H Q E,sp vs H Q E->vs.length=ps.length
 run:∀ (A:Around) (outer:List Env) (s:Shared) (H:Hp) (args:Args) (us:List Value) (vs:List V) (Q:VK) (E:XK),Room k A->Env0 P w K mg base A outer s H->BindsTo s fd args (ps.zip us)->Vals vs us->sp vs H Q E ->
  codeAny (model P w) A (.call (.ref f) args) (CR CX outer P w H s Q E) s
theorem FnOk.mono{P:Program}{w:World}{K:PySem.W.Frag}{mg:Str->Option Value}{base:Heap}{CX:fQ}{j k:Nat}{f:Addr}{fd:FuncData}{ps:List Str}{sp:Sp}(F:FnOk P w K mg base CX j f fd ps sp)(h:j<=k) :
  FnOk P w K mg base CX k f fd ps sp:=⟨F.len,fun A outer s H args us vs Q E hr=>F.run A outer s H args us vs Q E (hr.mono h)⟩
theorem FnOk.imp{P:Program}{w:World}{K:PySem.W.Frag}{mg:Str->Option Value}{base:Heap}{CX:fQ}{k:Nat}{f:Addr}{fd:FuncData}{ps:List Str}{sp sp':Sp}(F:FnOk P w K mg base CX k f fd ps sp)
  (h:∀ vs H Q E,sp' vs H Q E->sp vs H Q E):FnOk P w K mg base CX k f fd ps sp' :=
 ⟨fun vs H Q E q=>F.len vs H Q E (h _ _ _ _ q),fun A outer s H args us vs Q E hr he hb hv hs=>F.run A outer s H args us vs Q E hr he hb hv (h _ _ _ _ hs)⟩
theorem Env0.make{P:Program}{w:World}{K:PySem.W.Frag}{mg:Str->Option Value}{base:Heap}{A:Around}{outer:List Env}{s:Shared}{H:Hp}(e:Env0 P w K mg base A outer s H)(C:Addr)(us:List Value)(kw:List (Str×Value)) :
  Env0 P w K mg base (A.under (.builtin "type.__call__" ⟨.ref C::us,kw⟩)) outer s H:=⟨by first | exact e.frames | (simpa[Around.under,Code.envs,Code.isFrame,pushEnvs] using e.frames),e.mod,e.bs,e.bsz,e.funs,e.frf,e.hok,e.bare⟩
theorem Env0.in1{P:Program}{w:World}{K:PySem.W.Frag}{mg:Str->Option Value}{base:Heap}{A:Around}{outer:List Env}{s:Shared}{H:Hp}(e:Env0 P w K mg base A outer s H) :
  Env0 P w K mg base A.in1 outer s H:=⟨e.frames,e.mod,e.bs,e.bsz,e.funs,e.frf,e.hok,e.bare⟩
section
variable {X:Cx}{pins:List (Addr×Obj)}{σ:St}{H:Hp}{s s':Shared}
theorem Inv.env0(I:Inv X pins σ H s):Env0 X.prog X.w X.K X.mg X.base X.A X.stack s H :=
 ⟨I.ok.frames,I.ok.mod,I.bs,Nat.le_trans I.ok.bsz I.sz,I.stack,I.stkFree,I.hok,I.bare⟩
theorem Inv.after{Q:VK}{u:Value}(I:Inv X pins σ H s)(h:CE X.stack X.prog X.w H s Q u s'):EP X pins σ Q u s':=by
 obtain⟨v,H',os,bare,un,hok,r,q⟩:=h;obtain⟨hh,g,d,t,os'⟩:=s';obtain rfl:os'=s.os:=os;exact⟨v,H',I.call (h':=hh) (g':=g) (d':=d) (t':=t) (ch:=[]) un hok bare (fun b z=>absurd z (by simp)),r,q⟩
end
def L0(sp:Sp)(dvs:List V)(E:XK)(t:TA):TE:=fun σ H Q=>t σ H fun vs H1=>sp (vs++dvs) H1 Q E
def Wt(C:Addr)(m:Str)(sp:Sp)(dvs:List V)(E:XK)(ta:TE)(t:TA):TE:=fun σ H Q=>ta σ H fun x H1=>∃ a dx fs,x=.ref a/\H1 a=some (.ins C dx fs)/\fs.lookup m=none /\
 t σ H1 fun vs H2=>sp (x::(vs++dvs)) H2 Q E
def Binds(K:PySem.W.Frag)(fd:FuncData)(ps:List Str)(ds:List Value):Prop :=
 ∀ (s:Shared) (us:List Value),K.In s.heap->(us++ds).length=ps.length->BindsTo s fd ⟨us,[]⟩ (ps.zip (us++ds))
theorem Binds.all{K:PySem.W.Frag}{fd:FuncData}{ps:List Str}(h:∀ us:List Value,us.length=ps.length->bindArgs fd ⟨us,[]⟩=pure (ps.zip us)):Binds K fd ps []:=fun s us _ hl=>by
 rw[List.append_nil]at hl ⊢;exact .of_eq (h us hl)
def uR(CX:fQ)(X:Cx)(E:XK):Prop:=∀ (pins:List (Addr×Obj)) (σ:St) (H:Hp) (s:Shared) (e:Value) (s':Shared),Inv X pins σ H s->CX X.stack H s E e s'->X.xe e s'
section
variable {X:Cx}{CX:fQ}{k:Nat}{f C:Addr}{fd:FuncData}{ps:List Str}{sp:Sp}{dvs:List V}{ds:List Value}{E:XK}{x m:Str}{p pos apos:Pos}{e o:Expr}{es:List Expr}{ta:TE}{t:TA}
theorem Jx{pins:List (Addr×Obj)}{σ:St}{H:Hp}{s:Shared}{Q:VK}{us:List Value}{vs:List V}(F:FnOk X.prog X.w X.K X.mg X.base CX k f fd ps sp)(hr:Room k X.A)(hb:Binds X.K fd ps ds)(hd:Vals dvs ds)(hx:uR CX X E)
  (I:Inv X pins σ H s) (r:Vals vs us) (h:sp (vs++dvs) H Q E):wpAny (model X.prog X.w) X.A (call (.ref f) us) (EP X pins σ Q) X.xe s:=by
 have r2:Vals (vs++dvs) (us++ds):=r.append hd
 have hl:(us++ds).length=ps.length:=by rw[<- r2.length];exact F.len _ _ _ _ h
 refine wpAny_call (codeAny_mono (F.run X.A X.stack s H ⟨us,[]⟩ (us++ds) (vs++dvs) Q E hr I.env0 (hb s us I.kIn hl) r2 h) fun r s' hq=>?_)
 cases r with
 | error e=>exact hx pins σ H s e s' I hq
 | ok fl =>
  cases fl with
  | ret u=>exact I.after hq
  | next=>exact False.elim hq
  | brk=>exact False.elim hq
  | cont=>exact False.elim hq
theorem X9(F:FnOk X.prog X.w X.K X.mg X.base CX k f fd ps sp)(hr:Room k X.A)(hg:Gl X x)(hm:X.mg x=some (.ref f))(hk:PySem.W.keepIn X.K (.ref f)=true)(hb:Binds X.K fd ps ds)(hd:Vals dvs ds)(hx:uR CX X E)
  (ha:PA X (e::es) t) (hdb:(x==("__debug__" : Str))=false:=by decide) (he:starEach (e::es) X.env=(false,eval e X.env)::starEach es X.env:=by rfl) (hpl:(backTo pos (starEach es X.env)).any (·.1)=false:=by rfl) :
  PE X (.Call (.Name x p) (e::es) [] pos) (L0 sp dvs E t):=by
 intro pins s σ H Q I h;refine wpAny_Call_Name_kw (Fv I hg hm ?_ hdb);refine PySem.W.callWith_K (h₀:=X.base) I.ok.mod.kin hk (aI (ha pos pins s σ H _ I h) fun us s1 ⟨vs,H1,I1,r,q⟩=>⟨I1.kIn,?_⟩) he hpl;exact Jx F hr hb hd hx I1 r q
theorem Ou{pl:Sem Bool}(he:PE X o ta)(c:Cls X.K C)(hm:Meth X.K C m f)(F:FnOk X.prog X.w X.K X.mg X.base CX k f fd ps sp)(hr:Room k X.A)(hb:Binds X.K fd ps ds)(hd:Vals dvs ds)(hx:uR CX X E)(ha:PA X (e::es) t)
  (hst:starEach (e::es) X.env=(false,eval e X.env)::starEach es X.env:=by rfl) (hpl:(backTo pos (starEach es X.env)).any (·.1)=false:=by rfl)
  (ht:eval (.Call (.Attribute o m apos) (e::es) [] pos) X.env=(do
   let ov <- eval o X.env
   standAt apos.atName
   let (f,first) <- holding [ov] (getMethod ov m pl)
   callWith pos f first (backTo pos (starEach (e::es) X.env)) (backToKw pos (keywordEach [] X.env))):=by rfl) :
  PE X (.Call (.Attribute o m apos) (e::es) [] pos) (Wt C m sp dvs E ta t):=by
 intro pins s σ H Q I h;refine PySem.W.methodCall_KW (pl:=pl) (aI (he pins s σ H _ I h) fun u s1 ⟨x,H1,I1,rx,a,dx,fs,ex,ea,l,q⟩=>?_) ht;subst ex;obtain rfl:u=Value.ref a:=rx;refine F7 I1 ea c hm l ?_;refine PySem.W.callWith_K (first:=[.ref a]) (h₀:=X.base) I.ok.mod.kin hm.kp (aI (ha pos pins s1 σ H1 _ I1 q) fun us s2 ⟨vs,H2,I2,r,q2⟩=>⟨I2.kIn,?_⟩) hst hpl
 exact Jx (us:=.ref a::us) (vs:=.ref a::vs) F hr hb hd hx I2 (.cons rfl r) q2
structure Mk (K:PySem.W.Frag) (C f:Addr):Prop where
 makes:PySem.W.makesIn K C=true
 init:PySem.W.findIn K (.ref C) "__init__"=some (some (.ref f))
 fn:PySem.W.isFn K (.ref f)=true
 kp:PySem.W.keepIn K (.ref C)=true
end
structure FnScope (N P:List Str) (sc:Scope):Prop where
 kind:sc.kind=.function
 co:sc.isCoroutine=false
 gen:sc.isGenerator=false
 nd:N.Nodup
 pre:N.take P.length=P
 par:∀ x∈P,sc.names.lookup x=some .local\/sc.names.lookup x=some .cell
 nofree:∀ y∈sc.names,y.2≠.free
theorem Ho{kindOf:Str->Option NameKind}{x:Str}:∀ {binds:List (Str×Value)} {m:Str->Option Value},(∀ v,(x,v)∉binds)->bindL kindOf binds m x=m x
 | [],_,_=>rfl
 | (n,v)::r,m,h=>by
  unfold bindL;rw[Ho fun w hw=>h w (List.mem_cons_of_mem _ hw)]
  split
  ·have:x≠n:=by rintro rfl;exact h v List.mem_cons_self
   simp[this]
  ·rfl
theorem Jt{kindOf:Str->Option NameKind}{x:Str}:∀ {binds:List (Str×Value)} {m:Str->Option Value},(∀ v,(x,v)∉binds)->bindC kindOf binds m x=m x
 | [],_,_=>rfl
 | (n,v)::r,m,h=>by
  unfold bindC;rw[Jt fun w hw=>h w (List.mem_cons_of_mem _ hw)]
  split
  ·rfl
  ·have:x≠n:=by rintro rfl;exact h v List.mem_cons_self
   simp[this]
theorem Jw{kindOf:Str->Option NameKind}{x:Str}{v:Value}:∀ {P:List Str} {vs:List Value} {i:Nat} {m:Str->Option Value},P.Nodup->P[i]?=some x->vs[i]?=some v->kindOf x=some .local ->
  bindL kindOf (P.zip vs) m x=some v
 | [],_,_,_,_,h,_,_=>by simp at h
 | _::_,[],_,_,_,_,h,_=>by simp at h
 | p::P,w::vs,0,m,nd,h1,h2,hk=>by
  simp at h1 h2;subst h1;subst h2;show bindL kindOf ((p,w)::P.zip vs) m p=_
  unfold bindL;rw[Ho fun v hv=>(List.nodup_cons.mp nd).1 (List.of_mem_zip hv).1,if_pos hk];simp
 | p::P,w::vs,i+1,m,nd,h1,h2,hk=>by
  show bindL kindOf ((p,w)::P.zip vs) m x=_
  unfold bindL;exact Jw (i:=i) (List.nodup_cons.mp nd).2 (by simpa using h1) (by simpa using h2) hk
theorem Ji{kindOf:Str->Option NameKind}{x:Str}{v:Value}:∀ {P:List Str} {vs:List Value} {i:Nat} {m:Str->Option Value},P.Nodup->P[i]?=some x->vs[i]?=some v->kindOf x≠some .local ->
  bindC kindOf (P.zip vs) m x=some v
 | [],_,_,_,_,h,_,_=>by simp at h
 | _::_,[],_,_,_,_,h,_=>by simp at h
 | p::P,w::vs,0,m,nd,h1,h2,hk=>by
  simp at h1 h2;subst h1;subst h2;show bindC kindOf ((p,w)::P.zip vs) m p=_
  unfold bindC;rw[Jt fun v hv=>(List.nodup_cons.mp nd).1 (List.of_mem_zip hv).1,if_neg hk];simp
 | p::P,w::vs,i+1,m,nd,h1,h2,hk=>by
  show bindC kindOf ((p,w)::P.zip vs) m x=_
  unfold bindC;exact Ji (i:=i) (List.nodup_cons.mp nd).2 (by simpa using h1) (by simpa using h2) hk
def start(N:List Str)(vs:List V):St:=vs.map some++List.replicate (N.length-vs.length) none
def kG(CX:fQ)(P:Program)(w:World)(K:PySem.W.Frag)(mg:Str->Option Value)(base:Heap)(N:List Str)(qual:Str)(scope:Scope)(f:Addr)(cd:Value)(A:Around)(outer:List Env)(s:Shared)(H:Hp)(E:XK):Cx where
 prog:=P
 w:=w
 K:=K
 mg:=mg
 base:=base
 A:=A.deeper (envOfC qual scope s.heap.objs.size f cd)
 N:=N
 s₀:=s
 H₀:=H
 env:=envOfC qual scope s.heap.objs.size f cd
 outer:=outer
 stack:=envOfC qual scope s.heap.objs.size f cd::outer
 ex:=[]
 calm:=true
 fn:=fun _=>true
 pn:=[]
 xe:=fun e s'=>wpAny (model P w) (A.deeper (envOfC qual scope s.heap.objs.size f cd)) («leaving» (envOfC qual scope s.heap.objs.size f cd) e) (fun _ s''=>CX outer H s E e s'') (fun e' s''=>CX outer H s E e' s'') s'
theorem Hw{sc:Scope}{n:Nat}{x:Str}(h:sc.names.lookup x=some .cell):∃ c,(cellsFrom n sc.names []).lookup x=some c:=by
 have q:=PySem.W.cellsFrom_some sc.names n [] (.inl h)
 exact Option.isSome_iff_exists.mp q
theorem Uq{CX:fQ}{P:Program}{w:World}{K:PySem.W.Frag}{mg:Str->Option Value}{base:Heap}{N ps:List Str}{qual:Str}{scope:Scope}{f:Addr}{cd:Value}{A:Around}{outer:List Env}{s s1:Shared}{H:Hp}{E:XK}{us:List Value}{vs:List V}
  (S:FnScope N ps scope) (hd:A.handled=none) (e0:Env0 P w K mg base A outer s H) (hl:vs.length=ps.length) (r:Vals vs us)
  (x:InCallC s s.heap.objs.size (bindL (envOfC qual scope s.heap.objs.size f cd).kindOf (ps.zip us) fun _=>none) (cellsFrom (s.heap.objs.size+1) scope.names []) (bindC (envOfC qual scope s.heap.objs.size f cd).kindOf (ps.zip us) fun _=>none) s1) :
  Inv (kG CX P w K mg base N qual scope f cd A outer s H E) [] (start N vs) H s1:=by
 have hpl:ps.length<=N.length:=by have:=congrArg List.length S.pre;rw[List.length_take]at this;omega
 obtain⟨h1,tk,rfl,hk⟩:=x.done;have noA:∀ b:Addr,b∉(kG CX P w K mg base N qual scope f cd A outer s H E).ex:=fun b z=>absurd (show b∈([]:List Addr) from z) (by simp)
 refine⟨⟨e0.mod,S.kind,rfl,rfl,Nat.le_refl _,fun y z c h1 h2=>?_,fun y hy=>?_,fun y c _ h=>?_,fun _=>hd,Around.frames_deeper e0.frames,.inr ⟨rfl,rfl⟩,fun b z=>absurd z (noA b),e0.bs,e0.bsz,fun b _ _=>noA b,fun b z=>absurd z (noA b),e0.funs,e0.frf⟩,
  rfl,e0.bare,Un.kept hk,⟨_,x.toInCall.ns,fun i y v h1 h2 h3=>?_⟩,fun y c h=>⟨_,x.cell y c h⟩,e0.hok.fresh (Nat.le_refl _),fun y c h=>?_,fun p hp=>absurd (show p∈([]:List (Addr×Obj)) from hp) (by simp),e0.hok.kept hk,?_⟩
 ·exact name_of_addr x.apart (PySem.mem_of_lookup h1) (PySem.mem_of_lookup h2)
 ·have hy:scope.names.lookup y=some .cell\/scope.names.lookup y=some .free:=hy
  rcases hy with hy | hy
  ·exact Hw hy
  ·exact absurd rfl (S.nofree _ (PySem.mem_of_lookup hy))
 ·exact Nat.le_of_lt (x.above y c (PySem.mem_of_lookup h))
 ·have hi:i<vs.length:=by
   unfold start at h2
   by_cases hi:i<vs.length
   ·exact hi
   ·rw[List.getElem?_append_right (by simpa using hi)]at h2
    rw[List.getElem?_replicate]at h2
    split at h2<;>cases h2
  have ha:vs[i]?=some v:=by
   unfold start at h2;rw[List.getElem?_append_left (by simpa using hi),List.getElem?_map]at h2
   cases e:vs[i]? with
   | none=>rw[e]at h2;cases h2
   | some a=>rw[e]at h2;cases h2;rfl
  obtain⟨u,hu,rv⟩:=r.get ha;have hp:ps[i]?=some y:=by
   rw[<- S.pre,List.getElem?_take_of_lt (by omega)];exact h1
  have ndP:ps.Nodup:=by rw[<- S.pre];exact S.nd.sublist (List.take_sublist _ _)
  refine⟨u,rv,?_⟩;rcases S.par y (List.mem_of_getElem? hp) with k | k
  ·exact .inl ⟨k,Jw ndP hp hu k⟩
  ·obtain⟨c,e⟩:=Hw (n:=s.heap.objs.size+1) k;refine .inr ⟨.inl k,c,e,?_⟩;have q:=x.cell y c e
   rw[Ji ndP hp hu (by show scope.names.lookup y≠_;rw[k];decide)]at q
   exact q
 ·exact e0.hok.fresh (Nat.le_of_lt (x.above y c (PySem.mem_of_lookup h)))
 ·unfold start;show _=N.length
  rw[List.length_append,List.length_map,List.length_replicate];omega
theorem Zh{CX:fQ}{P:Program}{w:World}{K:PySem.W.Frag}{mg:Str->Option Value}{base:Heap}{k:Nat}{f:Addr}{name qual:Str}{params:Arguments}{body:List Stmt}{scope:Scope}{dV kV doc pm cdv ct oc:Value}{an od:Option Addr}
  {osl:Array (Option Value)} {N ps:List Str} {sp:Sp} (lk:K.lookup f=some ⟨oc,od,.func (PySem.W.fnOf name qual params body scope dV kV doc pm an cdv ct),osl⟩) (hcd:PySem.W.codeIn K cdv qual=true) (S:FnScope N ps scope)
  (len:∀ vs H Q E,sp vs H Q E->vs.length=ps.length)
  (hbody:∀ (A:Around) (outer:List Env) (s:Shared) (H:Hp) (vs:List V) (Q:VK) (E:XK),Room k (A.deeper (envOfC qual scope s.heap.objs.size f cdv))->sp vs H Q E ->
   ∃ t,PSs (kG CX P w K mg base N qual scope f cdv A outer s H E) body t/\t {nx:=fun _ H'=>Q .non H',rt:=Q} (start N vs) H) :
  FnOk P w K mg base CX (k+1) f (PySem.W.fnOf name qual params body scope dV kV doc pm an cdv ct) ps sp:=by
 refine⟨len,fun A outer s H args us vs Q E hr e0 hb r hsp=>?_⟩;have hl:=len _ _ _ _ hsp
 have KX:K.In s.heap:=e0.mod.kin.keeps fun b o e=>(e0.bs b o e).1
 have lim:s.heap.NoLimit:=e0.mod.nolimit.keeps fun b o e=>(e0.bs b o e).1
 have hkind:∀ y∈ps.zip us,scope.names.lookup y.1=some .local\/(scope.names.lookup y.1=some .cell/\((cellsFrom (s.heap.objs.size+1) scope.names []).lookup y.1).isSome=true):=fun⟨n,v⟩ hy=>by
  rcases S.par n (List.of_mem_zip hy).1 with q | q
  ·exact .inl q
  ·exact .inr ⟨q,PySem.W.cellsFrom_some _ _ _ (.inl q)⟩
 refine codeAny_call_function hr.depth (KX _ _ lk) rfl S.co S.gen rfl (PySem.W.codeRec_of KX hcd) (hb _ _ _ _ ?_);refine wpAny_newFunctionEnv_cells S.kind hkind fun env he s1 x=>?_;subst he;refine⟨lim.keeps x.toInCall.keep,codeAny_func ?_⟩;obtain⟨t,ht,hq⟩:=hbody A outer s H vs Q E (hr.deeper _) hsp;have I:Inv (kG CX P w K mg base N qual scope f cdv A outer s H E) [] (start N vs) H s1:=Uq S hr.hd e0 hl r x
 refine wpAny_mono (ht [] s1 (start N vs) H _ I hq) (fun fl s' hs=>?_) fun e s' hs=>hs;have fin:∀ {σ':St} {H':Hp} {v:V} {u:Value},Inv (kG CX P w K mg base N qual scope f cdv A outer s H E) [] σ' H' s'->RelV v u->Q v H'->CE outer P w H s Q u s' :=
  fun {σ' H' v u} J rv q=>⟨v,H',J.os,J.bare,J.base,J.hok,rv,q⟩
 cases fl with
 | ret u =>
  obtain⟨v,σ',H',J,rv,q⟩:=hs;exact fin J rv q
 | next =>
  obtain⟨σ',H',J,q⟩:=hs;exact fin (v:=V.non) (u:=Value.none) J rfl q
 | brk =>
  obtain⟨_,_,_,q⟩:=hs;exact False.elim q
 | cont =>
  obtain⟨_,_,_,q⟩:=hs;exact False.elim q
end L2
namespace L2
open PySem PySem.Spec PyProof.Rows
section
variable {X:Cx}{x:Str}{p pos:Pos}{e:Expr}{es:List Expr}{t:TA}{id T:String}{r:List V->Hp->VK->Prop}
def Gk(r:List V->Hp->VK->Prop)(t:TA):TE:=fun σ H Q=>t σ H fun vs H1=>r vs H1 Q
theorem d8(hc:CallR X (.builtin id) r)(hg:Gl X x)(hm:X.mg x=none)(hv:bootBuiltins x=some (.builtin id))(ha:PA X (e::es) t)(hn:x≠"__name__":=by decide)(hdb:(x==("__debug__" : Str))=false:=by decide)
  (he:starEach (e::es) X.env=(false,eval e X.env)::starEach es X.env:=by rfl) (hpl:(backTo pos (starEach es X.env)).any (·.1)=false:=by rfl):PE X (.Call (.Name x p) (e::es) [] pos) (Gk r t):=by
 intro pins s σ H Q I h;refine wpAny_Call_Name_kw (kW I hg hm hv ?_ hn hdb);exact PyProof.Rows.callWith_builtin1 (aI (ha pos pins s σ H _ I h) fun us s1 ⟨vs,H1,I1,r1,q1⟩=>hc pins s1 σ H1 vs us Q I1 r1 q1) he hpl
theorem Y3(hc:CallR X (.type T) r)(hg:Gl X x)(hm:X.mg x=none)(hv:bootBuiltins x=some (.type T))(ha:PA X (e::es) t)(hn:x≠"__name__":=by decide)(hdb:(x==("__debug__" : Str))=false:=by decide)
  (he:starEach (e::es) X.env=(false,eval e X.env)::starEach es X.env:=by rfl) (hpl:(backTo pos (starEach es X.env)).any (·.1)=false:=by rfl):PE X (.Call (.Name x p) (e::es) [] pos) (Gk r t):=by
 intro pins s σ H Q I h;refine wpAny_Call_Name_kw (kW I hg hm hv ?_ hn hdb);exact PyProof.Rows.callWith_type1 (aI (ha pos pins s σ H _ I h) fun us s1 ⟨vs,H1,I1,r1,q1⟩=>hc pins s1 σ H1 vs us Q I1 r1 q1) he hpl
end
end L2
namespace HT
open PySem PyProof.Rows
section
variable {prog:Program}{w:World}{A:Around}{E:Value->Shared->Prop}{s:Shared}
theorem cat_tup{t b:Addr}{vs ws:List Value}{Q:Value->Shared->Prop}(ht:IsTup s.heap t vs.toArray)(hb:IsTup s.heap b ws.toArray)(hv:vs≠[])
  (h1:ws=[]->Q (.ref t) s) (h2:ws≠[]->Q (.ref s.heap.objs.size) {s with heap:=s.heap.push {cls:=.type "tuple",data:=.seq (vs++ws).toArray}})
  (hsz:vs.length+ws.length<=sizeLine):wpAny (model prog w) A (binaryOp .Add (.ref t) (.ref b)) Q E s:=by
 obtain⟨⟨cls,dd,data,sl⟩,ho,hc,n,hd⟩:=id ht;obtain⟨⟨cls2,dd2,data2,sl2⟩,ho2,hc2,n2,hd2⟩:=id hb;simp only at hc hd hc2 hd2;subst hc hd hc2 hd2;have e:vs.toArray++ws.toArray=(vs++ws).toArray:=by simp
 by_cases hw:ws=[]
 ·exact concat_meets ⟨_,ho,rfl⟩ ⟨_,ho2,rfl⟩ noFill_tuple_add seq_tuple_add PySem.F.slot_tuple_add PySem.F.entry_tuple_add (PySem.F.args_tuple_add_2 _ _)
   (tuple_addW1 t b vs.toArray ws.toArray n n2 dd dd2 sl sl2 (by simpa using hv) (by simp[hw])) ⟨ho,ho2,h1 hw⟩
 ·refine concat_meets ⟨_,ho,rfl⟩ ⟨_,ho2,rfl⟩ noFill_tuple_add seq_tuple_add PySem.F.slot_tuple_add PySem.F.entry_tuple_add (PySem.F.args_tuple_add_2 _ _)
   (tuple_addW2 t b vs.toArray ws.toArray n n2 dd dd2 sl sl2 (by simpa using hv) (by simpa using hw) (by rw[List.size_toArray,List.size_toArray];exact hsz)) ⟨ho,ho2,?_⟩
  rw[e];exact h2 hw
def sIx(n d:Nat):Option Int->Nat
 | none=>d
 | some v=>if v<0 then (v+(n:Int)).toNat else min v.toNat n
theorem Vz(n d:Nat)(hd:d<=n)(o:Option Int):sIx n d o<=n:=by
 cases o with
 | none=>exact hd
 | some v =>
  show(if v<0 then (v+(n:Int)).toNat else min v.toNat n)<=n
  by_cases hv:v<0
  ·rw[if_pos hv];omega
  ·rw[if_neg hv];exact Nat.min_le_right _ _
theorem Ly(v:Int)(n d:Nat):(if v<0 then max (v+(n:Int)) 0 else min v (n:Int))=((sIx n d (some v):Nat):Int):=by
 show(if v<0 then max (v+(n:Int)) 0 else min v (n:Int))=(((if v<0 then (v+(n:Int)).toNat else min v.toNat n):Nat):Int)
 by_cases hv:v<0
 ·simp only[if_pos hv];omega
 ·simp only[if_neg hv];omega
theorem Ro(lo hi:Option Int)(n:Nat):Builtin.Slice.sliceAdjust lo hi 1 (n:Int)=(((sIx n 0 lo:Nat):Int),((sIx n n hi:Nat):Int)):=by
 have h1:¬ ((1:Int)<0):=by omega
 unfold Builtin.Slice.sliceAdjust;simp only[h1,if_false];refine Prod.ext ?_ ?_
 ·cases lo with
  | none=>rfl
  | some v=>exact Ly v n 0
 ·cases hi with
  | none=>rfl
  | some v=>exact Ly v n n
theorem S0(i j:Nat):Builtin.Slice.slicePlaces (i:Int) (j:Int) 1=j-i:=by
 unfold Builtin.Slice.slicePlaces;have h1:(1:Int) > 0:=by omega
 simp only[h1,if_true,Int.ediv_one]
 split<;>omega
theorem Js{v:Value}{o:Option Int}{Q:Option Int->Shared->Prop}(p:IsPart v o)(h:Q o s):wpAny (model prog w) A (Builtin.Slice.slicePartIndex v) Q E s:=by
 cases p with
 | none=>exact slicePart_none h
 | int i t=>exact slicePart_int h
theorem sliceApplied_gen{sl:Addr}{vl vu:Value}{lo hi:Option Int}{n:Nat}{Q:Int×Int×Nat->Shared->Prop}(hs:s.heap.IsSliceOf sl vl vu .none)(pl:IsPart vl lo)(pu:IsPart vu hi)
  (h:Q (((sIx n 0 lo:Nat):Int),1,sIx n n hi-sIx n 0 lo) s):wpAny (model prog w) A (Builtin.Slice.sliceApplied (.ref sl) (pure (n:Int))) Q E s:=by
 obtain⟨os,hos,hcs,hds⟩:=id hs;unfold Builtin.Slice.sliceApplied Builtin.Slice.sliceFields;refine wpAny_bind (wpAny_bind (wpAny_field hos hds (x:=vl) rfl (wpAny_bind (wpAny_field hos hds (x:=vu) rfl (wpAny_bind (wpAny_field hos hds (x:=.none) rfl (wpAny_pure ?_)))))));refine wpAny_bind (slicePart_none ?_);show wpAny _ _ (if ((1:Int)==0)=true then _ else _) _ _ s
 rw[if_neg (by decide)]
 refine wpAny_bind (Js pl (wpAny_bind (Js pu (wpAny_bind (wpAny_pure ?_)))));show wpAny _ _ (match Builtin.Slice.sliceAdjust lo hi 1 (n:Int) with | (lo,hi)=>pure (lo,(1:Int),Builtin.Slice.slicePlaces lo hi 1)) _ _ s
 rw[Ro lo hi n];show wpAny _ _ (pure (((sIx n 0 lo:Nat):Int),(1:Int),Builtin.Slice.slicePlaces ((sIx n 0 lo:Nat):Int) ((sIx n n hi:Nat):Int) 1)) _ _ s
 rw[S0];exact wpAny_pure h
theorem AN(xs:Array Value)(i k:Nat):((List.range k).filterMap fun(m:Nat)=>xs[((i:Int)+(m:Int)*1).toNat]?).toArray=((xs.toList.drop i).take k).toArray:=by
 have e:(fun(m:Nat)=>xs[((i:Int)+(m:Int)*1).toNat]?)=fun m=>xs[i+m]?:=by
  funext m
  have:((i:Int)+(m:Int)*1).toNat=i+m:=by omega
  rw[this]
 rw[e];have:=pick_run xs i k
 rw[List.filterMap_map]at this;have e2:((fun x=>xs[x]?)∘fun x=>i+x)=fun m=>xs[i+m]?:=rfl
 rw[e2]at this;rw[this]
theorem getItem_tuple_cut{t sl:Addr}{items:Array Value}{vl vu:Value}{lo hi:Option Int}{Q:Value->Shared->Prop}(ht:IsTup s.heap t items)(hs:s.heap.IsSliceOf sl vl vu .none)(pl:IsPart vl lo)(pu:IsPart vu hi)
  (hw:¬ (sIx items.size 0 lo=0/\sIx items.size items.size hi=items.size))
  (h:Q (.ref s.heap.objs.size) {s with heap:=s.heap.push {cls:=.type "tuple",data:=.seq ((items.toList.drop (sIx items.size 0 lo)).take (sIx items.size items.size hi-sIx items.size 0 lo)).toArray}})
  (hsz:items.size<=sizeLine):wpAny (model prog w) A (getItem (.ref t) (.ref sl)) Q E s:=by
 have htake:sizeOk (.seq ((items.toList.drop (sIx items.size 0 lo)).take (sIx items.size items.size hi-sIx items.size 0 lo)).toArray):=by
  show((items.toList.drop (sIx items.size 0 lo)).take (sIx items.size items.size hi-sIx items.size 0 lo)).toArray.size<=sizeLine
  rw[List.size_toArray,List.length_take,List.length_drop,Array.length_toList];omega
 have hj:sIx items.size items.size hi<=items.size:=Vz _ _ (Nat.le_refl _) hi
 obtain⟨os,hos,hcs,hds⟩:=id hs;have hTs:s.TypeIs (.ref sl) "slice":=⟨os,hos,hcs⟩
 unfold getItem
 try with_reducible refine wpAny_holding ?_
 first | refine wpAny_bind (wpAny_pure ?_) | skip
 refine wpAny_bind (wpAny_sequenceKey ht.typeIs (by decide) ?_)
 refine wpAny_bind (wpAny_callSpecial?_slot (name:=Str.ofString "__getitem__") ht.typeIs PyProof.Rows.slot_tuple_getitem
  (wpAny_call_entry PyProof.Rows.slot_tuple_getitem ht.typeIs entry_tuple_getitem ?_ (args_tuple_getitem _ _)))
 show wpAny _ _ (Builtin.Tuple.tupleItemsOf (.ref t)>>=_) _ _ s
 refine wpAny_bind (tupleItemsOf_ ht ?_);refine wpAny_bind (wpAny_typeOf hTs ?_);rw[if_pos (by decide)]
 refine wpAny_bind (sliceApplied_gen hs pl pu ?_);have hno:¬ ((((sIx items.size 0 lo:Nat):Int)==0&&(1:Int)==1&&(sIx items.size items.size hi-sIx items.size 0 lo)==items.size)=true):=by
  intro q;rw[Bool.and_eq_true,Bool.and_eq_true]at q;have q1:((sIx items.size 0 lo:Nat):Int)=0:=eq_of_beq q.1.1
  have q2:sIx items.size items.size hi-sIx items.size 0 lo=items.size:=eq_of_beq q.2
  exact hw ⟨by omega,by omega⟩
 show wpAny _ _ (if (((sIx items.size 0 lo:Nat):Int)==0&&(1:Int)==1&&(sIx items.size items.size hi-sIx items.size 0 lo)==items.size)=true then _ else _) _ _ s
 rw[if_neg hno,AN]
 first
  | exact wpAny_bind (m:=Builtin.Tuple.tupleExact _) (wpAny_newObj_type (wpAny_pure ⟨_,rfl,wpAny_pure h⟩) htake)
  | exact wpAny_bind (m:=Builtin.Tuple.tupleExact _) (wpAny_newObj_type (wpAny_bind (wpAny_pure (wpAny_pure ⟨_,rfl,wpAny_pure h⟩))) htake)
  | exact wpAny_bind (wpAny_bind (m:=Builtin.Tuple.tupleExact _) (wpAny_newObj_type (wpAny_pure (wpAny_pure ⟨_,rfl,wpAny_pure h⟩)) htake))
  | exact wpAny_bind (wpAny_bind (m:=Builtin.Tuple.tupleExact _) (wpAny_newObj_type (wpAny_pure ⟨_,rfl,wpAny_pure h⟩) htake))
end
end HT
namespace L2
open PySem PySem.Spec PyProof.Rows
abbrev TO:=St->Hp->(Option Int->Hp->Prop)->Prop
def PO(X:Cx)(e:Option Expr)(t:TO):Prop :=
 ∀ (pins:List (Addr×Obj)) (s:Shared) (σ:St) (H:Hp) (Q:Option Int->Hp->Prop),Inv X pins σ H s->t σ H Q ->
  wpAny (model X.prog X.w) X.A (evalPart e X.env) (fun u s'=>∃ o H',Inv X pins σ H' s'/\IsPart u o/\Q o H') X.xe s
def Qa:TO:=fun _ H Q=>Q none H
def C7(t:TE):TO:=fun σ H Q=>t σ H fun x H1=>∃ i,x=.int i/\Q (some i) H1
section
variable {X:Cx}{e:Expr}{te:TE}{lo hi:Option Expr}{tl th:TO}{pos p2:Pos}
theorem X2:PO X none Qa:=by
 intro pins s σ H Q I h;rw[evalPart_none];exact wpAny_pure ⟨none,H,I,.none,h⟩
theorem O5(h:PE X e te):PO X (some e) (C7 te):=by
 intro pins s σ H Q I hw;rw[evalPart_some];refine aI (h pins s σ H _ I hw) fun u s1 ⟨x,H1,I1,r1,q1⟩=>?_;obtain⟨i,rfl,q⟩:=q1;obtain⟨t,rfl⟩:=r1;exact⟨some i,H1,I1,.int i t,q⟩
def SlR(X:Cx)(r:V->Option Int->Option Int->Hp->VK->Prop):Prop :=
 ∀ (pins:List (Addr×Obj)) (s:Shared) (σ:St) (H:Hp) (x:V) (v vl vu:Value) (lo hi:Option Int) (sl:Addr) (Q:VK),Inv X pins σ H s->RelV x v->s.heap.IsSliceOf sl vl vu .none->IsPart vl lo->IsPart vu hi->r x lo hi H Q ->
  ∃ T id,typeLookup (.type T) "__getitem__"=pure (some (.builtin id))/\s.TypeIs v T/\wpAny (model X.prog X.w) X.A (getItem v (.ref sl)) (EP X pins σ Q) X.xe s
theorem SlR.or{r r':V->Option Int->Option Int->Hp->VK->Prop}(h:SlR X r)(h':SlR X r'):SlR X (fun x lo hi H Q=>r x lo hi H Q\/r' x lo hi H Q):=by
 intro pins s σ H x v vl vu lo hi sl Q I rx hs pl pu q;rcases q with q | q
 ·exact h pins s σ H x v vl vu lo hi sl Q I rx hs pl pu q
 ·exact h' pins s σ H x v vl vu lo hi sl Q I rx hs pl pu q
def S1(r:V->Option Int->Option Int->Hp->VK->Prop)(te:TE)(tl th:TO):TE:=fun σ H Q=>te σ H fun x H1=>tl σ H1 fun l H2=>th σ H2 fun u H3=>r x l u H3 Q
theorem Qs{r:V->Option Int->Option Int->Hp->VK->Prop}(hr:SlR X r)(he:PE X e te)(hl:PO X lo tl)(hu:PO X hi th):PE X (.Subscript e (.Slice lo hi none p2) pos) (S1 r te tl th):=by
 intro pins s σ H Q I h;refine Subscript_ (aI (he pins s σ H _ I h) fun v s1 ⟨x,H1,I1,r1,q1⟩=>?_);refine wpAny_Slice (aI (hl pins s1 σ H1 _ I1 q1) fun vl s2 ⟨l,H2,I2,pl,q2⟩=>aI (hu pins s2 σ H2 _ I2 q2) fun vu s3 ⟨u,H3,I3,pu,q3⟩=>?_);rw[evalPart_none];refine wpAny_pure ?_;have I4:Inv X pins σ H3 {s3 with heap:=s3.heap.push {cls:=.type "slice",data:=.fields #[vl,vu,.none]}}:=I3.kept (t':=s3.toks) fun b ob q=>Heap.get?_push_of_some _ q
 obtain⟨T,id,hT,ht,hg⟩:=hr pins {s3 with heap:=s3.heap.push {cls:=.type "slice",data:=.fields #[vl,vu,.none]}} σ H3 x v vl vu l u s3.heap.objs.size Q I4 r1 (Heap.IsSliceOf.new ..) pl pu q3;show wpAny (model X.prog X.w) X.A (subscriptTail e (.Slice lo hi none p2) v (.ref s3.heap.objs.size)) (EP X pins σ Q) X.xe {s3 with heap:=s3.heap.push {cls:=.type "slice",data:=.fields #[vl,vu,.none]}}
 exact tail_any (ops:=[.ref s3.heap.objs.size,v]) ht hT hg (by with_unfolding_all rfl)
def iD(xs:List V)(lo hi:Option Int):List V:=(xs.drop (HT.sIx xs.length 0 lo)).take (HT.sIx xs.length xs.length hi-HT.sIx xs.length 0 lo)
theorem Im(xs:List V)(lo hi:Option Int):(iD xs lo hi).length<=xs.length:=by
 unfold iD;rw[List.length_take,List.length_drop];omega
def v7(K:PySem.W.Frag):V->Option Int->Option Int->Hp->VK->Prop:=fun x lo hi H Q=>∃ a xs,x=.ref a/\SqT K H a xs /\
 ¬ (HT.sIx xs.length 0 lo=0/\HT.sIx xs.length xs.length hi=xs.length)/\∀ p,H p=none->Q (.ref p) (aE H p (.tup (iD xs lo hi)))
theorem J1:SlR X (v7 X.K):=by
 intro pins s σ H x v vl vu lo hi sl Q I rx hs pl pu h;obtain⟨a,xs,rfl,hx,hw,q⟩:=h
 cases rx
 obtain⟨its,r,ht,hz⟩:=I.tuple hx;have hlen:its.toArray.size=xs.length:=by rw[List.size_toArray];exact r.length.symm
 refine⟨"tuple",_,PyProof.Rows.slot_tuple_getitem.lookup,ht.typeIs,?_⟩;refine HT.getItem_tuple_cut ht hs pl pu (by rw[hlen];exact hw) ?_ (by rw[hlen];exact hz)
 rw[hlen];refine⟨.ref s.heap.objs.size,_,I.laid (t':=s.toks) (o:=.tup (iD xs lo hi)) (fun b ob q=>Heap.get?_push_of_some _ q) (Nat.le_refl _) ?_,rfl,q _ (I.hok.fresh (Nat.le_refl _))⟩;exact⟨⟨Nat.le_trans (Im xs lo hi) hz,NoD.new _ _ _⟩,_,(r.drop (HT.sIx xs.length 0 lo)).take (HT.sIx xs.length xs.length hi-HT.sIx xs.length 0 lo),IsTup.new _ _⟩
def CU(K:PySem.W.Frag):R2:=fun x y H Q=>∃ a b xs ys,x=.ref a/\y=.ref b/\SqT K H a xs/\SqT K H b ys/\xs≠[]/\xs.length+ys.length<=sizeLine /\
 (ys=[]->Q (.ref a) H)/\(ys≠[]->∀ p,H p=none->Q (.ref p) (aE H p (.tup (xs++ys))))
theorem Vals.nil_iff{xs:List V}{us:List Value}(r:Vals xs us):us=[]↔xs=[]:=by
 cases r with
 | nil=>simp
 | cons _ _=>simp
theorem N8:OpR X (binaryOp .Add) (CU X.K):=by
 intro pins s σ H x y v u Q I rx ry h;obtain⟨a,b,xs,ys,rfl,rfl,ha,hb,hx,hz,q1,q2⟩:=h
 cases rx
 cases ry
 obtain⟨its,r1,p1,_⟩:=I.tuple ha;obtain⟨its2,r2,p2,_⟩:=I.tuple hb;refine HT.cat_tup p1 p2 (fun z=>hx (r1.nil_iff.mp z)) (fun z=>⟨.ref a,H,I,rfl,q1 (r2.nil_iff.mp z)⟩) (fun z=>?_) (by rw[<- r1.length,<- r2.length];exact hz)
 refine⟨.ref s.heap.objs.size,_,I.laid (t':=s.toks) (o:=.tup (xs++ys)) (fun b ob q=>Heap.get?_push_of_some _ q) (Nat.le_refl _) ?_,rfl,q2 (fun w=>z (r2.nil_iff.mpr w)) _ (I.hok.fresh (Nat.le_refl _))⟩;exact⟨⟨by rw[List.length_append];exact hz,NoD.new _ _ _⟩,_,r1.append r2,IsTup.new _ _⟩
end
end L2
namespace L2
open PySem PySem.Spec PyProof.Rows
def fS(n:Nat)(i:Int):Option Nat:=if 0<=i then (if i<n then some i.toNat else none) else if -(n:Int)<=i then some (i+n).toNat else none
def cD{α:Type}(xs:List α)(i:Int):Option α:=(fS xs.length i).bind fun j=>xs[j]?
theorem Xn{n:Nat}{i:Int}{j:Nat}(h:fS n i=some j):seqIndex? i n=some j/\j<n/\-(n:Int)<=i/\i<n:=by
 unfold fS at h
 by_cases h0:0<=i
 ·rw[if_pos h0]at h
  by_cases h1:i<n
  ·rw[if_pos h1]at h;have e:i.toNat=j:=Option.some.inj h
   exact⟨by rw[seqIndex_of h0 h1,e],by omega,by omega,h1⟩
  ·rw[if_neg h1]at h;cases h
 ·rw[if_neg h0]at h
  by_cases h1:-(n:Int)<=i
  ·rw[if_pos h1]at h;have e:(i+n).toNat=j:=Option.some.inj h
   exact⟨by rw[seqIndex_neg (by omega) h1,e],by omega,h1,by omega⟩
  ·rw[if_neg h1]at h;cases h
theorem Fj{α:Type}{xs:List α}{i:Int}{v:α}(h:cD xs i=some v):∃ j,seqIndex? i xs.length=some j/\xs[j]?=some v/\j<xs.length/\-(xs.length:Int)<=i/\i<xs.length:=by
 unfold cD at h
 cases e:fS xs.length i with
 | none=>rw[e]at h;cases h
 | some j =>
  rw[e]at h;obtain⟨h1,h2,h3,h4⟩:=Xn e;exact⟨j,h1,h,h2,h3,h4⟩
theorem zF{α:Type}{xs:List α}{j:Nat}{v:α}(h:xs[j]?=some v):cD xs (j:Int)=some v:=by
 have hj:j<xs.length:=(List.getElem?_eq_some_iff.mp h).1
 have e:fS xs.length (j:Int)=some j:=by
  unfold fS;rw[if_pos (by omega),if_pos (by omega)];simp
 unfold cD;rw[e];exact h
def zK(b:Expr):Prop:=∀ o i,subscripted b false o i=operate [o,i] (getItem o i)
def IxR(X:Cx)(r:R2):Prop :=
 ∀ (value slice:Expr) (pins:List (Addr×Obj)) (s:Shared) (σ:St) (H:Hp) (x y:V) (v u:Value) (Q:VK),Inv X pins σ H s->RelV x v->RelV y u->r x y H Q ->
  subscripted slice false v u=operate [v,u] (getItem v u)->wpAny (model X.prog X.w) X.A (subscriptTail value slice v u) (EP X pins σ Q) X.xe s
def MtR(X:Cx)(id:String)(r:V->List V->Hp->VK->Prop):Prop :=
 ∀ (pins:List (Addr×Obj)) (s:Shared) (σ:St) (H:Hp) (x:V) (xs:List V) (v:Value) (us:List Value) (Q:VK),Inv X pins σ H s->RelV x v->Vals xs us->r x xs H Q ->
  wpAny (model X.prog X.w) X.A (call (.builtin id) (v::us)) (EP X pins σ Q) X.xe s
section
variable {X:Cx}{a b:Expr}{ta tb:TE}{pos:Pos}
theorem IxR.or{r r':R2}(h:IxR X r)(h':IxR X r'):IxR X (fun x y H Q=>r x y H Q\/r' x y H Q):=by
 intro value slice pins s σ H x y v u Q I rx ry q hs;rcases q with q | q
 ·exact h value slice pins s σ H x y v u Q I rx ry q hs
 ·exact h' value slice pins s σ H x y v u Q I rx ry q hs
theorem MtR.or{id:String}{r r':V->List V->Hp->VK->Prop}(h:MtR X id r)(h':MtR X id r'):MtR X id (fun x xs H Q=>r x xs H Q\/r' x xs H Q):=by
 intro pins s σ H x xs v us Q I rx rs q;rcases q with q | q
 ·exact h pins s σ H x xs v us Q I rx rs q
 ·exact h' pins s σ H x xs v us Q I rx rs q
theorem x5{r:R2}(hr:IxR X r)(ha:PE X a ta)(hb:PE X b tb)(hs:zK b):PE X (.Subscript a b pos) (Zx r ta tb):=by
 intro pins s σ H Q I h;exact Subscript_ (Od ha hb I h fun v u s2 x y H2 I2 rx ry q=>hr a b pins s2 σ H2 x y v u Q I2 rx ry q (hs _ _))
def Oe(K:PySem.W.Frag):R2:=fun x y H Q=>∃ p xs i v,x=.ref p/\y=.int i/\SqL K H p xs/\cD xs i=some v/\Q v H
def Hi(K:PySem.W.Frag):R2:=fun x y H Q=>∃ p xs i v,x=.ref p/\y=.int i/\SqT K H p xs/\cD xs i=some v/\Q v H
def La:R2:=fun x y H Q=>∃ z i c,x=.str z/\y=.int i/\z.length<=sizeLine/\cD z.cps.toList i=some c/\Q (.str ⟨#[c]⟩) H
theorem J9:IxR X (Oe X.K):=by
 intro value slice pins s σ H x y v u Q I rx ry h hs;obtain⟨p,xs,i,z,rfl,rfl,hq,he,q⟩:=h
 cases rx
 obtain⟨t,rfl⟩:=ry;obtain⟨its,r,pl,hz⟩:=I.list hq;obtain⟨j,h1,h2,h3,h4,h5⟩:=Fj he;obtain⟨w,ew,rw'⟩:=r.get h2;have hl:=r.length
 have hn:=kS
 have fin:EP X pins σ Q w s:=⟨z,H,I,rw',q⟩
 by_cases h0:0<=i
 ·have hj:i.toNat=j:=by
   rw[seqIndex_of h0 h5]at h1;exact Option.some.inj h1
  exact item_listR pl.isList h0 (by omega) (by rw[hj];simpa using ew) fin hs
 ·have hj:(i+(its.toArray.size:Int)).toNat=j:=by
   rw[seqIndex_neg (by omega) h4]at h1
   rw[List.size_toArray,<- hl];exact Option.some.inj h1
  exact subscriptTail_builtinR (x:=w) pl.isList.typeIs slot_list_getitem.lookup
   (wpAny_getItem_list_neg (Q:=fun r s'=>r=w/\EP X pins σ Q r s') pl.isList (by omega) (by rw[List.size_toArray]<;>omega) (by omega) (by rw[hj];simpa using ew) ⟨rfl,fin⟩) hs
theorem Um:IxR X (Hi X.K):=by
 intro value slice pins s σ H x y v u Q I rx ry h hs;obtain⟨p,xs,i,z,rfl,rfl,hq,he,q⟩:=h
 cases rx
 obtain⟨t,rfl⟩:=ry;obtain⟨its,r,pl,hz⟩:=I.tuple hq;obtain⟨j,h1,h2,h3,h4,h5⟩:=Fj he;obtain⟨w,ew,rw'⟩:=r.get h2;have hl:=r.length
 have hn:=kS
 have fin:EP X pins σ Q w s:=⟨z,H,I,rw',q⟩
 exact subscriptTail_builtinR (x:=w) pl.typeIs slot_tuple_getitem.lookup
  (getItem_tuple (j:=j) (Q:=fun r s'=>r=w/\EP X pins σ Q r s') pl (by omega) (by omega) (by rw[List.size_toArray,<- hl];exact h1) (by simpa using ew) ⟨rfl,fin⟩) hs
theorem Z4:IxR X La:=by
 intro value slice pins s σ H x y v u Q I rx ry h hs;obtain⟨z,i,c,rfl,rfl,hz,he,q⟩:=h;obtain⟨t,rfl⟩:=rx;obtain⟨t',rfl⟩:=ry;obtain⟨j,h1,h2,h3,h4,h5⟩:=Fj he;have hl:z.cps.toList.length=z.length:=by simp[Str.length]
 rw[hl]at h1 h4 h5;have hn:=kS
 exact tail_any (typeIs_str s z t) slot_str_getitem.lookup (getItem_str (c:=c) (by
  have e1:decide (i < -(2^63:Int))=false:=decide_eq_false (by omega)
  have e2:decide (i ≥ 2^63)=false:=decide_eq_false (by omega)
  rw[e1,e2,Bool.or_false]) (by rw[h1];simpa using h2) ⟨.str ⟨#[c]⟩,H,I.tok _,⟨_,rfl⟩,q⟩) hs
def R8(K:PySem.W.Frag):R2:=fun x y H Q=>Oe K x y H Q\/Hi K x y H Q\/La x y H Q
theorem BQ:IxR X (R8 X.K):=J9.or (Um.or Z4)
theorem Inv.lst{pins:List (Addr×Obj)}{σ:St}{H:Hp}{s:Shared}{p:Addr}{xs:List V}(I:Inv X pins σ H s)(h:H p=some (.lst xs)) :
  ∃ (its:List Value) (n:Nat),Vals xs its/\s.heap.get? p=some {cls:=.type "list",data:=.seq its.toArray n}/\xs.length<=sizeLine:=by
 obtain⟨z,its,n,r,e⟩:=I.hok p _ h;exact⟨its,n,r,e,z⟩
theorem Q7(lo hi:Option Int)(n:Nat):(sliceBounds lo hi none n).1=((HT.sIx n 0 lo:Nat):Int)/\(sliceBounds lo hi none n).2.1=((HT.sIx n n hi:Nat):Int)/\(sliceBounds lo hi none n).2.2=1:=by
 refine⟨?_,?_,rfl⟩
 ·cases lo with
  | none=>simp[sliceBounds,HT.sIx]
  | some i =>
   simp only[sliceBounds,HT.sIx,Option.getD_none,show(1:Int) > 0 by decide,if_true]
   by_cases h:i<0
   ·simp only[h,if_true]<;>omega
   ·simp only[h,if_false]<;>omega
 ·cases hi with
  | none=>simp[sliceBounds,HT.sIx]
  | some i =>
   simp only[sliceBounds,HT.sIx,Option.getD_none,show(1:Int) > 0 by decide,if_true]
   by_cases h:i<0
   ·simp only[h,if_true]<;>omega
   ·simp only[h,if_false]<;>omega
theorem Qp(its:List Value)(lo hi:Option Int):slicePick its.toArray lo hi none=((its.drop (HT.sIx its.length 0 lo)).take (HT.sIx its.length its.length hi-HT.sIx its.length 0 lo)).toArray:=by
 obtain⟨h1,h2,h3⟩:=Q7 lo hi its.toArray.size;unfold slicePick;rw[h1,h2,h3];simp only[sliceRange_one,pick_run,List.size_toArray]<;>rfl
def Ze(K:PySem.W.Frag):V->Option Int->Option Int->Hp->VK->Prop:=fun x lo hi H Q=>∃ a xs,x=.ref a/\SqL K H a xs/\∀ p,H p=none->Q (.ref p) (aE H p (.lst (iD xs lo hi)))
theorem Oz:SlR X (Ze X.K):=by
 intro pins s σ H x v vl vu lo hi sl Q I rx hs pl pu h;obtain⟨a,xs,rfl,hx,q⟩:=h
 cases rx
 obtain⟨its,r,ht,hz⟩:=I.list hx;have hlen:=r.length
 refine⟨"list",_,slot_list_getitem.lookup,ht.isList.typeIs,?_⟩;refine wpAny_getItem_list_slice ht.isList hs pl pu .none (by simp) ?_ (by rw[List.size_toArray]<;>omega)
 rw[Qp,<- hlen];refine⟨.ref s.heap.objs.size,_,I.laid (t':=s.toks) (o:=.lst (iD xs lo hi)) (fun b ob q=>Heap.get?_push_of_some _ q) (Nat.le_refl _) ?_,rfl,q _ (I.hok.fresh (Nat.le_refl _))⟩;exact⟨Nat.le_trans (Im xs lo hi) hz,_,0,(r.drop (HT.sIx xs.length 0 lo)).take (HT.sIx xs.length xs.length hi-HT.sIx xs.length 0 lo),Heap.get?_push_size _ rfl⟩
def fG:V->Bool
 | .non=>true
 | .bl _=>true
 | .int _=>true
 | .str _=>true
 | _=>false
def kI:V->V->Bool
 | .non,.non=>true
 | .bl a,.bl b=>a==b
 | .bl a,.int b=>(if a then 1 else 0)==b
 | .int a,.bl b=>a==(if b then 1 else 0)
 | .int a,.int b=>a==b
 | .str a,.str b=>a==b
 | _,_=>false
theorem C5{A:Around}{s:Shared}{y x:V}{u v:Value}(ry:RelV y u)(rx:RelV x v)(fy:fG y=true)(fx:fG x=true):SeqAt.EqAt A s u v (kI y x):=by
 cases y with
 | non =>
  cases ry
  cases x with
  | non=>cases rx;exact SeqAt.EqAt.same _
  | bl b=>cases rx;exact SeqAt.EqAt.none_bool b
  | int b=>obtain⟨t,rfl⟩:=rx;exact SeqAt.EqAt.none_int b t
  | str b=>obtain⟨t,rfl⟩:=rx;exact SeqAt.EqAt.none_str b t
  | _=>exact absurd (show false=true from fx) Bool.false_ne_true
 | bl a =>
  cases ry
  cases x with
  | non=>cases rx;exact SeqAt.EqAt.bool_none a
  | bl b=>cases rx;exact SeqAt.EqAt.bool_bool a b
  | int b=>obtain⟨t,rfl⟩:=rx;exact SeqAt.EqAt.bool_int a b t
  | str b=>obtain⟨t,rfl⟩:=rx;exact SeqAt.EqAt.bool_str a b t
  | _=>exact absurd (show false=true from fx) Bool.false_ne_true
 | int a =>
  obtain⟨t',rfl⟩:=ry
  cases x with
  | non=>cases rx;exact SeqAt.EqAt.int_none a t'
  | bl b=>cases rx;exact SeqAt.EqAt.int_bool a t' b
  | int b=>obtain⟨t,rfl⟩:=rx;exact SeqAt.EqAt.int_int a t' b t
  | str b=>obtain⟨t,rfl⟩:=rx;exact SeqAt.EqAt.int_str a t' b t
  | _=>exact absurd (show false=true from fx) Bool.false_ne_true
 | str a =>
  obtain⟨t',rfl⟩:=ry
  cases x with
  | non=>cases rx;exact SeqAt.EqAt.str_none a t'
  | bl b=>cases rx;exact SeqAt.EqAt.str_bool a t' b
  | int b=>obtain⟨t,rfl⟩:=rx;exact SeqAt.EqAt.str_int a t' b t
  | str b=>obtain⟨t,rfl⟩:=rx;exact SeqAt.EqAt.str_str a t' b t
  | _=>exact absurd (show false=true from fx) Bool.false_ne_true
 | _=>exact absurd (show false=true from fy) Bool.false_ne_true
def dL(x:V)(u:Value):Bool:=match u with
 | .none=>kI .non x
 | .bool b=>kI (.bl b) x
 | .int i _=>kI (.int i) x
 | .str z _=>kI (.str z) x
 | _=>false
theorem Hn{x y:V}{u:Value}(r:RelV y u)(f:fG y=true):dL x u=kI y x:=by
 cases y with
 | non=>cases r;rfl
 | bl b=>cases r;rfl
 | int i=>obtain⟨t,rfl⟩:=r;rfl
 | str z=>obtain⟨t,rfl⟩:=r;rfl
 | _=>exact absurd (show false=true from f) Bool.false_ne_true
theorem qS{x:V}:∀ {xs:List V} {us:List Value},Vals xs us->xs.all fG=true->us.any (dL x)=xs.any fun y=>kI y x
 | _,_,.nil,_=>rfl
 | y::xs,u::us,.cons r t,f=>by
  rw[List.all_cons,Bool.and_eq_true]at f;rw[List.any_cons,List.any_cons,Hn r f.1,qS t f.2]
theorem nZ{A:Around}{s:Shared}{x:V}{v:Value}(rx:RelV x v)(fx:fG x=true):∀ {xs:List V} {us:List Value},Vals xs us->xs.all fG=true->∀ u∈us,SeqAt.EqAt A s u v (dL x u)
 | _,_,.nil,_=>fun u hu=>by cases hu
 | y::xs,u::us,.cons r t,f=>fun u' hu=>by
  rw[List.all_cons,Bool.and_eq_true]at f;rcases List.mem_cons.mp hu with rfl | hu
  ·rw[Hn r f.1];exact C5 r rx f.1 fx
  ·exact nZ rx fx t f.2 u' hu
def jZ(x:V)(xs:List V):Bool:=xs.any fun y=>kI y x
def Hd(K:PySem.W.Frag)(neg:Bool):R2:=fun x y H Q=>∃ p xs,y=.ref p/\(SqL K H p xs\/SqT K H p xs)/\fG x=true/\xs.all fG=true/\Q (.bl (if neg then !jZ x xs else jZ x xs)) H
theorem oC:OpR X (compareOp .In) (Hd X.K false):=by
 intro pins s σ H x y v u Q I rx ry h;obtain⟨p,xs,rfl,hq,fx,fs,q⟩:=h
 cases ry
 rcases hq with hq | hq
 ·obtain⟨its,r,pl,hz⟩:=I.list hq;refine SeqAt.in_listAt (dL x) pl.isList (fun w hw=>nZ rx fx r fs w (by simpa using hw)) ⟨.bl _,H,I,rfl,?_⟩
  rw[show its.toArray.any (dL x)=its.any (dL x) by simp,qS r fs]
  exact q
 ·obtain⟨its,r,pl,hz⟩:=I.tuple hq;refine SeqAt.in_tupleAt (dL x) pl (fun w hw=>nZ rx fx r fs w (by simpa using hw)) ⟨.bl _,H,I,rfl,?_⟩
  rw[show its.toArray.any (dL x)=its.any (dL x) by simp,qS r fs]
  exact q
theorem qA:OpR X (compareOp .NotIn) (Hd X.K true):=by
 intro pins s σ H x y v u Q I rx ry h;obtain⟨p,xs,rfl,hq,fx,fs,q⟩:=h
 cases ry
 rcases hq with hq | hq
 ·obtain⟨its,r,pl,hz⟩:=I.list hq;refine SeqAt.notIn_listAt (dL x) pl.isList (fun w hw=>nZ rx fx r fs w (by simpa using hw)) ⟨.bl _,H,I,rfl,?_⟩
  rw[show its.toArray.any (dL x)=its.any (dL x) by simp,qS r fs]
  exact q
 ·obtain⟨its,r,pl,hz⟩:=I.tuple hq;refine SeqAt.notIn_tupleAt (dL x) pl (fun w hw=>nZ rx fx r fs w (by simpa using hw)) ⟨.bl _,H,I,rfl,?_⟩
  rw[show its.toArray.any (dL x)=its.any (dL x) by simp,qS r fs]
  exact q
theorem Bc:CallR X (.builtin "len") (fun xs H Q=>∃ p ys,xs=[.ref p]/\(SqL X.K H p ys\/SqT X.K H p ys)/\Q (.int ys.length) H):=by
 intro pins s σ H xs us Q I r h;obtain⟨p,ys,rfl,hq,q⟩:=h;obtain⟨u,rfl,rx⟩:=jL r
 cases rx
 have hn:=kS
 rcases hq with hq | hq
 ·obtain⟨its,r',pl,hz⟩:=I.list hq;have hlen:=r'.length
  exact Calls.call_len_list pl.isList (by simp only[List.size_toArray]<;>omega) ⟨.int ys.length,H,I.tok _,⟨s.toks+1,by rw[List.size_toArray,hlen]⟩,q⟩
 ·obtain⟨its,r',pl,hz⟩:=I.tuple hq;have hlen:=r'.length
  exact len_tuple pl (by simp only[List.size_toArray]<;>omega) ⟨.int ys.length,H,I.tok _,⟨s.toks+1,by rw[List.size_toArray,hlen]⟩,q⟩
theorem Xg:CallR X (.builtin "len") (fun xs H Q=>∃ z,xs=[.str z]/\z.length<=sizeLine/\Q (.int z.length) H):=by
 intro pins s σ H xs us Q I r h;obtain⟨z,rfl,hz,q⟩:=h;obtain⟨u,rfl,t,rfl⟩:=jL r;have hn:=kS
 exact len_str (by omega) ⟨.int z.length,H,I.tok _,⟨_,rfl⟩,q⟩
theorem CallR.or{f:Value}{r r':List V->Hp->VK->Prop}(h:CallR X f r)(h':CallR X f r'):CallR X f (fun xs H Q=>r xs H Q\/r' xs H Q):=by
 intro pins s σ H xs us Q I rs q;rcases q with q | q
 ·exact h pins s σ H xs us Q I rs q
 ·exact h' pins s σ H xs us Q I rs q
theorem Gg:CallR X (.type "list") (fun xs H Q=>∃ p ys,xs=[.ref p]/\(SqL X.K H p ys\/SqT X.K H p ys)/\∀ l,H l=none->Q (.ref l) (aE H l (.lst ys))):=by
 intro pins s σ H xs us Q I r h;obtain⟨p,ys,rfl,hq,q⟩:=h;obtain⟨u,rfl,rx⟩:=jL r
 cases rx
 have fin:∀ (its:List Value),Vals ys its->ys.length<=sizeLine->∀ (h':Heap) (c':Nat),(∀ b o',s.heap.get? b=some o'->h'.get? b=some o') ->
   h'.get? s.heap.objs.size=some {cls:=.type "list",dict:=none,data:=.seq its.toArray c',slots:=#[]}->EP X pins σ Q (.ref s.heap.objs.size) {s with heap:=h'}:=fun its r' hz h' c' kp e =>
  ⟨.ref s.heap.objs.size,_,I.laid (t':=s.toks) kp (Nat.le_refl _) (show ObjOk X.prog X.w _ h' _ (.lst ys) from⟨hz,its,c',r',e⟩),rfl,q _ (I.hok.fresh (Nat.le_refl _))⟩
 rcases hq with hq | hq
 ·obtain⟨its,r',pl,hz⟩:=I.list hq;have hlen:=r'.length
  obtain⟨o,ho,hc,n,hd⟩:=pl.isList;exact call_list_seq p (.inl rfl) ho hc hd (fun h' c' kp e=>fin its r' hz h' c' kp e) (by simp only[List.size_toArray]<;>omega)
 ·obtain⟨its,r',pl,hz⟩:=I.tuple hq;have hlen:=r'.length
  obtain⟨o,ho,hc,n,hd⟩:=pl;exact call_list_seq p (.inr rfl) ho hc hd (fun h' c' kp e=>fin its r' hz h' c' kp e) (by simp only[List.size_toArray]<;>omega)
theorem Dm:CallR X (.type "tuple") (fun xs H Q=>∃ p ys,xs=[.ref p]/\((SqL X.K H p ys/\∀ l,H l=none->Q (.ref l) (aE H l (.tup ys)))\/(SqT X.K H p ys/\Q (.ref p) H))):=by
 intro pins s σ H xs us Q I r h;obtain⟨p,ys,rfl,h⟩:=h;obtain⟨u,rfl,rx⟩:=jL r
 cases rx
 rcases h with⟨hq,q⟩ | ⟨hq,q⟩
 ·obtain⟨its,r',pl,hz⟩:=I.list hq;have hlen:=r'.length
  refine call_tuple_list pl.isList (fun h' kp=>?_) (by simp only[List.size_toArray]<;>omega)
  have I1:Inv X pins σ H {s with heap:=h'}:=I.kept (t':=s.toks) kp
  have I2:Inv X pins σ (aE H h'.objs.size (.tup ys)) {s with heap:=h'.push {cls:=.type "tuple",data:=.seq its.toArray}} :=
   I1.laid (t':=s.toks) (fun b o e=>Heap.get?_push_of_some _ e) (Nat.le_refl _) (show ObjOk X.prog X.w _ _ _ (.tup ys) from⟨⟨hz,NoD.new _ _ _⟩,its,r',IsTup.new _ _⟩)
  exact⟨.ref h'.objs.size,_,I2,rfl,q _ (I1.hok.fresh (Nat.le_refl _))⟩
 ·obtain⟨its,r',pl,hz⟩:=I.tuple hq;exact call_tuple_same pl ⟨.ref p,H,I,rfl,q⟩
def Mn(K:PySem.W.Frag)(T:String)(x:V)(H:Hp):Prop:=match x with
 | .str _=>T="str"
 | .int _=>T="int"
 | .ref p=>(T="list"/\∃ xs,SqL K H p xs)\/(T="tuple"/\∃ o,K.lookup p=some o/\o.cls=.type "tuple"/\o.dict=none) \/
   (T="dict"/\((∃ kvs,H p=some (.dK kvs))\/∃ kvs,H p=some (.dT kvs)))\/(T="set"/\∃ S n,H p=some (.set S n))
 | _=>False
theorem Qm{pins:List (Addr×Obj)}{σ:St}{H:Hp}{s:Shared}{T:String}{x:V}{v:Value}(I:Inv X pins σ H s)(r:RelV x v)(ty:Mn X.K T x H) :
  s.TypeIs v T/\∀ a,v=.ref a->∃ ob,s.heap.get? a=some ob/\ob.dict=none:=by
 cases x with
 | str z =>
  obtain⟨t,rfl⟩:=r
  cases (show T="str" from ty)
  exact⟨typeIs_str s z t,fun _ e=>nomatch e⟩
 | int i =>
  obtain⟨t,rfl⟩:=r
  cases (show T="int" from ty)
  exact⟨typeIs_int s i t,fun _ e=>nomatch e⟩
 | ref p =>
  cases r
  rcases ty with⟨rfl,xs,hq⟩ | ⟨rfl,o,hk,hc,hd⟩ | ⟨rfl,hk⟩ | ⟨rfl,S,n,hk⟩
  ·obtain⟨its,_,pl,_⟩:=I.list hq;refine⟨pl.isList.typeIs,fun a e=>?_⟩
   cases e
   obtain⟨o,n,e,c,hd,_⟩:=pl;exact⟨o,e,hd⟩
  ·refine⟨⟨o,I.kIn p o hk,hc⟩,fun a e=>?_⟩
   cases e
   exact⟨o,I.kIn _ o hk,hd⟩
  ·have z:∃ o,s.heap.get? p=some o/\o.ExactDict:=by
    rcases hk with⟨kvs,hk⟩ | ⟨kvs,hk⟩
    ·obtain⟨_,_,_,_,o,_,_,e,ex,_⟩:=I.hok p _ hk;exact⟨o,e,ex⟩
    ·obtain⟨_,_,_,_,o,_,_,e,ex,_⟩:=I.hok p _ hk;exact⟨o,e,ex⟩
   obtain⟨o,e,ex⟩:=z;refine⟨⟨o,e,ex.1⟩,fun a e2=>?_⟩
   cases e2
   exact⟨o,e,ex.2.1⟩
  ·obtain⟨o,_,_,_,e,ex,_⟩:=I.hok p _ hk;refine⟨⟨o,e,ex.1⟩,fun a e2=>?_⟩
   cases e2
   exact⟨o,e,ex.2.1⟩
 | _=>exact False.elim ty
def f9(K:PySem.W.Frag)(T:String)(r:V->List V->Hp->VK->Prop)(to:TE)(t:TA):TE:=fun σ H Q=>to σ H fun x H1=>Mn K T x H1/\t σ H1 fun xs H2=>r x xs H2 Q
variable {o e:Expr}{es:List Expr}{to:TE}{t:TA}{name:Str}{apos cpos:Pos}{T id:String}{r:V->List V->Hp->VK->Prop}
theorem Q5(pa:PlainAttrs T)(slot:Slot T name id)(hty:typeOf (.builtin id)=pure (.type "method_descriptor"))(hm:MtR X id r)(ho:PE X o to)(ha:PA X (e::es) t)
  (hbase:attributeBase o name X.env (eval o X.env)=eval o X.env:=by rfl)
  (hfew:((backTo cpos (starEach (e::es) X.env)).all (fun x=>!x.1)&&(backToKw cpos (keywordEach [] X.env)).all (fun x=>x.1.isSome)
   && decide ((e::es).length+([]:List Keyword).length+(if ([]:List Keyword).isEmpty then 0 else 1)<30))=true:=by rfl)
  (hline:(apos.endLine==cpos.line)=true:=by rfl) (hs:starEach (e::es) X.env=(false,eval e X.env)::starEach es X.env:=by rfl) (hplain:(backTo cpos (starEach es X.env)).any (·.1)=false:=by rfl) :
  PE X (.Call (.Attribute o name apos) (e::es) [] cpos) (f9 X.K T r to t):=by
 intro pins s σ H Q I h;refine wpAny_Call_method_late hbase hfew hline rfl (aI (ho pins s σ H _ I h) fun v s1 ⟨x,H1,I1,r1,ty,q1⟩=>?_);obtain⟨h1,h2⟩:=Qm I1 r1 ty;refine⟨T,id,pa,slot,hty,h1,h2,?_⟩;have hA:=ha cpos pins s1 σ H1 _ I1 q1
 rw[hs]at hA ⊢;refine Calls.callWith_builtin (by show(false||(backTo cpos (starEach es X.env)).any (·.1))=false;rw[hplain]<;>rfl) (Calls.evalArgs_plain ?_)
 exact aI hA fun us s2 ⟨vs,H2,I2,r2,q2⟩=>hm pins s2 σ H2 x vs v us Q I2 r1 r2 q2
end
end L2
namespace L2
open PySem PySem.Spec PyProof.Rows
def Qh(X:Cx)(id:String)(r:V->List V->Hp->VK->Prop):Prop :=
 ∀ (pins:List (Addr×Obj)) (s:Shared) (σ:St) (H:Hp) (x:V) (xs:List V) (v:Value) (us:List Value) (Q:VK),Inv X pins σ H s->RelV x v->Vals xs us->r x xs H Q ->
  wpAny (model X.prog X.w) X.A (call (.builtin id) (v::us)) (EP X pins σ Q) X.xe s
theorem Vals.one:∀ {x:V} {us:List Value},Vals [x] us->∃ u,us=[u]/\RelV x u
 | _,_,.cons r .nil=>⟨_,rfl,r⟩
theorem Vals.two:∀ {x y:V} {us:List Value},Vals [x,y] us->∃ u v,us=[u,v]/\RelV x u/\RelV y v
 | _,_,_,.cons r (.cons q .nil)=>⟨_,_,rfl,r,q⟩
theorem Vals.zero:∀ {us:List Value},Vals [] us->us=[]
 | _,.nil=>rfl
theorem Vals.eraseIdx:∀ {xs:List V} {us:List Value} (i:Nat),Vals xs us->Vals (xs.eraseIdx i) (us.eraseIdx i)
 | _,_,_,.nil=>.nil
 | _,_,0,.cons _ t=>t
 | _,_,i+1,.cons r t=>.cons r (Vals.eraseIdx i t)
theorem Vals.reverse{xs:List V}{us:List Value}(h:Vals xs us):Vals xs.reverse us.reverse:=by
 induction h with
 | nil=>exact .nil
 | cons r t ih=>rw[List.reverse_cons,List.reverse_cons];exact Vals.append ih (.cons r .nil)
theorem Vals.rep{xs:List V}{us:List Value}(h:Vals xs us):∀ k:Nat,Vals (List.replicate k xs).flatten (List.replicate k us).flatten
 | 0=>.nil
 | k+1=>by
  rw[List.replicate_succ,List.replicate_succ,List.flatten_cons,List.flatten_cons];exact Vals.append h (Vals.rep h k)
section
variable {X:Cx}{pins:List (Addr×Obj)}{σ:St}{H:Hp}{s:Shared}{l b:Addr}{xs ys zs:List V}
theorem Inv.lset{its its':List Value}{n:Nat}{f:Array Value->Array Value}{t':Nat}(I:Inv X pins σ H s)(hH:H l=some (.lst xs))
  (e:s.heap.get? l=some {cls:=.type "list",data:=.seq its.toArray n}) (hf:f its.toArray=its'.toArray) (hv:Vals ys its') (hz:ys.length<=sizeLine) :
  Inv X pins σ (aE H l (.lst ys)) {s with heap:=s.heap.update l (Obj.mapSeq f),toks:=t'}:=by
 have q:=PySem.IsL.update e f
 rw[hf]at q;refine I.write (x:=l) (e:=l) (by rw[hH];exact trivial) (.inl rfl) (fun b' u hb hu=>(Heap.get?_update_other s.heap (Obj.mapSeq f) (Ne.symm hb)).trans hu) ⟨_,q⟩ ?_
 exact⟨hz,its',_,hv,q⟩
theorem Inv.fresh(I:Inv X pins σ H s):H s.heap.objs.size=none:=I.hok.fresh (Nat.le_refl _)
theorem Inv.lstM(I:Inv X pins σ H s)(hH:H l=some (.lst xs)):xs.length<=sizeLine/\∃ (its:List Value) (n:Nat),Vals xs its/\xs.length=its.length/\s.heap.get? l=some {cls:=.type "list",data:=.seq its.toArray n}:=by
 obtain⟨z,its,n,r,e⟩:=I.hok l _ hH;exact⟨z,its,n,r,r.length,e⟩
end
section
variable {X:Cx}
def M7:V->List V->Hp->VK->Prop:=fun x vs H Q=>∃ l xs y,x=.ref l/\vs=[y]/\H l=some (.lst xs)/\xs.length<sizeLine/\Q .non (aE H l (.lst (xs++[y])))
theorem Ha:Qh X "list.append" M7:=by
 intro pins s σ H x vs v us Q I rx rv h;obtain⟨l,xs,y,rfl,rfl,hH,hz,q⟩:=h
 cases rx
 obtain⟨u,rfl,ru⟩:=rv.one;obtain⟨z,its,n,r,hl,e⟩:=I.lstM hH;refine call_meets F.slot_list_append ⟨_,e,rfl⟩ F.entry_list_append (F.args_list_append_2 _ _) (PySem.list_append l its.toArray n u (by rw[List.size_toArray];omega)) ⟨e,?_⟩
 refine⟨.non,_,I.lset (its':=its++[u]) hH e (by simp) (r.append (.cons ru .nil)) ?_,rfl,q⟩
 rw[List.length_append,List.length_singleton];omega
end
end L2
namespace Att
open PySem PySem.W PySem.Calls PyProof.Rows
theorem V0{P:Params}{h:Heap}:∀ (ns:List Int) (vs:List Value),WellAll P h vs (ns.map WData.int)->IntsAre vs ns:=by
 intro ns
 induction ns with
 | nil =>
  intro vs w;rw[List.map_nil]at w
  cases w
  exact .nil
 | cons n ns ih =>
  intro vs w;rw[List.map_cons]at w
  cases w with
  | cons a b =>
   cases a
   exact .cons _ _ (ih _ b)
theorem Yu{l:OpenLaw}{n:Nat}(hn:l.most=some n){P:Params}{h:Heap}{args:List WData}{vals:List Value}
  (hpre:l.row.toRowW.claim.pre args=true) (hwl:WellAll P h vals args) :
  ∃ a vs ns,vals=[Value.ref a]/\args=[WData.list (ns.map WData.int)]/\h.get? a=some {cls:=.type "list",data:=.seq vs.toArray}/\IntsAre vs ns/\ns.length<=n:=by
 have hsh:WShape.hasAll [] args [.list .int]=true:=(pre_splitW hpre).1
 have hc:l.pre.holds [] {args:=args}=true:=(pre_splitW hpre).2
 obtain⟨d,r,rfl,h1,h2⟩:=hasAllW_cons hsh;obtain rfl:=hasAllW_nil h2;obtain⟨xs,rfl,h3⟩:=hasW_list h1;obtain⟨ns,rfl⟩:=items_int h3;have hlen:ns.length<=n:=by
  unfold OpenLaw.pre at hc;have h4:(WTm.not (.lt (.lit (.int (n:Int))) (.len (.arg 0)))).holds [] {args:=[.list (ns.map .int)]}=true:=by
   have h4:=(holds_andW hc).1
   rw[hn]at h4;exact h4
  have h5:=condW_of h4 (w_not (w_lt w_lit (w_len_list (w_arg rfl))))
  rw[List.length_map]at h5;refine Nat.le_of_not_lt fun q=>?_;have q':(n:Int)<((ns.length:Nat):Int):=by omega
  first
   | (rw[decide_eq_true q']at h5;exact absurd h5 (by decide))
   | (simp at h5;omega)
 cases hwl with
 | cons w1 w2 =>
  cases w2
  cases w1 with
  | list ho hall=>exact⟨_,_,ns,rfl,rfl,ho,V0 ns _ hall,hlen⟩
theorem O6(l:OpenLaw)(args:List WData):l.row.toRowW.claim.post args (.bool true) args=true :=
 postW_of (r:=l.row.toRowW) (X:=(true==true))
  (show WShape.has [] (.bool true) .bool=true by first | rfl | decide | simp[WShape.has,WShape.arms,WShape.armsAll])
  (show(WTm.eq .res (.lit (.bool true))).value [] {args:=args,res:=some (.bool true),after:=args}=some (.bool (true==true)) from w_eq_bool (w_res rfl) w_lit) rfl
theorem attach_call{l:OpenLaw}{n:Nat}{q:Program}{loose:List Str}{XP:(Str->Option Value)->Heap->Prop}{YP:World->Heap->Prop}{d:DefRec}
  (hn:l.most=some n) (hdf:d.params.defaults=[])
  (call:∀ (w:World) (s₀ s₁:Shared) (mg mb:Str->Option Value) (fa:Addr) (o:Obj) (pm cd doc:Value) (a:Addr) (vs:List Value) (ns:List Int),
   Ground q loose [] XP w s₀ mg mb s₁.heap->YP w s₁.heap ->
   s₁.heap.get? fa=some o->o.data=.func (docDef d.name d.params d.body d.scope pm cd doc)->s₁.heap.CodeRec cd d.name->mg d.name=some (.ref fa) ->
   s₁.heap.get? a=some {cls:=.type "list",data:=.seq vs.toArray}->IntsAre vs ns->ns.length<=n->s₁.gens=#[] ->
   codeAny (model l.prog w) callerA (.call (.ref fa) ⟨[.ref a],[]⟩) (fun r s'=>r=.ok (.ret (.bool true))/\OldK s₁.heap s'.heap/\s'.os=s₁.os/\AllBare s'.gens) s₁) :
  WalkO q loose XP YP l.row.toRowW d [] (fun f vs=>PySem.call f vs):=by
 intro w s₀ s₁ mg mb G Y fa o pm cd doc dV kV ho hd hcd hD hmg hg args vals as hpre hlay hrd hwl hlo;obtain rfl:dV=.none:=Dflts.none hD hdf;obtain rfl:kV=.none:=Dflts.noKw hD;obtain⟨a,vs,ns,rfl,rfl,hobj,hints,hlen⟩:=Yu hn hpre hwl;refine enter_call (codeAny_mono (call w s₀ s₁ mg mb fa o pm cd doc a vs ns G Y ho (fd_plain hd) hcd hmg hobj hints hlen hg) fun r s' hq=>?_);obtain⟨rfl,h2,h3,h4⟩:=hq;exact⟨.inl ⟨.bool true,.bool true,[],rfl,fun _=>rfl,.bool true,O6 l _,fun _=>⟨List.Pairwise.nil,fun _ hm=>(nomatch hm)⟩⟩,h2,h3,h4⟩
end Att
namespace L2
open PySem PySem.Spec PyProof.Rows
theorem qX:∀ {vs:List Value} {ns:List Int},IntsAre vs ns->Vals (ns.map V.int) vs
 | _,_,.nil=>.nil
 | _,_,.cons n t h=>.cons ⟨t,rfl⟩ (qX h)
def Dw(H:Hp):Prop:=∀ b,H b=none\/∃ o xs,H b=some (.frz o (.lst xs))
theorem Td{P:Program}{w:World}{K:PySem.W.Frag}{mg mb:Str->Option Value}{CX:fQ}{k:Nat}{fa a:Addr}{fd:FuncData}{x:Str}{sp:Sp}{s₁:Shared}{vs:List Value}{ns:List Int}
  (KX:K.In s₁.heap) (hns:s₁.heap.Ns mainGlobals mg) (hb:s₁.heap.Ns builtinsNs mb) (hbb:∀ x:Str,x≠"__name__"->mb x=bootBuiltins x) (hlim:s₁.heap.NoLimit) (hg:s₁.gens=#[])
  (ha:s₁.heap.get? a=some {cls:=.type "list",data:=.seq vs.toArray}) (hi:IntsAre vs ns) (hl:ns.length<=sizeLine) (hr:Room k callerA)
  (F:∀ base:Heap,K.In base->base.Ns mainGlobals mg->FnOk P w K mg base CX k fa fd [x] sp) (hbind:∀ (s:Shared) (u:Value),BindsTo s fd ⟨[u],[]⟩ [(x,u)])
  (hsp:∀ H:Hp,Dw H->SqL K H a (ns.map V.int)->sp [.ref a] H (fun v _=>v=.bl true) fun _ _ _=>False)
  (hCX:∀ H e s',CX [] H s₁ (fun _ _ _=>False) e s'->False) :
  codeAny (model P w) callerA (.call (.ref fa) ⟨[.ref a],[]⟩) (fun r s'=>r=.ok (.ret (.bool true))/\OldK s₁.heap s'.heap/\s'.os=s₁.os/\AllBare s'.gens) s₁:=by
 have rv:=qX hi
 have lenV:=hi.length
 -- from an abstract heap in which nothing but the script may be tracked
 have core:∀ H:Hp,Dw H->SqL K H a (ns.map V.int)->HOk P w H s₁.heap->(∀ b,H b≠none->b=a)->(H a≠none->K.lookup a=none) ->
   codeAny (model P w) callerA (.call (.ref fa) ⟨[.ref a],[]⟩) (fun r s'=>r=.ok (.ret (.bool true))/\OldK s₁.heap s'.heap/\s'.os=s₁.os/\AllBare s'.gens) s₁:=by
  intro H hO hS hok hA hK;have base_of:∀ {b:Addr} {o:Obj},s₁.heap.get? b=some o->H b=none->(jX s₁.heap H).get? b=some o:=fun e n=>BG e n
  have noA:∀ {b:Addr} {o:Obj} {es:Array DictEntry} {ep:Nat},s₁.heap.get? b=some o->o.data=.dict es ep->H b=none:=fun {b o es ep} e d=>by
   cases q:H b with
   | none=>rfl
   | some u =>
    have e':b=a:=hA b (by rw[q];simp)
    subst e';rw[ha]at e;cases e;have d':Data.seq vs.toArray _=Data.dict es ep:=d
    cases d'
  have nsK:∀ {b:Addr} {m:Str->Option Value},s₁.heap.Ns b m->(jX s₁.heap H).Ns b m:=fun {b m} ⟨o,es,ep,e,d,r⟩=>⟨o,es,ep,base_of e (noA e d),d,r⟩
  have hKb:K.In (jX s₁.heap H):=fun b o e=>base_of (KX b o e) (by
   cases q:H b with
   | none=>rfl
   | some u =>
    have e':b=a:=hA b (by rw[q];simp)
    subst e';rw[hK (by rw[q];simp)]at e;cases e)
  have hM:Mod K mg (jX s₁.heap H):=⟨hKb,nsK hns,⟨mb,nsK hb,hbb⟩,let ⟨mc,h1,h2⟩:=hlim;⟨mc,nsK h1,h2⟩⟩
  have e0:Env0 P w K mg (jX s₁.heap H) callerA [] s₁ H:=⟨rfl,hM,fun b o e=>BH e,Nat.le_of_eq (Ph _ _),trivial,fun b hb=>absurd (show b∈([]:List Addr) from hb) (by simp),hok,.of_eq hg⟩
  refine codeAny_mono ((F _ hKb (nsK hns)).run callerA [] s₁ H ⟨[.ref a],[]⟩ [.ref a] [.ref a] _ _ hr e0 (hbind s₁ (.ref a)) (.cons rfl .nil) (hsp H hO hS)) fun r s' h=>?_
  cases r with
  | error e=>exact(hCX H e s' h).elim
  | ok fl =>
   cases fl with
   | next=>exact False.elim h
   | brk=>exact False.elim h
   | cont=>exact False.elim h
   | ret u =>
    obtain⟨v,H',os,bare,un,hok',r',q⟩:=h;have q':v=.bl true:=q
    subst q';obtain rfl:u=Value.bool true:=r';refine⟨rfl,OldK.of_keep fun b o e=>?_,os,bare⟩
    cases q:H b with
    | none=>exact un.keep b o e q (by intro z;exact absurd (show b∈([]:List Addr) from z) (by simp)) (by simp)
    | some u =>
     rcases hO b with z | ⟨ob,xs,z⟩
     ·rw[q]at z;cases z
     ·have z2:=un.frzs b ob _ z
      obtain⟨e1,_⟩:=hok b _ z;obtain⟨e2,_⟩:=hok' b _ z2;rw[e]at e1;cases e1;exact e2
 cases hk:K.lookup a with
 | some o =>
  -- the script is one of the module's own objects
  have e:=KX a o hk
  rw[ha]at e
  cases e
  refine core (fun _=>none) (fun _=>.inl rfl) (.inr ⟨_,vs.toArray,_,hk,rfl,rfl,rfl,by rw[List.size_toArray,lenV];exact hl,by simpa using rv⟩) (fun b u z=>by have z':(none:Option HO)=some u:=z;cases z') (fun b z=>absurd rfl z) fun z=>absurd rfl z
 | none =>
  refine core (fun b=>if b=a then some (.frz {cls:=.type "list",data:=.seq vs.toArray} (.lst (ns.map V.int))) else none) (fun b=>?_) (.inl (.inr ⟨{cls:=.type "list",data:=.seq vs.toArray},if_pos rfl⟩)) (fun b u z=>?_) (fun b z=>?_) fun _=>hk
  ·by_cases hb:b=a
   ·exact .inr ⟨_,_,if_pos hb⟩
   ·exact .inl (if_neg hb)
  ·by_cases hb:b=a
   ·have z':=(if_pos hb).symm.trans z
    cases z'
    subst hb;exact⟨ha,by rw[List.length_map];exact hl,vs,_,rv,ha⟩
   ·have z':=(if_neg hb).symm.trans z
    cases z'
  ·by_cases hb:b=a
   ·exact hb
   ·exact absurd (if_neg hb) z
end L2
namespace L2
open PySem PySem.Spec PyProof.Rows
theorem walk_of{l:PySem.W.OpenLaw}{n k:Nat}{q:Program}{loose:List Str}{XP:(Str->Option Value)->Heap->Prop}{YP:World->Heap->Prop}{d:DefRec}{K:Params->PySem.W.Frag}{CX:World->fQ}{sp:World->Sp}{x:Str}
  (hn:l.most=some n) (hn2:n<=sizeLine) (hdf:d.params.defaults=[]) (hr:Room k callerA)
  (hY:∀ (w:World) (h:Heap),YP w h->(K w.params).In h)
  (F:∀ (w:World) (mg:Str->Option Value) (fa:Addr) (h:Heap),(K w.params).In h->h.Ns mainGlobals mg->mg d.name=some (.ref fa) ->
   ∃ fd:FuncData,(∀ (s:Shared) (u:Value),BindsTo s fd ⟨[u],[]⟩ [(x,u)]) /\
    ∀ base:Heap,(K w.params).In base->base.Ns mainGlobals mg->FnOk l.prog w (K w.params) mg base (CX w) k fa fd [x] (sp w))
  (hsp:∀ (w:World) (H:Hp) (a:Addr) (ns:List Int),ns.length<=n->Dw H->SqL (K w.params) H a (ns.map V.int)->sp w [.ref a] H (fun v _=>v=.bl true) fun _ _ _=>False)
  (hCX:∀ (w:World) (H:Hp) (s:Shared) (e:Value) (s':Shared),CX w [] H s (fun _ _ _=>False) e s'->False) :
  PySem.W.WalkO q loose XP YP l.row.toRowW d [] (fun f vs=>PySem.call f vs):=by
 refine Att.attach_call hn hdf fun w s₀ s₁ mg mb fa o pm cd doc a vs ns G Y ho hd hcd hmg hobj hints hlen hg=>?_;have KX:=hY w _ Y
 obtain⟨fd,hb,hF⟩:=F w mg fa _ KX G.T.g hmg;exact Td KX G.T.g G.T.b G.T.builtins G.T.nolimit hg hobj hints (Nat.le_trans hlen hn2) hr hF hb (fun H hO hS=>hsp w H a ns hlen hO hS) fun H e s'=>hCX w H s₁ e s'
end L2
namespace L2
open PySem PySem.Spec PyProof.Rows
def Ei(s:Stmt)(j:Nat):Stmt:=match s with
 | .ClassDef _ _ _ body _ _ _ _ _ _ _=>body.getD j (.Pass ⟨0,0,0,0⟩)
 | _=>.Pass ⟨0,0,0,0⟩
def aZ(s:Stmt):Arguments:=match s with
 | .FunctionDef _ a _ _ _ _ _ _ _ _=>a
 | _=>{posonlyargs:=[],args:=[],vararg:=none,kwonlyargs:=[],kw_defaults:=[],kwarg:=none,defaults:=[]}
def aX(s:Stmt):List Stmt:=match s with
 | .FunctionDef _ _ b _ _ _ _ _ _ _=>b
 | _=>[]
def aO(s:Stmt):Scope:=match s with
 | .FunctionDef _ _ _ _ _ _ sc _ _ _=>sc
 | _=>{kind:=.function,names:=[],isGenerator:=false,isCoroutine:=false}
abbrev aP:fQ:=fun _ _ _ _ _ _=>False
abbrev E0:XK:=fun _ _ _=>False
theorem Ib{X:Cx}:uR aP X E0:=fun _ _ _ _ _ _ _ h=>h.elim
structure Fun (K:PySem.W.Frag) (x qual:Str) (st:Stmt) (f:Addr) (fd:FuncData):Prop where
 ex:∃ (oc:Value) (od:Option Addr) (kV doc pm:Value) (an:Option Addr) (cdv ct:Value) (osl:Array (Option Value)),
  fd=PySem.W.fnOf x qual (aZ st) (aX st) (aO st) .none kV doc pm an cdv ct/\K.lookup f=some ⟨oc,od,.func fd,osl⟩/\PySem.W.codeIn K cdv qual=true
 kp:PySem.W.keepIn K (.ref f)=true
section
variable {P:Program}{w:World}{K:PySem.W.Frag}{mg:Str->Option Value}{base:Heap}
theorem Fun.ok{x qual:Str}{st:Stmt}{f:Addr}{fd:FuncData}{N ps:List Str}{k:Nat}{sp:Sp}(F:Fun K x qual st f fd)(S:FnScope N ps (aO st))(len:∀ vs H Q E,sp vs H Q E->vs.length=ps.length)
  (hbody:∀ (cdv:Value) (A:Around) (outer:List Env) (s:Shared) (H:Hp) (vs:List V) (Q:VK) (E:XK),Room k (A.deeper (envOfC qual (aO st) s.heap.objs.size f cdv))->sp vs H Q E ->
   ∃ t,PSs (kG aP P w K mg base N qual (aO st) f cdv A outer s H E).nox (aX st) t/\t {nx:=fun _ H'=>Q .non H',rt:=Q} (start N vs) H):FnOk P w K mg base aP (k+1) f fd ps sp:=by
 obtain⟨oc,od,kV,doc,pm,an,cdv,ct,osl,rfl,lk,hcd⟩:=F.ex;refine Zh lk hcd S len fun A outer s H vs Q E hr hsp=>?_;obtain⟨t,h,q⟩:=hbody cdv A outer s H vs Q E hr hsp;exact⟨t,h.nox,q⟩
theorem Fun.binds{x qual:Str}{st:Stmt}{f:Addr}{fd:FuncData}{ps:List Str}(F:Fun K x qual st f fd)
  (h:∀ (kV doc pm:Value) (an:Option Addr) (cdv ct:Value) (us:List Value),us.length=ps.length->bindArgs (PySem.W.fnOf x qual (aZ st) (aX st) (aO st) .none kV doc pm an cdv ct) ⟨us,[]⟩=pure (ps.zip us)):Binds K fd ps []:=by
 obtain⟨oc,od,kV,doc,pm,an,cdv,ct,osl,rfl,lk,hcd⟩:=F.ex;exact .all (h kV doc pm an cdv ct)
theorem cF{x qual:Str}{st:Stmt}{f:Addr}{oc:Value}{od an:Option Addr}{osl:Array (Option Value)}{kV doc pm cdv ct:Value}(l:K.lookup f=some ⟨oc,od,.func (PySem.W.fnOf x qual (aZ st) (aX st) (aO st) .none kV doc pm an cdv ct),osl⟩)
  (c:PySem.W.codeIn K cdv qual=true) (k:PySem.W.keepIn K (.ref f)=true):Fun K x qual st f (PySem.W.fnOf x qual (aZ st) (aX st) (aO st) .none kV doc pm an cdv ct):=⟨⟨oc,od,kV,doc,pm,an,cdv,ct,osl,rfl,l,c⟩,k⟩
end
theorem C6{A B:Prop}(h:B):if false=true then A else B:=by
 rw[if_neg Bool.false_ne_true];exact h
theorem Y5{A B:Prop}(h:A):if true=true then A else B:=by
 rw[if_pos rfl];exact h
def Same(H H':Hp):Prop:=∀ b o,H b=some o->H' b=some o
theorem Same.refl(H:Hp):Same H H:=fun _ _ h=>h
theorem Same.trans{H H1 H2:Hp}(a:Same H H1)(b:Same H1 H2):Same H H2:=fun c o h=>b c o (a c o h)
theorem Same.free{H H':Hp}(e:Same H H'){l:Addr}(h:H' l=Option.none):H l=Option.none:=by
 cases q:H l with
 | none=>rfl
 | some o =>
  rw[e l o q]at h
  cases h
theorem Same.seq{K:PySem.W.Frag}{H H':Hp}{a:Addr}{xs:List V}(e:Same H H')(h:SqL K H a xs):SqL K H' a xs:=by
 rcases h with (h | ⟨o,h⟩) | h
 ·exact .inl (.inl (e _ _ h))
 ·exact .inl (.inr ⟨o,e _ _ h⟩)
 ·exact .inr h
end L2
namespace L2
open PySem PySem.Spec PyProof.Rows
section
variable {κ:Type}[DecidableEq κ]
def bP(kvs:List (κ×V))(k:κ):Option V:=(kvs.find? fun kv=>decide (kv.1=k)).map (·.2)
def bS(kvs:List (κ×V))(k:κ)(v:V):List (κ×V) :=
 if (kvs.any fun kv=>decide (kv.1=k))=true then kvs.map (fun kv=>if kv.1=k then (kv.1,v) else kv) else kvs++[(k,v)]
def Mv(kvs:List (κ×V))(k:κ):List (κ×V):=kvs.filter fun kv=>decide (kv.1≠k)
theorem qO{p:κ×V}{r:List (κ×V)}{k:κ}(e:p.1=k):bP (p::r) k=some p.2:=by simp[bP,List.find?_cons,e]
theorem sI{p:κ×V}{r:List (κ×V)}{k:κ}(e:¬ p.1=k):bP (p::r) k=bP r k:=by simp[bP,List.find?_cons,e]
theorem yD(k:κ):∀ kvs:List (κ×V),(kvs.any fun kv=>decide (kv.1=k))=(bP kvs k).isSome
 | []=>rfl
 | p::r=>by
  rw[List.any_cons]
  by_cases e:p.1=k
  ·simp only[qO e,decide_eq_true e,Bool.true_or,Option.isSome_some]
  ·rw[sI e,decide_eq_false e,Bool.false_or];exact yD k r
theorem vX(kvs:List (κ×V))(k:κ)(v:V):(bS kvs k v).length<=kvs.length+1:=by
 unfold bS
 split
 ·rw[List.length_map];omega
 ·rw[List.length_append,List.length_cons,List.length_nil];omega
theorem RelO.isSome_eq{o:Option V}{u:Option Value}(r:RelO o u):o.isSome=u.isSome:=by
 cases o with
 | none=>cases u with
  | none=>rfl
  | some _=>exact(show False from r).elim
 | some _=>cases u with
  | none=>exact(show False from r).elim
  | some _=>rfl
theorem RelO.getD{o:Option V}{u:Option Value}{d:V}{d':Value}(r:RelO o u)(rd:RelV d d'):RelV (o.getD d) (u.getD d'):=by
 cases o with
 | none=>cases u with
  | none=>exact rd
  | some _=>exact(show False from r).elim
 | some _=>cases u with
  | none=>exact(show False from r).elim
  | some _=>exact r
theorem KV.val{kvs:List (κ×V)}{vs:List (κ×Value)}(r:KV kvs vs)(k:κ):RelO (bP kvs k) (valueAt vs k):=by
 unfold KV at r
 induction r with
 | nil=>exact True.intro
 | @cons p q ps qs h t ih =>
  obtain⟨h1,h2⟩:=h
  by_cases e:p.1=k
  ·have e':q.1=k:=h1.symm.trans e
   have b:valueAt (q::qs) k=some q.2:=by simp[valueAt,List.find?_cons,e']
   rw[qO e,b];exact h2
  ·have e':¬ q.1=k:=fun z=>e (h1.trans z)
   have b:valueAt (q::qs) k=valueAt qs k:=by simp[valueAt,List.find?_cons,e']
   rw[sI e,b];exact ih
theorem KV.any{kvs:List (κ×V)}{vs:List (κ×Value)}(r:KV kvs vs)(k:κ):(kvs.any fun kv=>decide (kv.1=k))=vs.any fun kv=>decide (kv.1=k):=by
 unfold KV at r
 induction r with
 | nil=>rfl
 | cons h t ih=>rw[List.any_cons,List.any_cons,ih,h.1]
theorem KV.repl{kvs:List (κ×V)}{vs:List (κ×Value)}(r:KV kvs vs)(k:κ){y:V}{u:Value}(ry:RelV y u) :
  KV (kvs.map fun kv=>if kv.1=k then (kv.1,y) else kv) (vs.map fun kv=>if kv.1=k then (kv.1,u) else kv):=by
 unfold KV at r ⊢
 induction r with
 | nil=>exact .nil
 | @cons p q ps qs h t ih =>
  rw[List.map_cons,List.map_cons];refine .cons ?_ ih;obtain⟨h1,h2⟩:=h
  by_cases e:p.1=k
  ·rw[if_pos e,if_pos (h1.symm.trans e)];exact⟨h1,ry⟩
  ·rw[if_neg e,if_neg (fun z=>e (h1.trans z))];exact⟨h1,h2⟩
theorem KV.put{kvs:List (κ×V)}{vs:List (κ×Value)}(r:KV kvs vs)(k:κ){y:V}{u:Value}(ry:RelV y u):KV (bS kvs k y) (stored vs k u):=by
 unfold bS stored;rw[r.any k]
 by_cases e:(vs.any fun kv=>decide (kv.1=k))=true
 ·rw[if_pos e,if_pos e];exact r.repl k ry
 ·rw[if_neg e,if_neg e];exact Paired.snoc r ⟨rfl,ry⟩
theorem KV.drop{kvs:List (κ×V)}{vs:List (κ×Value)}(r:KV kvs vs)(k:κ):KV (Mv kvs k) (without vs k):=by
 unfold KV at r ⊢;unfold Mv without
 induction r with
 | nil=>exact .nil
 | @cons p q ps qs h t ih =>
  obtain⟨h1,h2⟩:=h;rw[List.filter_cons,List.filter_cons]
  by_cases e:p.1=k
  ·have a:¬ decide (p.1≠k)=true:=by simp[e]
   have b:¬ decide (q.1≠k)=true:=by simp[h1.symm.trans e]
   rw[if_neg a,if_neg b];exact ih
  ·have e':¬ q.1=k:=fun z=>e (h1.trans z)
   have a:decide (p.1≠k)=true:=by simp[e]
   have b:decide (q.1≠k)=true:=by simp[e']
   rw[if_pos a,if_pos b];exact .cons ⟨h1,h2⟩ ih
theorem KV.keys{kvs:List (κ×V)}{vs:List (κ×Value)}(r:KV kvs vs):kvs.map (·.1)=vs.map (·.1):=by
 unfold KV at r
 induction r with
 | nil=>rfl
 | cons h t ih=>rw[List.map_cons,List.map_cons,ih,h.1]
theorem KV.length{kvs:List (κ×V)}{vs:List (κ×Value)}(r:KV kvs vs):kvs.length=vs.length:=Paired.length r
end
theorem nU{P:Program}{w:World}{k:aJ}{u:Value}(r:RelV (kV k) u):(bM P w).is k u=true:=by
 cases k with
 | inl i=>obtain⟨t,e⟩:=(show ∃ t,u=Value.int i t from r);subst e;exact Yk P w i t
 | inr x=>obtain⟨t,e⟩:=(show ∃ t,u=Value.str x t from r);subst e;exact y9 P w x t
theorem Dv{P:Program}{w:World}:∀ {ks:List aJ} {us:List Value},Vals (ks.map kV) us->ItemsAre (bM P w) ks us
 | [],_,r=>by rw[List.map_nil]at r;cases r;exact .nil
 | k::ks,_,r=>by
  rw[List.map_cons]at r
  cases r with
  | cons h t=>exact .cons (nU h) (Dv t)
abbrev KT(H:Hp):List (List aJ×V)->List (List aJ×Addr×Value)->Prop:=Paired fun p q=>p.1=q.1/\H q.2.1=some (.tup (p.1.map kV))/\RelV p.2 q.2.2
theorem KT.val{H:Hp}{kvs:List (List aJ×V)}{xs:List (List aJ×Addr×Value)}(r:KT H kvs xs)(k:List aJ):RelO (bP kvs k) ((atKey xs k).map (·.2)):=by
 induction r with
 | nil=>exact True.intro
 | @cons p q ps qs h t ih =>
  obtain⟨h1,_,h2⟩:=h
  by_cases e:p.1=k
  ·have e':q.1=k:=h1.symm.trans e
   have b:atKey (q::qs) k=some q.2:=by simp[atKey,List.find?_cons,e']
   rw[qO e,b];exact h2
  ·have e':¬ q.1=k:=fun z=>e (h1.trans z)
   have b:atKey (q::qs) k=atKey qs k:=by simp[atKey,List.find?_cons,e']
   rw[sI e,b];exact ih
theorem KT.repl{H:Hp}{kvs:List (List aJ×V)}{xs:List (List aJ×Addr×Value)}(r:KT H kvs xs)(k:List aJ){y:V}{u:Value}(ry:RelV y u) :
  KT H (kvs.map fun kv=>if kv.1=k then (kv.1,y) else kv) (xs.map (putAt k u)):=by
 induction r with
 | nil=>exact .nil
 | @cons p q ps qs h t ih =>
  rw[List.map_cons,List.map_cons];refine .cons ?_ ih;obtain⟨h1,h2,h3⟩:=h;unfold putAt
  by_cases e:p.1=k
  ·rw[if_pos e,if_pos (h1.symm.trans e)];exact⟨h1,h2,ry⟩
  ·rw[if_neg e,if_neg (fun z=>e (h1.trans z))];exact⟨h1,h2,h3⟩
theorem KT.put{H:Hp}{kvs:List (List aJ×V)}{xs:List (List aJ×Addr×Value)}(r:KT H kvs xs)(k:List aJ){b:Addr}{y:V}{u:Value}(hb:H b=some (.tup (k.map kV)))(ry:RelV y u) :
  KT H (bS kvs k y) (storedH xs k b u):=by
 have e:(kvs.any fun kv=>decide (kv.1=k))=(atKey xs k).isSome:=by
  rw[yD,(r.val k).isSome_eq,Option.isSome_map]
 unfold bS storedH;rw[e]
 by_cases q:(atKey xs k).isSome=true
 ·rw[if_pos q,if_pos q];exact r.repl k ry
 ·rw[if_neg q,if_neg q];exact Paired.snoc r ⟨rfl,hb,ry⟩
theorem KT.keeps{H H':Hp}{kvs:List (List aJ×V)}{xs:List (List aJ×Addr×Value)}(r:KT H kvs xs)(ht:∀ b ys,H b=some (.tup ys)->H' b=some (.tup ys)):KT H' kvs xs :=
 Paired.mapP r fun _ _ z=>⟨z.1,ht _ _ z.2.1,z.2.2⟩
section
variable {P:Program}{w:World}{H:Hp}{h:Heap}{a:Addr}
theorem Mb{u:HO}(ok:HOk P w H h)(e:Rd H a u):ObjOk P w H h a u:=e.ok ok
theorem rA{kvs:List (aJ×V)}(ok:HOk P w H h)(e:Rd H a (.dK kvs)):kvs.length<=sizeLine/\(a==sysModules)=false/\∃ vs,KV kvs vs/\h.DictOf (bM P w) a vs :=
 show ObjOk P w H h a (.dK kvs) from Mb ok e
theorem Kk{kvs:List (aJ×V)}(ok:HOk P w H h)(e:H a=some (.dK kvs)):kvs.length<=sizeLine/\(a==sysModules)=false/\∃ vs,KV kvs vs/\h.DictOf (bM P w) a vs:=rA ok (.inl e)
theorem wU{ks:List aJ}(ok:HOk P w H h)(e:H a=some (.tup (ks.map kV))):(tupleKind (bM P w)).is h ks a:=by
 obtain⟨_,its,r,o,h1,h2,n,h3⟩:=(show ObjOk P w H h a (.tup (ks.map kV)) from ok a _ e)
 exact⟨o,its.toArray,n,h1,h2,h3,by simpa using Dv r⟩
theorem vN{kvs:List (List aJ×V)}(ok:HOk P w H h)(e:Rd H a (.dT kvs)):kvs.length<=sizeLine/\(a==sysModules)=false /\
  ∃ xs,KT H kvs xs/\h.DictOfH (tupleKind (bM P w)) a xs:=by
 obtain⟨z,y,xs,r,o,es,ep,h1,h2,h3,h4,h5⟩:=(show ObjOk P w H h a (.dT kvs) from Mb ok e)
 refine⟨z,y,xs,r,o,es,ep,h1,h2,h3,h4,fun x hx=>?_,h5⟩;have all:∀ {l:List (List aJ×V)} {m:List (List aJ×Addr×Value)},KT H l m->∀ x∈m,(tupleKind (bM P w)).is h x.1 x.2.1:=by
  intro l m q
  induction q with
  | nil=>intro x hx;exact nomatch hx
  | @cons p q ps qs hq t ih =>
   intro x hx;rcases List.mem_cons.mp hx with e | hx
   ·subst e;exact wU ok (by rw[<- hq.1];exact hq.2.1)
   ·exact ih x hx
 exact all r x hx
theorem Qf{kvs:List (List aJ×V)}(ok:HOk P w H h)(e:H a=some (.dT kvs)):kvs.length<=sizeLine/\(a==sysModules)=false /\
  ∃ xs,KT H kvs xs/\h.DictOfH (tupleKind (bM P w)) a xs:=vN ok (.inl e)
end
def DGet(H:Hp)(a:Addr)(y:V)(r:Option V):Prop :=
 (∃ kvs k,Rd H a (.dK kvs)/\y=kV k/\r=bP kvs k)\/∃ kvs k b,Rd H a (.dT kvs)/\y=.ref b/\H b=some (.tup (k.map kV))/\r=bP kvs k
def DPut(H:Hp)(a:Addr)(y v:V)(H':Hp):Prop :=
 (∃ kvs k,H a=some (.dK kvs)/\y=kV k/\kvs.length<sizeLine/\H'=aE H a (.dK (bS kvs k v))) \/
 ∃ kvs k b,H a=some (.dT kvs)/\y=.ref b/\H b=some (.tup (k.map kV))/\kvs.length<sizeLine/\H'=aE H a (.dT (bS kvs k v))
theorem DGet.k{H:Hp}{a:Addr}{kvs:List (aJ×V)}{k:aJ}(e:H a=some (.dK kvs)):DGet H a (kV k) (bP kvs k):=.inl ⟨kvs,k,.inl e,rfl,rfl⟩
theorem DGet.t{H:Hp}{a b:Addr}{kvs:List (List aJ×V)}{k:List aJ}(e:H a=some (.dT kvs))(eb:H b=some (.tup (k.map kV))):DGet H a (.ref b) (bP kvs k):=.inr ⟨kvs,k,b,.inl e,rfl,eb,rfl⟩
theorem DPut.k{H:Hp}{a:Addr}{kvs:List (aJ×V)}{k:aJ}{v:V}(e:H a=some (.dK kvs))(hl:kvs.length<sizeLine):DPut H a (kV k) v (aE H a (.dK (bS kvs k v))):=.inl ⟨kvs,k,e,rfl,hl,rfl⟩
theorem DPut.t{H:Hp}{a b:Addr}{kvs:List (List aJ×V)}{k:List aJ}{v:V}(e:H a=some (.dT kvs))(eb:H b=some (.tup (k.map kV)))(hl:kvs.length<sizeLine) :
  DPut H a (.ref b) v (aE H a (.dT (bS kvs k v))):=.inr ⟨kvs,k,b,e,rfl,eb,hl,rfl⟩
section
variable {X:Cx}{pins:List (Addr×Obj)}{σ:St}{H:Hp}{s:Shared}{a:Addr}{y v:V}{u r:Value}{o:Option V}{A:Around}{E:Value->Shared->Prop}
theorem Inv.big(I:Inv X pins σ H s):sysModules<s.heap.objs.size:=by
 have h:mainGlobals<s.heap.objs.size:=(I.mod.glob.keeps I.bk).lt
 exact Nat.lt_trans (by decide) h
theorem Ow{Q:Value->Shared->Prop}(hu:A.units+1<cLine)(I:Inv X pins σ H s)(g:DGet H a y (some v))(ry:RelV y u)(h:∀ w' s',Inv X pins σ H s'->RelV v w'->Q w' s') :
  wpAny (model X.prog X.w) A (getItem (.ref a) u) Q E s:=by
 rcases g with⟨kvs,k,e,ey,l⟩ | ⟨kvs,k,b,e,ey,eb,l⟩
 ·subst ey;obtain⟨z,hd,vs,rel,dd⟩:=rA I.hok e;obtain⟨w',hw,rw'⟩:=RelO.some_of (v:=v) (o:=valueAt vs k) (by rw[l];exact rel.val k)
  exact wpAny_getItem_of (nU ry) dd.mapOf hw (h w' _ (I.tok _) rw')
 ·subst ey
  cases (show u=Value.ref b from ry)
  obtain⟨z,hd,xs,rel,dd⟩:=vN I.hok e;obtain⟨w',hw,rw'⟩:=RelO.some_of (v:=v) (o:=(atKey xs k).map (·.2)) (by rw[l];exact rel.val k)
  obtain⟨p,hp,hp2⟩:=Option.map_eq_some_iff.mp hw;refine wpAny_getItem_heap (tupleKind_room_in1 hu) (wU I.hok eb) dd hp ?_;rw[hp2];exact h w' _ (I.tok _) rw'
theorem y6{Q:Value->Shared->Prop}(hu:A.units+1<cLine)(I:Inv X pins σ H s)(g:DGet H a y o)(ry:RelV y u)(h:∀ s',Inv X pins σ H s'->Q (.bool o.isSome) s') :
  wpAny (model X.prog X.w) A (compareOp .In u (.ref a)) Q E s:=by
 rcases g with⟨kvs,k,e,ey,l⟩ | ⟨kvs,k,b,e,ey,eb,l⟩
 ·subst ey;obtain⟨z,hd,vs,rel,dd⟩:=rA I.hok e;refine wpAny_in_of (nU ry) hd dd.mapOf ?_;rw[<- (rel.val k).isSome_eq,<- l];exact h _ (I.tok _)
 ·subst ey
  cases (show u=Value.ref b from ry)
  obtain⟨z,hd,xs,rel,dd⟩:=vN I.hok e;refine wpAny_in_heap (tupleKind_room_in1 hu) (wU I.hok eb) hd dd ?_;have q:=(rel.val k).isSome_eq
  rw[Option.isSome_map]at q;rw[<- q,<- l];exact h _ (I.tok _)
theorem vP{h':Heap}{t':Nat}{ob:HO}(I:Inv X pins σ H s)(mu:rH (H a))(hs:Heap.SameBut a s.heap h')(he:∃ q,h'.get? a=some q)(new:ObjOk X.prog X.w (aE H a ob) h' a ob) :
  Inv X pins σ (aE H a ob) {s with heap:=h',toks:=t'} :=
 I.write (x:=a) (e:=a) mu (.inl rfl) (fun b q hb z=>(hs.2 b hb).trans z) he new
theorem Oh{P:Program}{w:World}{H':Hp}{h':Heap}{kvs:List (aJ×V)}{vs:List (aJ×Value)}(z:kvs.length<=sizeLine)(hd:(a==sysModules)=false)(rel:KV kvs vs)(dd:h'.DictOf (bM P w) a vs) :
  ObjOk P w H' h' a (.dK kvs):=⟨z,hd,vs,rel,dd⟩
theorem Qt{H':Hp}{Q:Unit->Shared->Prop}(hu:A.units+1<cLine)(I:Inv X pins σ H s)(g:DPut H a y v H')(ry:RelV y u)(rv:RelV v r)(h:∀ s',Inv X pins σ H' s'->Q () s') :
  wpAny (model X.prog X.w) A (setItem (.ref a) u r) Q E s:=by
 rcases g with⟨kvs,k,e,ey,l,eH⟩ | ⟨kvs,k,b,e,ey,eb,l,eH⟩
 ·subst ey eH;obtain⟨z,hd,vs,rel,dd⟩:=Kk I.hok e;have hz:vs.length<=sizeLine:=by rw[<- rel.length];exact z
  have hl:(bS kvs k v).length<=sizeLine:=by have:=vX kvs k v;omega
  refine wpAny_setItem_pairs (hsz:=hz) (nU ry) dd fun h' dd' hs=>h _ ?_;have he:∃ q,h'.get? a=some q:=let ⟨q,_,_,hq,_⟩:=dd';⟨q,hq⟩
  exact vP I (by rw[e];exact True.intro) hs he (Oh hl hd (rel.put k rv) dd')
 ·subst ey eH
  cases (show u=Value.ref b from ry)
  obtain⟨z,hd,xs,rel,dd⟩:=Qf I.hok e;have hz:xs.length<=sizeLine:=by rw[<- Paired.length rel];exact z
  have hl:(bS kvs k v).length<=sizeLine:=by have:=vX kvs k v;omega
  refine wpAny_setItem_heap (hsz:=hz) (tupleKind_room_in1 hu) (wU I.hok eb) dd fun h' dd' hs=>h _ ?_;obtain⟨q,es,ep,hq,h2,h3,h4,_,h5⟩:=dd';refine vP I (by rw[e];exact True.intro) hs ⟨q,hq⟩ ⟨hl,hd,_,(rel.put k eb rv).keeps fun c ys ec=>?_,q,es,ep,hq,h2,h3,h4,h5⟩
  rw[aV (Ag ec e (fun z=>nomatch z))];exact ec
end
section
variable {X:Cx}{pins:List (Addr×Obj)}{σ:St}{H:Hp}{s:Shared}{a:Addr}{kvs:List (aJ×V)}{k:aJ}{u:Value}{A:Around}{E:Value->Shared->Prop}
theorem G4{Q:Value->Shared->Prop}(I:Inv X pins σ H s)(e:Rd H a (.dK kvs))(h:∀ t s',Inv X pins σ H s'->Q (.int kvs.length t) s'):wpAny (model X.prog X.w) A (call (.builtin "len") [.ref a]) Q E s:=by
 obtain⟨z,hd,vs,rel,dd⟩:=rA I.hok e;refine call_len_dict hd dd (by rw[<- rel.length];rw[sizeLine_eq]at z;omega) ?_
 rw[<- rel.length];exact h _ _ (I.tok _)
end
def kF(i:Expr):Prop:=∀ ov iv,subscripted i false ov iv=operate [ov,iv] (getItem ov iv)
theorem yF{prog:Program}{w:World}{A:Around}{E:Value->Shared->Prop}{s:Shared}{env:Env}{value slice:Expr}{pos:Pos}{T id:String}{Q:Value->Shared->Prop}
  (hl:typeLookup (.type T) "__getitem__"=pure (some (.builtin id))) (hs:kF slice)
  (h:wpAny (model prog w) A (eval value env) (fun o s₁=>wpAny (model prog w) A (eval slice env) (fun i s₂=>s₂.TypeIs o T/\wpAny (model prog w) A (getItem o i) Q E s₂) E s₁) E s) :
  wpAny (model prog w) A (eval (.Subscript value slice pos) env) Q E s:=by
 refine Subscript_ (wpAny_mono h (fun o s₁ h₁=>wpAny_mono h₁ (fun i s₂ h₂=>?_) fun _ _ x=>x) fun _ _ x=>x);obtain⟨hT,h₂⟩:=h₂;unfold subscriptTail;refine wpAny_bind ?_;rw[getitemInPython_of_ne hT.not_modules];refine wpAny_bind (wpAny_specialOf hT hl ?_);have fin:wpAny (model prog w) A (subscripted slice false o i) (fun r s₃=>wpAny (model prog w) A (letTemporaryGo value o r>>=fun _=>pure r) Q E s₃) E s₂:=by
  rw[hs o i];exact wpAny_operating (wpAny_mono h₂ (fun r s₃ h₃=>wpAny_bind (wpAny_letTemporaryGo (wpAny_pure h₃))) fun _ _ x=>x)
 first
  | exact wpAny_pure (wpAny_bind fin)
  | exact wpAny_bind (wpAny_pure (wpAny_bind fin))
  | exact wpAny_bind fin
theorem BA{X:Cx}{pins:List (Addr×Obj)}{σ:St}{H:Hp}{s:Shared}{a:Addr}{y:V}{o:Option V}(I:Inv X pins σ H s)(g:DGet H a y o):s.TypeIs (.ref a) "dict":=by
 rcases g with⟨kvs,k,e,_,_⟩ | ⟨kvs,k,b,e,_,_,_⟩
 ·obtain⟨_,_,vs,_,dd⟩:=rA I.hok e;exact dd.typeIs
 ·obtain⟨_,_,xs,_,dd⟩:=vN I.hok e;exact dd.typeIs
def BZ(td ty:TE):TE:=fun σ H Q=>td σ H fun x H1=>ty σ H1 fun y H2=>∃ a v,x=.ref a/\DGet H2 a y (some v)/\Q v H2
def Tc(td ty tv:TE):TS:=fun D σ H=>tv σ H fun v H1=>td σ H1 fun x H2=>ty σ H2 fun y H3=>∃ a H4,x=.ref a/\DPut H3 a y v H4/\D.nx σ H4
section
variable {X:Cx}{o i e value:Expr}{pos pos' tpos:Pos}{td ty tv:TE}
theorem S7(hu:X.A.units+1<cLine)(ho:PE X o td)(hi:PE X i ty)(hs:kF i):PE X (.Subscript o i pos) (BZ td ty):=by
 intro pins s σ H Q I h;refine yF PySem.F.slot_dict_getitem.lookup hs (aI (ho pins s σ H _ I h) fun u s1 ⟨x,H1,I1,rx,q1⟩=>aI (hi pins s1 σ H1 _ I1 q1) fun iv s2 ⟨y,H2,I2,ry,a,v,ex,g,q2⟩=>?_);subst ex;obtain rfl:u=Value.ref a:=rx;exact⟨BA I2 g,Ow hu I2 g ry fun w' s3 I3 rw'=>⟨v,H2,I3,rw',q2⟩⟩
theorem BY(hu:X.A.units+1<cLine)(ho:PE X o td)(hi:PE X i ty)(hv:PE X value tv)(hs:swapsWith value (some (.Subscript o i pos')) pos.line X.env=pure false) :
  PS X (.Assign [.Subscript o i pos'] value pos) (Tc td ty tv):=by
 intro pins s σ H D I h;refine wpAny_Assign_Subscript (aI (hv pins s σ H _ I h) fun r s1 ⟨v,H1,I1,rv,q1⟩=>aI (ho pins s1 σ H1 _ I1 q1) fun u s2 ⟨x,H2,I2,rx,q2⟩=>aI (hi pins s2 σ H2 _ I2 q2) fun iv s3 ⟨y,H3,I3,ry,a,H4,ex,g,q3⟩=>?_) hs;subst ex;obtain rfl:u=Value.ref a:=rx;exact Qt hu I3 g ry rv fun s4 I4=>⟨σ,H4,I4,q3⟩
end
theorem Ny{P:Program}{w:World}{H:Hp}(h:Heap)(hb:sysModules<h.objs.size):ObjOk P w H (h.push {cls:=.type "dict",data:=.dict #[]}) h.objs.size (.dK []) :=
 ⟨Nat.zero_le _,beq_eq_false_iff_ne.mpr (Ne.symm (Nat.ne_of_lt hb)),[],.nil,Heap.DictOf.new h⟩
def uZ:List (TE×TE)->St->Hp->(List (V×V)->Hp->Prop)->Prop
 | [],_,H,Q=>Q [] H
 | (tk,tv)::r,σ,H,Q=>tk σ H fun x H1=>tv σ H1 fun y H2=>uZ r σ H2 fun ps H3=>Q ((x,y)::ps) H3
abbrev VV:List (V×V)->List (Value×Value)->Prop:=Paired fun p q=>RelV p.1 q.1/\RelV p.2 q.2
def wH(X:Cx)(pos:Pos)(keys:List (Option Expr))(values:List Expr)(trs:List (TE×TE)):Prop :=
 ∀ (pins:List (Addr×Obj)) (s:Shared) (σ:St) (H:Hp) (Q:List (V×V)->Hp->Prop),Inv X pins σ H s->uZ trs σ H Q ->
  wpAny (model X.prog X.w) X.A (evalPairs (pairTrees keys values X.env pos)) (fun vs s'=>∃ ps H',Inv X pins σ H' s'/\VV ps vs/\Q ps H') X.xe s
theorem BX{X:Cx}{pos:Pos}:wH X pos [] [] []:=fun pins s σ H Q I h=>pairTrees_nil_walk ⟨[],H,I,.nil,h⟩
theorem AT{X:Cx}{pos:Pos}{k v:Expr}{ks:List (Option Expr)}{vs:List Expr}{tk tv:TE}{trs:List (TE×TE)}(hk:PE X k tk)(hv:PE X v tv)(hr:wH X pos ks vs trs) :
  wH X pos (some k::ks) (v::vs) ((tk,tv)::trs):=fun pins s σ H Q I h =>
 pairTrees_cons_walk (aI (hk pins s σ H _ I h) fun u s1 ⟨x,H1,I1,rx,q1⟩=>aI (hv pins s1 σ H1 _ I1 q1) fun w2 s2 ⟨y,H2,I2,ry,q2⟩ =>
  aI (hr pins s2 σ H2 _ I2 q2) fun ws s3 ⟨ps,H3,I3,rel,q3⟩=>⟨(x,y)::ps,H3,I3,.cons ⟨rx,ry⟩ rel,q3⟩)
def rO(kvs more:List (aJ×V)):List (aJ×V):=more.foldl (fun acc kv=>bS acc kv.1 kv.2) kvs
theorem KV.merge:∀ {more:List (aJ×V)} {rs:List (aJ×Value)} {kvs:List (aJ×V)} {vs:List (aJ×Value)},KV more rs->KV kvs vs->KV (rO kvs more) (merged vs rs):=by
 intro more rs kvs vs r;unfold KV at r
 induction r generalizing kvs vs with
 | nil=>intro q;exact q
 | @cons p q ps qs h t ih =>
  intro r0;have e:KV (bS kvs p.1 p.2) (stored vs q.1 q.2):=by
   have:=r0.put p.1 h.2
   rw[<- h.1];exact this
  exact ih e
theorem Gp:∀ (more kvs:List (aJ×V)),(rO kvs more).length<=kvs.length+more.length
 | [],kvs=>by show kvs.length<=kvs.length+0;omega
 | p::r,kvs=>by
  have h1:=Gp r (bS kvs p.1 p.2)
  have h2:=vX kvs p.1 p.2
  show(rO (bS kvs p.1 p.2) r).length<=_
  rw[List.length_cons];omega
theorem Jo{P:Program}{w:World}:∀ {kvs:List (aJ×V)} {ws:List (Value×Value)},VV (kvs.map fun kv=>(kV kv.1,kv.2)) ws->∃ rs,Carries (bM P w) ws rs/\KV kvs rs
 | [],_,r=>by rw[List.map_nil]at r;cases r;exact⟨[],True.intro,.nil⟩
 | p::kvs,_,r=>by
  rw[List.map_cons]at r
  cases r with
  | @cons a b as bs h t =>
   obtain⟨rs,c,q⟩:=Jo (P:=P) (w:=w) t;obtain⟨b1,b2⟩:=b;exact⟨(p.1,b2)::rs,⟨nU h.1,rfl,c⟩,.cons ⟨rfl,h.2⟩ q⟩
end L2
namespace DL
open PySem PySem.Spec PyProof.Rows L2
inductive D where
 | dat (p:PyData)
 | cel (a:Addr)
inductive Cel where
 | l (xs:List PyData)
 | d (kvs:List (aJ×PyData))
 | t (kvs:List (List aJ×PyData))
 | dl (kas:List (aJ×Addr))
 | fd (kvs:List (aJ×PyData))
 | ft (kvs:List (List aJ×PyData))
 | n (kvs:List (List PyData×D))
 | g (kvs:List (aJ×D))
 | o (N:Str) (fs:List (Str×D))
@[simp] def qW:Option Cel->Bool
 | some (.fd _)=>true
 | some (.ft _)=>true
 | _=>false
abbrev Mu:=Addr->Option Cel
abbrev aT:=List (Option D)
mutual
def RP(K:PySem.W.Frag)(Z:Addr->Prop)(m:Mu)(H:Hp):PyData->V->Prop
 | .none,v=>v=.non
 | .bool b,v=>v=.bl b
 | .int i,v=>v=.int i
 | .str x,v=>v=.str x
 | .tuple xs,v=>∃ a vs,v=.ref a/\SqT K H a vs/\RPs K Z m H xs vs
 | .list xs,v=>∃ a vs,v=.ref a/\(m a=none/\¬ Z a)/\SqL K H a vs/\RPs K Z m H xs vs
 | .dict _,_=>False
def RPs(K:PySem.W.Frag)(Z:Addr->Prop)(m:Mu)(H:Hp):List PyData->List V->Prop
 | [],vs=>vs=[]
 | x::xs,vs=>∃ v r,vs=v::r/\RP K Z m H x v/\RPs K Z m H xs r
end
def RD(K:PySem.W.Frag)(Z:Addr->Prop)(m:Mu)(H:Hp):D->V->Prop
 | .dat p,v=>RP K Z m H p v
 | .cel a,v=>v=.ref a/\(m a).isSome=true
def RDs(K:PySem.W.Frag)(Z:Addr->Prop)(m:Mu)(H:Hp):List D->List V->Prop
 | [],vs=>vs=[]
 | x::xs,vs=>∃ v r,vs=v::r/\RD K Z m H x v/\RDs K Z m H xs r
def RKV{κ:Type}(K:PySem.W.Frag)(Z:Addr->Prop)(m:Mu)(H:Hp):List (κ×PyData)->List (κ×V)->Prop
 | [],vs=>vs=[]
 | (k,p)::xs,vs=>∃ v r,vs=(k,v)::r/\RP K Z m H p v/\RKV K Z m H xs r
def RW(K:PySem.W.Frag)(Z:Addr->Prop)(m:Mu)(H:Hp):D->V->Prop
 | .dat p,v=>RP K Z m H p v
 | .cel a,v=>v=.ref a
def RKW{κ:Type}(K:PySem.W.Frag)(Z:Addr->Prop)(m:Mu)(H:Hp):List (κ×D)->List (κ×V)->Prop
 | [],vs=>vs=[]
 | (k,p)::xs,vs=>∃ v r,vs=(k,v)::r/\RW K Z m H p v/\RKW K Z m H xs r
def RC(K:PySem.W.Frag)(Z:Addr->Prop)(m:Mu)(H:Hp):Cel->HO->Prop
 | .l xs,.lst vs=>RPs K Z m H xs vs
 | .d kvs,.dK vs=>RKV K Z m H kvs vs
 | .t kvs,.dT vs=>RKV K Z m H kvs vs
 | .dl kas,.dK vs=>vs=kas.map fun x=>(x.1,V.ref x.2)
 | .fd kvs,.frz _ (.dK vs)=>RKV K Z m H kvs vs
 | .ft kvs,.frz _ (.dT vs)=>RKV K Z m H kvs vs
 | .n kvs,.dN K' vs=>K'=K/\RKW K Z m H kvs vs
 | .g kvs,.dK vs=>RKW K Z m H kvs vs
 | .o N fs,.ins C _ vs=>PySem.W.nsIn K mainGlobals N=some (some (.ref C))/\RKW K Z m H fs vs
 | _,_=>False
structure Ok (K:PySem.W.Frag) (Z:Addr->Prop) (m:Mu) (H:Hp):Prop where
 g:∀ a c,m a=some c->∃ o,H a=some o/\RC K Z m H c o
 z:∀ a,Z a->m a=none/\H a≠none
structure Ext (K:PySem.W.Frag) (Z:Addr->Prop) (m:Mu) (H:Hp) (m':Mu) (H':Hp):Prop where
 t:∀ a vs,SqT K H a vs->SqT K H' a vs
 l:∀ a vs,(m a=none/\¬ Z a)->SqL K H a vs->m' a=none/\SqL K H' a vs
 z:∀ a,Z a->H' a=H a
 c:∀ a,(m a).isSome=true->(m' a).isSome=true
 fz:∀ a o u,H a=some (.frz o u)->H' a=some (.frz o u)
 fm:∀ a,qW (m a)=true->m' a=m a
section
variable {K:PySem.W.Frag}{Z:Addr->Prop}{m m' m2:Mu}{H H' H2:Hp}
theorem Ext.refl:Ext K Z m H m H:=⟨fun _ _ h=>h,fun _ _ h1 h2=>⟨h1.1,h2⟩,fun _ _=>rfl,fun _ h=>h,fun _ _ _ h=>h,fun _ _=>rfl⟩
theorem Ext.trans(a:Ext K Z m H m' H')(b:Ext K Z m' H' m2 H2):Ext K Z m H m2 H2 :=
 ⟨fun x vs h=>b.t x vs (a.t x vs h),fun x vs h1 h2=>let ⟨q1,q2⟩:=a.l x vs h1 h2;b.l x vs ⟨q1,h1.2⟩ q2,fun x h=>(b.z x h).trans (a.z x h),fun x h=>b.c x (a.c x h),fun x o u h=>b.fz x o u (a.fz x o u h),fun x h=>by
  have q:=a.fm x h
  rw[b.fm x (by rw[q];exact h),q]⟩
mutual
theorem RP.ext(e:Ext K Z m H m' H'):∀ (p:PyData) (v:V),RP K Z m H p v->RP K Z m' H' p v
 | .none,v,h=>by simpa only[RP] using h
 | .bool _,v,h=>by simpa only[RP] using h
 | .int _,v,h=>by simpa only[RP] using h
 | .str _,v,h=>by simpa only[RP] using h
 | .tuple xs,v,h=>by
  simp only[RP]at h ⊢;obtain⟨a,vs,h1,h2,h3⟩:=h;exact⟨a,vs,h1,e.t a vs h2,RPs.ext e xs vs h3⟩
 | .list xs,v,h=>by
  simp only[RP]at h ⊢;obtain⟨a,vs,h1,h2,h3,h4⟩:=h;obtain⟨q1,q2⟩:=e.l a vs h2 h3;exact⟨a,vs,h1,⟨q1,h2.2⟩,q2,RPs.ext e xs vs h4⟩
 | .dict _,v,h=>by simp only[RP]at h
theorem RPs.ext(e:Ext K Z m H m' H'):∀ (xs:List PyData) (vs:List V),RPs K Z m H xs vs->RPs K Z m' H' xs vs
 | [],vs,h=>by simpa only[RPs] using h
 | x::xs,vs,h=>by
  simp only[RPs]at h ⊢;obtain⟨v,r,h1,h2,h3⟩:=h;exact⟨v,r,h1,RP.ext e x v h2,RPs.ext e xs r h3⟩
end
theorem RD.ext(e:Ext K Z m H m' H'){d:D}{v:V}(h:RD K Z m H d v):RD K Z m' H' d v:=by
 cases d with
 | dat p=>exact RP.ext e p v h
 | cel a=>exact⟨h.1,e.c a h.2⟩
theorem RDs.ext(e:Ext K Z m H m' H'):∀ {xs:List D} {vs:List V},RDs K Z m H xs vs->RDs K Z m' H' xs vs
 | [],_,h=>h
 | _::_,_,⟨v,r,h1,h2,h3⟩=>⟨v,r,h1,h2.ext e,RDs.ext e h3⟩
theorem RKV.lift{κ:Type}{Z':Addr->Prop}(tr:∀ p v,RP K Z m H p v->RP K Z' m' H' p v):∀ {xs:List (κ×PyData)} {vs:List (κ×V)},RKV K Z m H xs vs->RKV K Z' m' H' xs vs
 | [],_,h=>h
 | _::_,_,⟨v,r,h1,h2,h3⟩=>⟨v,r,h1,tr _ _ h2,RKV.lift tr h3⟩
theorem RKW.lift{κ:Type}{Z':Addr->Prop}(tr:∀ p v,RP K Z m H p v->RP K Z' m' H' p v):∀ {xs:List (κ×D)} {vs:List (κ×V)},RKW K Z m H xs vs->RKW K Z' m' H' xs vs
 | [],_,h=>h
 | (_,.dat _)::_,_,⟨v,r,h1,h2,h3⟩=>⟨v,r,h1,tr _ _ h2,RKW.lift tr h3⟩
 | (_,.cel _)::_,_,⟨v,r,h1,h2,h3⟩=>⟨v,r,h1,h2,RKW.lift tr h3⟩
theorem RPs.lift{Z':Addr->Prop}(tr:∀ p v,RP K Z m H p v->RP K Z' m' H' p v):∀ {ps:List PyData} {vs:List V},RPs K Z m H ps vs->RPs K Z' m' H' ps vs
 | [],_,h=>by simpa only[RPs] using h
 | _::_,_,h=>by
  simp only[RPs]at h ⊢;obtain⟨v,r,h1,h2,h3⟩:=h;exact⟨v,r,h1,tr _ _ h2,RPs.lift tr h3⟩
theorem RC.lift{Z':Addr->Prop}{c:Cel}{o:HO}(tr:∀ p v,RP K Z m H p v->RP K Z' m' H' p v)(h:RC K Z m H c o):RC K Z' m' H' c o:=by
 cases c<;>cases o<;>first | exact RPs.lift tr h | exact RKV.lift tr h | exact RKW.lift tr h | exact⟨h.1,RKW.lift tr h.2⟩ | exact h | (rename_i ob u;cases u<;>first | exact RKV.lift tr h | exact h)
theorem RC.ext{c:Cel}{o:HO}(e:Ext K Z m H m' H')(h:RC K Z m H c o):RC K Z m' H' c o:=h.lift fun p v q=>RP.ext e p v q
theorem RC.mut{c:Cel}{o:HO}(h:RC K Z m H c o)(nf:qW (some c)=false):(∀ xs,o≠.tup xs)/\(∀ a b,o≠.frz a b):=by
 cases c with
 | fd _=>cases nf
 | ft _=>cases nf
 | dl _=>cases o<;>first | exact h.elim | exact⟨fun _ e=>(nomatch e),fun _ _ e=>(nomatch e)⟩
 | l _=>cases o<;>first | exact h.elim | exact⟨fun _ e=>(nomatch e),fun _ _ e=>(nomatch e)⟩
 | d _=>cases o<;>first | exact h.elim | exact⟨fun _ e=>(nomatch e),fun _ _ e=>(nomatch e)⟩
 | n _=>cases o<;>first | exact h.elim | exact⟨fun _ e=>(nomatch e),fun _ _ e=>(nomatch e)⟩
 | g _=>cases o<;>first | exact h.elim | exact⟨fun _ e=>(nomatch e),fun _ _ e=>(nomatch e)⟩
 | o _ _=>cases o<;>first | exact h.elim | exact⟨fun _ e=>(nomatch e),fun _ _ e=>(nomatch e)⟩
 | t _=>cases o<;>first | exact h.elim | exact⟨fun _ e=>(nomatch e),fun _ _ e=>(nomatch e)⟩
theorem Ok.l{a:Addr}{xs:List PyData}(ok:Ok K Z m H)(h:m a=some (.l xs)):∃ vs,H a=some (.lst vs)/\RPs K Z m H xs vs:=by
 obtain⟨o,h1,h2⟩:=ok.g a _ h
 cases o<;>first | exact⟨_,h1,h2⟩ | exact h2.elim
theorem Ok.d{a:Addr}{xs:List (aJ×PyData)}(ok:Ok K Z m H)(h:m a=some (.d xs)):∃ vs,H a=some (.dK vs)/\RKV K Z m H xs vs:=by
 obtain⟨o,h1,h2⟩:=ok.g a _ h
 cases o<;>first | exact⟨_,h1,h2⟩ | exact h2.elim
theorem Ok.t{a:Addr}{xs:List (List aJ×PyData)}(ok:Ok K Z m H)(h:m a=some (.t xs)):∃ vs,H a=some (.dT vs)/\RKV K Z m H xs vs:=by
 obtain⟨o,h1,h2⟩:=ok.g a _ h
 cases o<;>first | exact⟨_,h1,h2⟩ | exact h2.elim
theorem RPs.length:∀ {xs:List PyData} {vs:List V},RPs K Z m H xs vs->vs.length=xs.length
 | [],_,h=>by simp only[RPs]at h;subst h;rfl
 | _::xs,_,h=>by
  simp only[RPs]at h;obtain⟨v,r,h1,_,h3⟩:=h;subst h1;rw[List.length_cons,List.length_cons,RPs.length h3]
theorem RDs.length:∀ {xs:List D} {vs:List V},RDs K Z m H xs vs->vs.length=xs.length
 | [],_,h=>by cases (show _=[] from h);rfl
 | _::xs,_,⟨v,r,h1,_,h3⟩=>by
  subst h1;rw[List.length_cons,List.length_cons,RDs.length h3]
theorem RPs.get:∀ {xs:List PyData} {vs:List V} {i:Nat} {p:PyData},RPs K Z m H xs vs->xs[i]?=some p->∃ v,vs[i]?=some v/\RP K Z m H p v
 | [],_,_,_,_,e=>by simp at e
 | x::xs,_,0,p,h,e=>by
  simp only[RPs]at h;obtain⟨v,r,h1,h2,_⟩:=h;simp at e;subst h1 e;exact⟨v,rfl,h2⟩
 | x::xs,_,i+1,p,h,e=>by
  simp only[RPs]at h;obtain⟨v,r,h1,_,h3⟩:=h;obtain⟨u,q1,q2⟩:=RPs.get (i:=i) (p:=p) h3 (by simpa using e)
  subst h1;exact⟨u,by simpa using q1,q2⟩
theorem RPs.set:∀ {xs:List PyData} {vs:List V} {i:Nat} {p:PyData} {v:V},RPs K Z m H xs vs->RP K Z m H p v->RPs K Z m H (xs.set i p) (vs.set i v)
 | [],_,_,_,_,h,_=>by simp only[RPs]at h;subst h;simp[RPs]
 | x::xs,_,0,p,v,h,q=>by
  simp only[RPs]at h;obtain⟨w,r,h1,_,h3⟩:=h;subst h1;simp only[List.set_cons_zero,RPs];exact⟨v,r,rfl,q,h3⟩
 | x::xs,_,i+1,p,v,h,q=>by
  simp only[RPs]at h;obtain⟨w,r,h1,h2,h3⟩:=h;subst h1;simp only[List.set_cons_succ,RPs];exact⟨w,_,rfl,h2,RPs.set h3 q⟩
theorem RPs.append:∀ {xs ys:List PyData} {vs ws:List V},RPs K Z m H xs vs->RPs K Z m H ys ws->RPs K Z m H (xs++ys) (vs++ws)
 | [],_,_,_,h,q=>by simp only[RPs]at h;subst h;simpa using q
 | x::xs,_,_,_,h,q=>by
  simp only[RPs]at h;obtain⟨w,r,h1,h2,h3⟩:=h;subst h1;simp only[List.cons_append,RPs];exact⟨w,_,rfl,h2,RPs.append h3 q⟩
theorem RPs.drop:∀ {xs:List PyData} {vs:List V} (n:Nat),RPs K Z m H xs vs->RPs K Z m H (xs.drop n) (vs.drop n)
 | _,_,0,h=>by simpa using h
 | [],_,n+1,h=>by simp only[RPs]at h;subst h;simp[RPs]
 | x::xs,_,n+1,h=>by
  simp only[RPs]at h;obtain⟨w,r,h1,h2,h3⟩:=h;subst h1;simpa using RPs.drop n h3
theorem RPs.take:∀ {xs:List PyData} {vs:List V} (n:Nat),RPs K Z m H xs vs->RPs K Z m H (xs.take n) (vs.take n)
 | _,_,0,h=>by simp[RPs]
 | [],_,n+1,h=>by simp only[RPs]at h;subst h;simp[RPs]
 | x::xs,_,n+1,h=>by
  simp only[RPs]at h;obtain⟨w,r,h1,h2,h3⟩:=h;subst h1;simp only[List.take_succ_cons,RPs];exact⟨w,_,rfl,h2,RPs.take n h3⟩
theorem RPs.reverse:∀ {xs:List PyData} {vs:List V},RPs K Z m H xs vs->RPs K Z m H xs.reverse vs.reverse
 | [],_,h=>by simp only[RPs]at h;subst h;simp[RPs]
 | x::xs,_,h=>by
  simp only[RPs]at h;obtain⟨w,r,h1,h2,h3⟩:=h;subst h1;rw[List.reverse_cons,List.reverse_cons];exact(RPs.reverse h3).append (by simp only[RPs];exact⟨w,[],rfl,h2,rfl⟩)
@[simp] def pds:List D->Option (List PyData)
 | []=>some []
 | .dat p::r=>(pds r).map (p :: ·)
 | .cel _::_=>none
theorem RDs.pds:∀ {xs:List D} {vs:List V} {ps:List PyData},RDs K Z m H xs vs->DL.pds xs=some ps->RPs K Z m H ps vs
 | [],vs,ps,h,e=>by
  cases (show vs=[] from h)
  cases (show some []=some ps from e)
  simp[RPs]
 | .dat p::r,vs,ps,⟨v,w,h1,h2,h3⟩,e=>by
  simp only[DL.pds]at e
  cases q:DL.pds r with
  | none=>rw[q]at e;cases e
  | some qs =>
   rw[q]at e
   cases e
   simp only[RPs];exact⟨v,w,h1,h2,RDs.pds h3 q⟩
 | .cel a::r,_,_,_,e=>by simp only[DL.pds]at e;cases e
theorem SqT.same{a:Addr}{xs:List V}(e:Same H H')(h:SqT K H a xs):SqT K H' a xs:=by
 rcases h with (h | ⟨o,h⟩) | h
 ·exact .inl (.inl (e _ _ h))
 ·exact .inl (.inr ⟨o,e _ _ h⟩)
 ·exact .inr h
theorem Ext.grow(s:Same H H')(hz:∀ a,Z a->H a≠none):Ext K Z m H m H':=⟨fun _ _ h=>SqT.same s h,fun _ _ h1 h2=>⟨h1.1,s.seq h2⟩,fun a h=>by
 cases q:H a with
 | none=>exact absurd q (hz a h)
 | some o=>exact s a o q,fun _ h=>h,fun a o u h=>s _ _ h,fun _ _=>rfl⟩
theorem Ok.grow(s:Same H H')(ok:Ok K Z m H):Ok K Z m H':=by
 have e:Ext K Z m H m H':=Ext.grow s fun a h=>(ok.z a h).2
 refine⟨fun a c h=>?_,fun a h=>⟨(ok.z a h).1,by rw[e.z a h];exact(ok.z a h).2⟩⟩
 obtain⟨o,h1,h2⟩:=ok.g a c h;exact⟨o,s _ _ h1,h2.ext e⟩
theorem Ok.ext(s:Same H H')(ok:Ok K Z m H):Ext K Z m H m H':=Ext.grow s fun a h=>(ok.z a h).2
theorem bT{p:Addr}{o:HO}(h:H p=none):Same H (aE H p o):=fun b u q=>by rw[aV (lB q h)];exact q
def bC(m:Mu)(a:Addr)(c:Cel):Mu:=fun b=>if b=a then some c else m b
theorem bZ{a:Addr}{c:Cel}:bC m a c a=some c:=by unfold bC;rw[if_pos rfl]
theorem bF{a b:Addr}{c:Cel}(h:b≠a):bC m a c b=m b:=by unfold bC;rw[if_neg h]
theorem SqL.ne{p a:Addr}{xs:List V}(hp:H p=none)(hk:K.lookup p=none)(h:SqL K H a xs):a≠p:=by
 rintro rfl;rcases h with (h | ⟨o,h⟩) | ⟨o,_,_,h,_⟩
 ·rw[hp]at h;cases h
 ·rw[hp]at h;cases h
 ·rw[hk]at h;cases h
theorem Ext.cell{p:Addr}{o:HO}{c:Cel}(ok:Ok K Z m H)(hp:H p=none)(hk:K.lookup p=none):Ext K Z m H (bC m p c) (aE H p o):=by
 refine⟨fun _ _ h=>SqT.same (bT hp) h,fun a xs h1 h2=>?_,fun a h=>?_,fun a h=>?_,fun a o u h=>bT hp _ _ h,fun a h=>?_⟩
 ·have ne:=SqL.ne hp hk h2
  exact⟨by rw[bF ne];exact h1.1,(bT hp).seq h2⟩
 ·have ne:a≠p:=fun e=>(ok.z a h).2 (by rw[e];exact hp)
  exact aV ne
 ·by_cases e:a=p
  ·subst e;rw[bZ];rfl
  ·rw[bF e];exact h
 ·have ne:a≠p:=by
   rintro rfl
   cases q:m a with
   | none=>rw[q]at h;cases h
   | some x =>
    obtain⟨w,h1,_⟩:=ok.g a x q;rw[hp]at h1
    cases h1
  exact bF ne
theorem Ok.updC{p:Addr}{o:HO}{c:Cel}(ok:Ok K Z m H)(hz:¬ Z p)(e:Ext K Z m H (bC m p c) (aE H p o))(r:RC K Z m H c o):Ok K Z (bC m p c) (aE H p o):=by
 refine⟨fun a x h=>?_,fun a h=>?_⟩
 ·by_cases q:a=p
  ·subst q;rw[bZ]at h
   cases h
   exact⟨o,bQ,r.ext e⟩
  ·rw[bF q]at h;obtain⟨w,h1,h2⟩:=ok.g a x h;exact⟨w,by rw[aV q];exact h1,h2.ext e⟩
 ·have ne:a≠p:=fun e=>hz (e▸h)
  exact⟨by rw[bF ne];exact(ok.z a h).1,by rw[aV ne];exact(ok.z a h).2⟩
theorem Ok.cell{p:Addr}{o:HO}{c:Cel}(ok:Ok K Z m H)(hp:H p=none)(hk:K.lookup p=none)(r:RC K Z m H c o):Ok K Z (bC m p c) (aE H p o) :=
 ok.updC (fun h=>(ok.z p h).2 hp) (Ext.cell ok hp hk) r
theorem Ext.put{a:Addr}{o o0:HO}{c c0:Cel}(ok:Ok K Z m H)(hm:m a=some c0)(hH:H a=some o0)(nf:qW (some c0)=false:=by rfl):Ext K Z m H (bC m a c) (aE H a o):=by
 have mu:(∀ xs,o0≠.tup xs)/\(∀ a b,o0≠.frz a b):=by
  obtain⟨w,h1,h2⟩:=ok.g a c0 hm;rw[hH]at h1
  cases h1
  exact h2.mut nf
 refine⟨fun b xs h=>?_,fun b xs h1 h2=>?_,fun b h=>?_,fun b h=>?_,fun b w u h=>?_,fun b h=>?_⟩
 ·rcases h with (h | ⟨w,h⟩) | h
  ·have ne:b≠a:=by rintro rfl;rw[hH]at h;cases h;exact absurd rfl (mu.1 _)
   exact .inl (.inl (by rw[aV ne];exact h))
  ·have ne:b≠a:=by rintro rfl;rw[hH]at h;cases h;exact absurd rfl (mu.2 _ _)
   exact .inl (.inr ⟨w,by rw[aV ne];exact h⟩)
  ·exact .inr h
 ·have ne:b≠a:=by rintro rfl;rw[hm]at h1;cases h1.1
  refine⟨by rw[bF ne];exact h1.1,?_⟩
  rcases h2 with (h | ⟨w,h⟩) | h
  ·exact .inl (.inl (by rw[aV ne];exact h))
  ·exact .inl (.inr ⟨w,by rw[aV ne];exact h⟩)
  ·exact .inr h
 ·have ne:b≠a:=by rintro rfl;have:=(ok.z b h).1;rw[hm]at this;cases this
  exact aV ne
 ·by_cases e:b=a
  ·subst e;rw[bZ];rfl
  ·rw[bF e];exact h
 ·have ne:b≠a:=by rintro rfl;rw[hH]at h;cases h;exact absurd rfl (mu.2 _ _)
  rw[aV ne];exact h
 ·have ne:b≠a:=by rintro rfl;rw[hm,nf]at h;cases h
  exact bF ne
theorem Ok.put{a:Addr}{o o0:HO}{c c0:Cel}(ok:Ok K Z m H)(hm:m a=some c0)(hH:H a=some o0)(r:RC K Z m H c o)(nf:qW (some c0)=false:=by rfl):Ok K Z (bC m a c) (aE H a o) :=
 ok.updC (fun h=>by have:=(ok.z a h).1;rw[hm]at this;cases this) (Ext.put ok hm hH nf) r
def RS(K:PySem.W.Frag)(Z:Addr->Prop)(m:Mu)(H:Hp)(d:aT)(s:L2.St):Prop:=d.length=s.length/\∀ (i:Nat) (x:D),d[i]?=some (some x)->∃ v,s[i]?=some (some v)/\RD K Z m H x v
theorem RS.ext{d:aT}{s:L2.St}(r:RS K Z m H d s)(e:Ext K Z m H m' H'):RS K Z m' H' d s:=⟨r.1,fun i x h=>let ⟨v,h1,h2⟩:=r.2 i x h;⟨v,h1,h2.ext e⟩⟩
theorem RS.set{d:aT}{s:L2.St}{i:Nat}{x:D}{v:V}(r:RS K Z m H d s)(h:RD K Z m H x v):RS K Z m H (d.set i (some x)) (s.set i (some v)):=by
 refine⟨by rw[List.length_set,List.length_set];exact r.1,fun j y q=>?_⟩
 by_cases e:j=i
 ·subst e;rw[List.getElem?_set]at q;simp only[if_true]at q
  split at q
  ·rename_i hl
   cases q
   refine⟨v,?_,h⟩;rw[List.getElem?_set];simp only[if_true];rw[if_pos (by rw[<- r.1];exact hl)]
  ·cases q
 ·rw[List.getElem?_set_ne (Ne.symm e)]at q;obtain⟨w,h1,h2⟩:=r.2 j y q;exact⟨w,by rw[List.getElem?_set_ne (Ne.symm e)];exact h1,h2⟩
end
abbrev DK:=D->Mu->Prop
abbrev DE:=aT->Mu->DK->Prop
abbrev DT:=aT->Mu->(Bool->Mu->Prop)->Prop
abbrev DA:=aT->Mu->(List D->Mu->Prop)->Prop
structure Ends2 where
 nx:aT->Mu->Prop
 rt:DK
 bk:aT->Mu->Prop:=fun _ _=>False
 ct:aT->Mu->Prop:=fun _ _=>False
abbrev DS:=Ends2->aT->Mu->Prop
def LE(K:PySem.W.Frag)(f:DE):TE:=fun s H Q=>∃ (Z:Addr->Prop) (d:aT) (m:Mu) (R:DK),Ok K Z m H/\RS K Z m H d s/\f d m R /\
 ∀ x m' v H',R x m'->Ext K Z m H m' H'->Ok K Z m' H'->RD K Z m' H' x v->Q v H'
def LT(K:PySem.W.Frag)(f:DT):TT:=fun s H Q=>∃ (Z:Addr->Prop) (d:aT) (m:Mu) (R:Bool->Mu->Prop),Ok K Z m H/\RS K Z m H d s/\f d m R /\
 ∀ b m' H',R b m'->Ext K Z m H m' H'->Ok K Z m' H'->Q b H'
def LA(K:PySem.W.Frag)(f:DA):TA:=fun s H Q=>∃ (Z:Addr->Prop) (d:aT) (m:Mu) (R:List D->Mu->Prop),Ok K Z m H/\RS K Z m H d s/\f d m R /\
 ∀ xs m' vs H',R xs m'->Ext K Z m H m' H'->Ok K Z m' H'->RDs K Z m' H' xs vs->Q vs H'
def LS(K:PySem.W.Frag)(f:DS):TS:=fun E s H=>∃ (Z:Addr->Prop) (d:aT) (m:Mu) (R:Ends2),Ok K Z m H/\RS K Z m H d s/\f R d m /\
 (∀ d' m' s' H',R.nx d' m'->Ext K Z m H m' H'->Ok K Z m' H'->RS K Z m' H' d' s'->E.nx s' H') /\
 (∀ x m' v H',R.rt x m'->Ext K Z m H m' H'->Ok K Z m' H'->RD K Z m' H' x v->E.rt v H') /\
 (∀ d' m' s' H',R.bk d' m'->Ext K Z m H m' H'->Ok K Z m' H'->RS K Z m' H' d' s'->E.bk s' H') /\
 (∀ d' m' s' H',R.ct d' m'->Ext K Z m H m' H'->Ok K Z m' H'->RS K Z m' H' d' s'->E.ct s' H')
theorem PE.imp{X:Cx}{e:Expr}{t t':TE}(h:PE X e t)(q:∀ s H Q,t' s H Q->t s H Q):PE X e t':=fun pins s d H Q I w=>h pins s d H Q I (q _ _ _ w)
theorem PT.imp{X:Cx}{e:Expr}{t t':TT}(h:PT X e t)(q:∀ s H Q,t' s H Q->t s H Q):PT X e t':=fun pins s d H Q I w=>h pins s d H Q I (q _ _ _ w)
theorem PA.imp{X:Cx}{e:List Expr}{t t':TA}(h:PA X e t)(q:∀ s H Q,t' s H Q->t s H Q):PA X e t':=fun pos pins s d H Q I w=>h pos pins s d H Q I (q _ _ _ w)
theorem PS.imp{X:Cx}{e:Stmt}{t t':TS}(h:PS X e t)(q:∀ E s H,t' E s H->t E s H):PS X e t':=fun pins s d H E I w=>h pins s d H E I (q _ _ _ w)
theorem PSs.imp{X:Cx}{e:List Stmt}{t t':TS}(h:PSs X e t)(q:∀ E s H,t' E s H->t E s H):PSs X e t':=fun pins s d H E I w=>h pins s d H E I (q _ _ _ w)
section
variable {X:Cx}{pos:Pos}
@[simp] def aA(i:Nat):DE:=fun d m Q=>∃ x,d[i]?=some (some x)/\Q x m
theorem b6(i:Nat){x:Str}(hN:X.N[i]?=some x:=by rfl)(hv:iQ X.env.scope x:=by first | exact Or.inl rfl | exact Or.inr (Or.inl rfl) | exact Or.inr (Or.inr rfl))(hd:(x==("__debug__" : Str))=false:=by decide)
  (hcd:(x==("__classdict__" : Str))=false:=by decide):PE X (.Name x pos) (LE X.K (aA i)) :=
 PE.imp (Ts hN hv hd hcd) fun s H Q h=>by
  obtain⟨Z,d,m,R,ok,rs,⟨x,h1,h2⟩,k⟩:=h;obtain⟨v,q1,q2⟩:=rs.2 i x h1;exact⟨v,q1,k x m v H h2 Ext.refl ok q2⟩
@[simp] def aH(p:PyData):DE:=fun _ m Q=>Q (.dat p) m
theorem uV{e:Expr}{p:PyData}{v:V}(h:PE X e (tC v))(r:∀ Z m H,RP X.K Z m H p v):PE X e (LE X.K (aH p)) :=
 PE.imp h fun s H Q ⟨Z,d,m,R,ok,rs,h2,k⟩=>k _ m v H h2 Ext.refl ok (r Z m H)
theorem Za{i:Int}{j:Nat}:PE X (.Constant (.int i) j pos) (LE X.K (aH (.int i))):=uV V8 fun Z m H=>by simp only[RP]
theorem R1{b:Bool}{j:Nat}:PE X (.Constant (.bool b) j pos) (LE X.K (aH (.bool b))):=uV Rc fun Z m H=>by simp only[RP]
theorem G2{j:Nat}:PE X (.Constant .none j pos) (LE X.K (aH .none)):=uV CA fun Z m H=>by simp only[RP]
theorem E4{x:Str}{j:Nat}:PE X (.Constant (.str x) j pos) (LE X.K (aH (.str x))):=uV Vb fun Z m H=>by simp only[RP]
end
end DL
namespace DL
open PySem PySem.Spec PyProof.Rows L2
section
variable {X:Cx}{pins:List (Addr×Obj)}{σ:L2.St}{H:Hp}{s:Shared}{Z:Addr->Prop}{m:Mu}
mutual
theorem RP.reads(I:Inv X pins σ H s):∀ (p:PyData) (v:V) (u:Value),RP X.K Z m H p v->RelV v u->∃ as,Reads s.heap u p as
 | .none,v,u,h,r=>by simp only[RP]at h;subst h;cases r;exact⟨_,.none⟩
 | .bool b,v,u,h,r=>by simp only[RP]at h;subst h;cases r;exact⟨_,.bool b⟩
 | .int i,v,u,h,r=>by simp only[RP]at h;subst h;obtain⟨t,rfl⟩:=r;exact⟨_,.int i t⟩
 | .str x,v,u,h,r=>by simp only[RP]at h;subst h;obtain⟨t,rfl⟩:=r;exact⟨_,.str x t⟩
 | .tuple xs,v,u,h,r=>by
  simp only[RP]at h;obtain⟨a,vs,rfl,h2,h3⟩:=h
  cases r
  obtain⟨its,rv,⟨o,e,c,n,d⟩,_⟩:=I.tuple h2;obtain⟨as,q⟩:=RPs.reads I xs vs its h3 rv;exact⟨_,.tuple e c d (by simpa using q)⟩
 | .list xs,v,u,h,r=>by
  simp only[RP]at h;obtain⟨a,vs,rfl,_,h2,h3⟩:=h
  cases r
  obtain⟨its,rv,⟨o,n,e,c,_,d⟩,_⟩:=I.list h2;obtain⟨as,q⟩:=RPs.reads I xs vs its h3 rv;exact⟨_,.list e c d (by simpa using q)⟩
 | .dict _,v,u,h,r=>by simp only[RP]at h
theorem RPs.reads(I:Inv X pins σ H s):∀ (xs:List PyData) (vs:List V) (us:List Value),RPs X.K Z m H xs vs->Vals vs us->∃ as,ReadsAll s.heap us xs as
 | [],vs,us,h,r=>by simp only[RPs]at h;subst h;cases r;exact⟨_,.nil⟩
 | x::xs,vs,us,h,r=>by
  simp only[RPs]at h;obtain⟨v,w,rfl,h1,h2⟩:=h
  cases r with
  | cons r1 r2 =>
   obtain⟨as,q1⟩:=RP.reads I x v _ h1 r1;obtain⟨bs,q2⟩:=RPs.reads I xs w _ h2 r2;exact⟨_,.cons q1 q2⟩
end
end
abbrev D2:=D->D->Mu->DK->Prop
def cI(X:Cx)(op:Value->Value->Sem Value)(r:D2):Prop :=
 ∀ (pins:List (Addr×Obj)) (s:Shared) (σ:L2.St) (H:Hp) (Z:Addr->Prop) (m:Mu) (x y:V) (dx dy:D) (v u:Value) (R:DK) (Q:VK),Inv X pins σ H s->Ok X.K Z m H->RelV x v->RelV y u->RD X.K Z m H dx x->RD X.K Z m H dy y->r dx dy m R ->
  (∀ d m' v' H',R d m'->Ext X.K Z m H m' H'->Ok X.K Z m' H'->RD X.K Z m' H' d v'->Q v' H')->wpAny (model X.prog X.w) X.A (op v u) (EP X pins σ Q) X.xe s
@[simp] def aL(r:D2)(f g:DE):DE:=fun d m Q=>f d m fun x m1=>g d m1 fun y m2=>r x y m2 Q
section
variable {X:Cx}{a b c:Expr}{f g:DE}{pos:Pos}
theorem Dc{op:Value->Value->Sem Value}{r:D2}(ho:cI X op r)(ha:PE X a (LE X.K f))(hb:PE X b (LE X.K g)){pins:List (Addr×Obj)}{s:Shared}{σ:L2.St}{H:Hp}{Q:VK}(I:Inv X pins σ H s)
  (h:LE X.K (aL r f g) σ H Q) :
  wpAny (model X.prog X.w) X.A (eval a X.env) (fun v s₁=>wpAny (model X.prog X.w) X.A (eval b X.env) (fun u s₂=>wpAny (model X.prog X.w) X.A (op v u) (EP X pins σ Q) X.xe s₂) X.xe s₁) X.xe s:=by
 obtain⟨Z,d,m,R,ok,rs,hf,k⟩:=h;refine Od ha hb I (R:=fun x y H2=>∃ m2 dx dy,Ok X.K Z m2 H2/\Ext X.K Z m H m2 H2/\RD X.K Z m2 H2 dx x/\RD X.K Z m2 H2 dy y/\r dx dy m2 R) ?_ fun v u s2 x y H2 I2 rx ry ⟨m2,dx,dy,ok2,e2,r1,r2,q⟩=>?_
 ·exact⟨Z,d,m,_,ok,rs,hf,fun x m1 v H1 q e1 ok1 r1=>⟨Z,d,m1,_,ok1,rs.ext e1,q,fun y m2 v2 H2 q2 e2 ok2 r2=>⟨m2,x,y,ok2,e1.trans e2,r1.ext e2,r2,q2⟩⟩⟩
 ·exact ho pins s2 σ H2 Z m2 x y dx dy v u R Q I2 ok2 rx ry r1 r2 q fun d' m' v' H' h1 h2 h3 h4=>k d' m' v' H' h1 (e2.trans h2) h3 h4
theorem Tn{op:Operator}{r:D2}(ho:cI X (binaryOp op) r)(ha:PE X a (LE X.K f))(hb:PE X b (LE X.K g)):PE X (.BinOp a op b pos) (LE X.K (aL r f g)) :=
 fun _ _ _ _ _ I h=>wpAny_BinOp (Dc ho ha hb I h)
theorem Pq{op:CmpOp}{r:D2}(ho:cI X (compareOp op) r)(ha:PE X a (LE X.K f))(hb:PE X b (LE X.K g))(hm:behindInMarks op b=false:=by exact wS _):PE X (.Compare a [op] [b] pos) (LE X.K (aL r f g)) :=
 fun _ _ _ _ _ I h=>wpAny_Compare1 (Dc ho ha hb I h) hm
@[simp] def bG(f:DE):DT:=fun d m Q=>f d m fun x m1=>∃ b,x=.dat (.bool b)/\Q b m1
theorem LT.le{K:PySem.W.Frag}{σ:L2.St}{H:Hp}{Q:Bool->Hp->Prop}(h:LT K (bG f) σ H Q):LE K f σ H (fun x H'=>∃ k,x=.bl k/\Q k H'):=by
 obtain⟨Z,d,m,R,ok,rs,hf,k⟩:=h;refine⟨Z,d,m,_,ok,rs,hf,fun x m' v H' ⟨b,e,q⟩ e1 ok1 rd=>⟨b,?_,k b m' H' q e1 ok1⟩⟩;subst e;simpa only[RD,RP] using rd
theorem Py{op:CmpOp}{r:D2}(ho:cI X (compareOp op) r)(ha:PE X a (LE X.K f))(hb:PE X b (LE X.K g))(hm:behindInMarks op b=false:=by exact wS _):PT X (.Compare a [op] [b] pos) (LT X.K (bG (aL r f g))):=by
 intro pins s σ H Q I h;refine wpAny_isTrue_Compare1 (aI (Dc ho ha hb I h.le) fun v s1 h1=>aI h1 fun u s2 h2=>aI h2 fun c s3 ⟨z,H3,I3,r3,k,e,q3⟩=>?_) hm;subst e
 cases r3
 exact wpAny_truthy_bool ⟨H3,I3,q3⟩
theorem Rt(h:PE X a (LE X.K f))(he:∀ whole,isTrue a X.env whole=(do let v <- whole;standAt a.pos;holding [v] (truthy v)):=by intro _;rfl):PT X a (LT X.K (bG f)) :=
 PT.imp (O2 h he) fun _ _ _ q=>q.le
end
section
variable {X:Cx}{a b c:Expr}{rest:List Expr}{f g:DE}{t u:DT}{pos:Pos}
@[simp] def qV(t u:DT):DT:=fun d m Q=>t d m fun k m1=>if k=true then u d m1 Q else Q false m1
@[simp] def lS(t u:DT):DT:=fun d m Q=>t d m fun k m1=>if k=true then Q true m1 else u d m1 Q
@[simp] def pO(t:DT):DT:=fun d m Q=>t d m fun k m1=>Q (!k) m1
theorem PW.imp{e:Expr}{t t':TT}(h:PW X e t)(q:∀ s H Q,t' s H Q->t s H Q):PW X e t':=fun wh pins s d H Q I w=>h wh pins s d H Q I (q _ _ _ w)
theorem X7(ha:PT X a (LT X.K t)):PW X (.BoolOp .And [a] pos) (LT X.K t):=Op ha
theorem A5(ha:PT X a (LT X.K t)):PW X (.BoolOp .Or [a] pos) (LT X.K t):=Zv ha
theorem BD(ha:PT X a (LT X.K t))(hb:PW X (.BoolOp .And (b::rest) pos) (LT X.K u)):PW X (.BoolOp .And (a::b::rest) pos) (LT X.K (qV t u)) :=
 PW.imp (J6 ha hb) fun s H Q ⟨Z,d,m,R,ok,rs,h,k⟩=>⟨Z,d,m,_,ok,rs,h,fun b m1 H1 q e1 ok1=>by
  cases b with
  | true=>rw[if_pos rfl]at q ⊢;exact⟨Z,d,m1,R,ok1,rs.ext e1,q,fun b' m2 H2 q2 e2 ok2=>k b' m2 H2 q2 (e1.trans e2) ok2⟩
  | false=>rw[if_neg Bool.false_ne_true]at q ⊢;exact k false m1 H1 q e1 ok1⟩
theorem Ux(ha:PT X a (LT X.K t))(hb:PW X (.BoolOp .Or (b::rest) pos) (LT X.K u)):PW X (.BoolOp .Or (a::b::rest) pos) (LT X.K (lS t u)) :=
 PW.imp (L4 ha hb) fun s H Q ⟨Z,d,m,R,ok,rs,h,k⟩=>⟨Z,d,m,_,ok,rs,h,fun b m1 H1 q e1 ok1=>by
  cases b with
  | false=>rw[if_neg Bool.false_ne_true]at q ⊢;exact⟨Z,d,m1,R,ok1,rs.ext e1,q,fun b' m2 H2 q2 e2 ok2=>k b' m2 H2 q2 (e1.trans e2) ok2⟩
  | true=>rw[if_pos rfl]at q ⊢;exact k true m1 H1 q e1 ok1⟩
theorem w6(ha:PT X a (LT X.K t)):PT X (.UnaryOp .Not a pos) (LT X.K (pO t)) :=
 PT.imp (N3 ha) fun s H Q ⟨Z,d,m,R,ok,rs,h,k⟩=>⟨Z,d,m,_,ok,rs,h,fun b m1 H1 q e1 ok1=>k (!b) m1 H1 q e1 ok1⟩
@[simp] def yQ(f g:DE):DE:=fun d m Q=>f d m fun x m1=>∃ b,x=.dat (.bool b)/\if b=true then g d m1 Q else Q (.dat (.bool false)) m1
theorem RD.bl{K:PySem.W.Frag}{Z:Addr->Prop}{m:Mu}{H:Hp}{b:Bool}{v:V}(h:RD K Z m H (.dat (.bool b)) v):v=.bl b:=by simpa only[RD,RP] using h
theorem RD.ofBl{K:PySem.W.Frag}{Z:Addr->Prop}{m:Mu}{H:Hp}{b:Bool}:RD K Z m H (.dat (.bool b)) (.bl b):=by simp only[RD,RP]
theorem Sy{op:BoolOp}(h:PE X a (LE X.K f)):PE X (.BoolOp op [a] pos) (LE X.K f):=CI h
theorem Rg(ha:PE X a (LE X.K f))(hb:PE X (.BoolOp .And (b::rest) pos) (LE X.K g)):PE X (.BoolOp .And (a::b::rest) pos) (LE X.K (yQ f g)) :=
 PE.imp (Zf ha hb) fun s H Q ⟨Z,d,m,R,ok,rs,h,k⟩=>⟨Z,d,m,_,ok,rs,h,fun x m1 v H1 ⟨b,e,q⟩ e1 ok1 rd=>by
  subst e;refine⟨b,rd.bl,?_⟩
  cases b with
  | true=>rw[if_pos rfl]at q ⊢;exact⟨Z,d,m1,R,ok1,rs.ext e1,q,fun x2 m2 v2 H2 q2 e2 ok2 r2=>k x2 m2 v2 H2 q2 (e1.trans e2) ok2 r2⟩
  | false=>rw[if_neg Bool.false_ne_true]at q ⊢;exact k _ m1 _ H1 q e1 ok1 .ofBl⟩
@[simp] def Fh(t:DT)(f g:DE):DE:=fun d m Q=>t d m fun k m1=>if k=true then f d m1 Q else g d m1 Q
theorem E5(hc:PT X c (LT X.K t))(ha:PE X a (LE X.K f))(hb:PE X b (LE X.K g)):PE X (.IfExp c a b pos) (LE X.K (Fh t f g)) :=
 PE.imp (Xi hc ha hb) fun s H Q ⟨Z,d,m,R,ok,rs,h,k⟩=>⟨Z,d,m,_,ok,rs,h,fun b m1 H1 q e1 ok1=>by
  cases b with
  | true=>rw[if_pos rfl]at q ⊢;exact⟨Z,d,m1,R,ok1,rs.ext e1,q,fun x2 m2 v2 H2 q2 e2 ok2 r2=>k x2 m2 v2 H2 q2 (e1.trans e2) ok2 r2⟩
  | false=>rw[if_neg Bool.false_ne_true]at q ⊢;exact⟨Z,d,m1,R,ok1,rs.ext e1,q,fun x2 m2 v2 H2 q2 e2 ok2 r2=>k x2 m2 v2 H2 q2 (e1.trans e2) ok2 r2⟩⟩
end
section
variable {X:Cx}{e:Expr}{es:List Expr}{f:DE}{g:DA}{pos:Pos}
@[simp] def aN:DA:=fun _ m Q=>Q [] m
@[simp] def aC(f:DE)(g:DA):DA:=fun d m Q=>f d m fun x m1=>g d m1 fun xs m2=>Q (x::xs) m2
theorem wM:PA X [] (LA X.K aN):=PA.imp uG fun s H Q ⟨Z,d,m,R,ok,rs,h,k⟩=>k [] m [] H h Ext.refl ok rfl
theorem lC(ha:PE X e (LE X.K f))(hr:PA X es (LA X.K g))(hs:starEach (e::es) X.env=(false,eval e X.env)::starEach es X.env:=by rfl):PA X (e::es) (LA X.K (aC f g)) :=
 PA.imp (vA ha hr hs) fun s H Q ⟨Z,d,m,R,ok,rs,h,k⟩=>⟨Z,d,m,_,ok,rs,h,fun x m1 v H1 q e1 ok1 r1=>⟨Z,d,m1,_,ok1,rs.ext e1,q,fun xs m2 vs H2 q2 e2 ok2 r2 =>
  k (x::xs) m2 (v::vs) H2 q2 (e1.trans e2) ok2 ⟨v,vs,rfl,r1.ext e2,r2⟩⟩⟩
@[simp] def eS(g:DA):DE:=fun d m Q=>g d m fun xs m1=>∃ ps,pds xs=some ps/\ps.length<=sizeLine/\Q (.dat (.tuple ps)) m1
theorem P8{j:Nat}(h:PA X es (LA X.K g)):PE X (.Tuple es j pos) (LE X.K (eS g)) :=
 PE.imp (C8 h) fun s H Q ⟨Z,d,m,R,ok,rs,h,k⟩=>⟨Z,d,m,_,ok,rs,h,fun xs m1 vs H1 ⟨ps,e,hz,q⟩ e1 ok1 r1=>by
  have rp:=r1.pds e
  refine⟨by rw[rp.length];exact hz,fun p hp=>?_⟩
  have sm:Same H1 (aE H1 p (.tup vs)):=bT hp
  refine k _ m1 _ _ q (e1.trans (ok1.ext sm)) (ok1.grow sm) ?_;simp only[RD,RP];exact⟨p,vs,rfl,.inl (.inl bQ),RPs.ext (ok1.ext sm) _ _ rp⟩⟩
@[simp] def qY(g:DA):DE:=fun d m Q=>g d m fun xs m1=>∃ ps,pds xs=some ps/\ps.length<=sizeLine/\Q (.dat (.list ps)) m1
theorem T9{t:TA}(h:PA X es t):PE X (.List es pos) (fun s H Q=>t s H fun xs H1=>xs.length<=sizeLine/\∀ p,H1 p=none->X.K.lookup p=none->Q (.ref p) (aE H1 p (.lst xs))):=by
 intro pins s σ H Q I hq;refine wpAny_List_spliced (aI (h pos pins s σ H _ I hq) fun us s1 ⟨xs,H1,I1,r,z,q⟩=>⟨by rw[<- r.length];exact z,?_⟩)
 have hf:H1 s1.heap.objs.size=none:=I1.hok.fresh (Nat.le_refl _)
 have hk:X.K.lookup s1.heap.objs.size=none:=by
  cases e:X.K.lookup s1.heap.objs.size with
  | none=>rfl
  | some o=>exact absurd (Heap.lt_size (I1.kIn _ o e)) (Nat.lt_irrefl _)
 refine⟨.ref s1.heap.objs.size,aE H1 s1.heap.objs.size (.lst xs),I1.laid (t':=s1.toks) (fun b u e=>Heap.get?_push_of_some _ e) (Nat.le_refl _) ?_,rfl,q _ hf hk⟩;exact⟨z,us,0,r,Heap.get?_push_size _ rfl⟩
theorem eU{K:PySem.W.Frag}{Z:Addr->Prop}{m:Mu}{H:Hp}{p:Addr}(ok:Ok K Z m H)(hp:H p=none):m p=none/\¬ Z p:=by
 refine⟨?_,fun h=>(ok.z p h).2 hp⟩
 cases e:m p with
 | none=>rfl
 | some ds =>
  obtain⟨vs,h1,_⟩:=ok.g p ds e;rw[hp]at h1
  cases h1
theorem So(h:PA X es (LA X.K g)):PE X (.List es pos) (LE X.K (qY g)) :=
 PE.imp (T9 h) fun s H Q ⟨Z,d,m,R,ok,rs,h,k⟩=>⟨Z,d,m,_,ok,rs,h,fun xs m1 vs H1 ⟨ps,e,hz,q⟩ e1 ok1 r1=>by
  have rp:=r1.pds e
  refine⟨by rw[rp.length];exact hz,fun p hp hk=>?_⟩
  have sm:Same H1 (aE H1 p (.lst vs)):=bT hp
  refine k _ m1 _ _ q (e1.trans (ok1.ext sm)) (ok1.grow sm) ?_;simp only[RD,RP];exact⟨p,vs,rfl,eU ok1 hp,.inl (.inl bQ),RPs.ext (ok1.ext sm) _ _ rp⟩⟩
end
end DL
namespace DL
open PySem PySem.Spec PyProof.Rows L2
theorem Xa:fillsNumberSlot (.type "tuple") "mul"=pure false:=PySem.fillsNumberSlot_seq (id:="tuple.__mul__") (r:=some (.builtin "tuple.__rmul__")) PySem.F.slot_tuple_mul.lookup (by decide +kernel) PySem.F.slot_tuple_rmul.lookup (by decide +kernel)
theorem D1:seqRepeat? (.type "tuple")=pure (some (.builtin "tuple.__mul__")):=by
 unfold seqRepeat?;rw[PySem.seqSlot_of (T:="tuple") (name:="__mul__") (id:="tuple.__mul__") PySem.F.slot_tuple_mul.lookup (by decide +kernel),PySem.seqSlot_of (T:="tuple") (name:="__rmul__") (id:="tuple.__rmul__") PySem.F.slot_tuple_rmul.lookup (by decide +kernel)]
 rfl
theorem j1(a:Int)(t:Tok)(l:Addr)(its:Array Value)(n:Nat)(dd:Option Addr)(sl:Array (Option Value)):Meets (Builtin.«int.__rmul__» ⟨[.int a t,.ref l],[]⟩) (fun _ R s=>s.heap.get? l=some {cls:=.type "tuple",dict:=dd,data:=.seq its n,slots:=sl}/\R (.ok (.ret Value.notImplemented)) s) :=
 .of_wp fun prog w A R s hs=>by
  obtain⟨hp,g,d,tk,os⟩:=s;obtain⟨hl,h⟩:=hs
  wp_walk
  exact⟨_,rfl,h⟩
theorem Du(vs:List Value):∀ (n:Nat) (acc:List Value),(List.replicate n vs.toArray).foldl (·++·) acc.toArray=(acc++(List.replicate n vs).flatten).toArray
 | 0,acc=>by simp
 | n+1,acc=>by
  rw[List.replicate_succ,List.foldl_cons,List.replicate_succ,List.flatten_cons];have:=Du vs n (acc++vs)
  rw[<- List.append_assoc,<- this];simp
theorem Cj{α:Type}(xs:List α):∀ n:Nat,(List.replicate n xs).flatten.length=xs.length*n
 | 0=>by simp
 | n+1=>by rw[List.replicate_succ,List.flatten_cons,List.length_append,Cj xs n,Nat.mul_succ,Nat.add_comm]
theorem Xc(t:Addr)(its:Array Value)(k:Int)(tok:Tok)(h1:its.size≠0)(h2:2<=k)(h3:k<=100)(h4:its.size*k.toNat<=sizeLine):Meets (Builtin.«tuple.__mul__» ⟨[.ref t,.int k tok],[]⟩)
  (fun _ R s=>IsTup s.heap t its/\R (.ok (.ret (.ref s.heap.objs.size))) {s with heap:=s.heap.push {cls:=.type "tuple",data:=.seq ((List.replicate k.toNat its).foldl (·++·) #[])}}) :=
 .of_wp fun prog w A R s hs=>by
  obtain⟨ht,h⟩:=hs;show wpAny _ _ (asIndex (.int k tok)>>=_) _ _ _
  refine wpAny_bind (wpAny_pure ?_);show wpAny _ _ (if (decide (k < -(2^63))||decide (k ≥ 2^63))=true then _ else _) _ _ _
  rw[if_neg (by simp;omega)]
  show wpAny _ _ (Builtin.Tuple.tupleItemsOf (.ref t)>>=_) _ _ _
  refine wpAny_bind (tupleItemsOf_ ht ?_);have e1:its.isEmpty=false:=by
   rw[Array.isEmpty_eq_false_iff];rintro rfl;exact h1 rfl
  have e2:(k==1)=false:=by
   rw[beq_eq_false_iff_ne];omega
  show wpAny _ _ (if (its.isEmpty||k==1)=true then _ else _) _ _ _
  rw[e1,e2,if_neg (by simp)]
  show wpAny _ _ (if (decide (k<=0)||false)=true then _ else _) _ _ _
  rw[if_neg (by simp;omega)]
  have hk:((its.size:Nat):Int)*k=((its.size*k.toNat:Nat):Int):=by
   push_cast
   rw[Int.toNat_of_nonneg (by omega)]
  have hs:=kS
  show wpAny _ _ (if ((its.size:Nat):Int)*k > (2^63-1) / 8 then _ else _) _ _ _
  rw[if_neg ?c1]
  case c1 =>
   rw[hk];have:(sizeLine:Nat)<=(2^63-1) / 8:=by decide
   omega
  show wpAny _ _ (if (decide (((its.size:Nat):Int)*k > (sizeLine:Int)))=true then _ else _) _ _ _
  rw[if_neg ?c2]
  case c2 =>
   rw[hk];intro q;have q':=of_decide_eq_true q
   omega
  show wpAny _ _ (Builtin.Tuple.tupleExact ((List.replicate k.toNat its).foldl (·++·) #[])>>=_) _ _ _
  refine wpAny_bind (m:=Builtin.Tuple.tupleExact _) (wpAny_newObj_type (wpAny_pure ⟨_,rfl,h⟩) ?_);show((List.replicate k.toNat its).foldl (·++·) #[]).size<=sizeLine
  have e:=Du its.toList k.toNat []
  rw[List.nil_append]at e;have e':(List.replicate k.toNat its).foldl (·++·) #[]=(List.replicate k.toNat its.toList).flatten.toArray:=e
  rw[e',List.size_toArray,Cj,Array.length_toList];exact h4
theorem Vals.rep{xs:List V}{us:List Value}(h:Vals xs us):∀ n:Nat,Vals (List.replicate n xs).flatten (List.replicate n us).flatten
 | 0=>.nil
 | n+1=>by
  rw[List.replicate_succ,List.replicate_succ,List.flatten_cons,List.flatten_cons];exact h.append (Vals.rep h n)
theorem RPs.rep{K:PySem.W.Frag}{Z:Addr->Prop}{m:Mu}{H:Hp}{xs:List PyData}{vs:List V}(h:RPs K Z m H xs vs):∀ n:Nat,RPs K Z m H (List.replicate n xs).flatten (List.replicate n vs).flatten
 | 0=>by simp[RPs]
 | n+1=>by
  rw[List.replicate_succ,List.replicate_succ,List.flatten_cons,List.flatten_cons];exact h.append (RPs.rep h n)
section
variable {X:Cx}
theorem Xl{pins:List (Addr×Obj)}{s:Shared}{σ:L2.St}{H:Hp}{Q:VK}{a:Addr}{xs:List V}{k:Int}{t:Tok}(I:Inv X pins σ H s)(ha:SqT X.K H a xs)(h1:xs≠[])(h2:2<=k)(h3:k<=100)(h4:xs.length*k.toNat<=sizeLine)
  (q:∀ p,H p=none->Q (.ref p) (aE H p (.tup (List.replicate k.toNat xs).flatten))):wpAny (model X.prog X.w) X.A (binaryOp .Mult (.ref a) (.int k t)) (EP X pins σ Q) X.xe s:=by
 obtain⟨its,r,p,hz⟩:=I.tuple ha;have hl:=r.length
 obtain⟨⟨cls,dd,data,sl⟩,ho,hc,n,hd⟩:=id p;simp only at hc hd;subst hc hd;refine wpAny_binaryOp_repeat_ref (T:="tuple") (U:="int") (by decide) ⟨_,ho,rfl⟩ (fun s'=>typeIs_int s' k t) Xa PySem.F.fills_int_mul PySem.F.slot_int_rmul D1 PySem.F.slot_int_index.lookup
  (call_meets PySem.F.slot_int_rmul (typeIs_int s k t) PySem.F.entry_int_rmul (PySem.F.args_int_rmul_2 _ _) (j1 k t a its.toArray n dd sl) ⟨ho,rfl,⟨_,ho,rfl⟩,call_meets PySem.F.slot_tuple_mul ⟨_,ho,rfl⟩ PySem.F.entry_tuple_mul (PySem.F.args_tuple_mul_2 _ _) (Xc a its.toArray k t ?_ h2 h3 ?_) ⟨p,?_⟩⟩)
 ·rw[List.size_toArray,<- hl];intro e;exact h1 (List.length_eq_zero_iff.mp e)
 ·rw[List.size_toArray,<- hl];exact h4
 ·have e:=Du its k.toNat []
  rw[List.nil_append]at e;rw[e];exact⟨.ref s.heap.objs.size,_,I.laid (t':=s.toks) (o:=.tup (List.replicate k.toNat xs).flatten) (fun b ob q=>Heap.get?_push_of_some _ q) (Nat.le_refl _) ⟨⟨by rw[Cj];exact h4,NoD.new _ _ _⟩,_,Vals.rep r k.toNat,IsTup.new _ _⟩,rfl,q _ (I.hok.fresh (Nat.le_refl _))⟩
end
end DL
namespace DL
open PySem PySem.Spec PyProof.Rows L2
@[simp] def jU:D2
 | .dat (.int i),.dat (.int j),m,Q=>Q (.dat (.int (i+j))) m
 | .dat (.str a),.dat (.str b),m,Q=>a.length+b.length<=sizeLine/\Q (.dat (.str (a++b))) m
 | .dat (.tuple a),.dat (.tuple b),m,Q=>a.length+b.length<=sizeLine/\Q (.dat (.tuple (a++b))) m
 | .dat (.list a),.dat (.list b),m,Q=>a.length+b.length<=sizeLine/\Q (.dat (.list (a++b))) m
 | .cel c,.dat (.list b),m,Q=>∃ a,m c=some (.l a)/\a.length+b.length<=sizeLine/\Q (.dat (.list (a++b))) m
 | _,_,_,_=>False
@[simp] def wK:D2
 | .dat (.int i),.dat (.int j),m,Q=>Q (.dat (.int (i-j))) m
 | _,_,_,_=>False
@[simp] def fV:D2
 | .dat (.int i),.dat (.int j),m,Q=>IntMulOk i j/\Q (.dat (.int (i*j))) m
 | .dat (.tuple a),.dat (.int k),m,Q=>a≠[]/\2<=k/\k<=100/\a.length*k.toNat<=sizeLine/\Q (.dat (.tuple (List.replicate k.toNat a).flatten)) m
 | _,_,_,_=>False
@[simp] def nC:D2
 | .dat (.int i),.dat (.int j),m,Q=>j≠0/\j.natAbs.log2<9000/\Q (.dat (.int (i.fdiv j))) m
 | _,_,_,_=>False
@[simp] def jG:D2
 | .dat (.int i),.dat (.int j),m,Q=>j≠0/\Q (.dat (.int (i.fmod j))) m
 | _,_,_,_=>False
@[simp] def Fq:D2
 | .dat (.int i),.dat (.int j),m,Q=>(0<=j/\j<=1000000/\i.natAbs<2^64)/\Q (.dat (.int (i^j.toNat))) m
 | _,_,_,_=>False
@[simp] def Eu:D2
 | .dat (.int i),.dat (.int j),m,Q=>Q (.dat (.bool (decide (i<j)))) m
 | _,_,_,_=>False
@[simp] def vG:D2
 | .dat (.int i),.dat (.int j),m,Q=>Q (.dat (.bool (decide (j<i)))) m
 | _,_,_,_=>False
@[simp] def yW:D2
 | .dat (.int i),.dat (.int j),m,Q=>Q (.dat (.bool (decide (j<=i)))) m
 | _,_,_,_=>False
@[simp] def eE:D2
 | .dat (.str a),.dat (.str b),m,Q=>Q (.dat (.bool (decide (a=b)))) m
 | .dat p,.dat q,m,Q=>p.canLay0=true/\q.canLay0=true/\p.depth<=100/\Q (.dat (.bool (PyData.eqv p q))) m
 | _,_,_,_=>False
@[simp] def rY:D2
 | .dat (.str a),.dat (.str b),m,Q=>Q (.dat (.bool (!decide (a=b)))) m
 | .dat p,.dat q,m,Q=>p.canLay0=true/\q.canLay0=true/\p.depth<=100/\Q (.dat (.bool (!PyData.eqv p q))) m
 | _,_,_,_=>False
section
variable {X:Cx}
theorem RD.int{K:PySem.W.Frag}{Z:Addr->Prop}{m:Mu}{H:Hp}{i:Int}{v:V}(h:RD K Z m H (.dat (.int i)) v):v=.int i:=by simpa only[RD,RP] using h
theorem RD.ofInt{K:PySem.W.Frag}{Z:Addr->Prop}{m:Mu}{H:Hp}{i:Int}:RD K Z m H (.dat (.int i)) (.int i):=by simp only[RD,RP]
theorem RD.str{K:PySem.W.Frag}{Z:Addr->Prop}{m:Mu}{H:Hp}{i:Str}{v:V}(h:RD K Z m H (.dat (.str i)) v):v=.str i:=by simpa only[RD,RP] using h
theorem RD.ofStr{K:PySem.W.Frag}{Z:Addr->Prop}{m:Mu}{H:Hp}{i:Str}:RD K Z m H (.dat (.str i)) (.str i):=by simp only[RD,RP]
theorem Uj:cI X (binaryOp .Sub) wK:=by
 intro pins s σ H Z m x y dx dy v u R Q I ok rx ry r1 r2 h k;unfold wK at h
 split at h
 ·cases r1.int;cases r2.int
  exact Q8 pins s σ H _ _ v u Q I rx ry ⟨_,_,rfl,rfl,k _ m _ H h Ext.refl ok .ofInt⟩
 ·exact h.elim
theorem kZ:cI X (binaryOp .Mult) fV:=by
 intro pins s σ H Z m x y dx dy v u R Q I ok rx ry r1 r2 h k;unfold fV at h
 split at h
 ·cases r1.int;cases r2.int
  obtain⟨t,rfl⟩:=rx;obtain⟨t',rfl⟩:=ry;exact mul_int ⟨.int _,H,I.tok _,⟨_,rfl⟩,k _ m _ H h.2 Ext.refl ok .ofInt⟩ h.1
 ·rename_i a j;obtain⟨h1,h2,h3,h4,h5⟩:=h
  cases r2.int
  simp only[RD,RP]at r1;obtain⟨p,vs,rfl,g1,g2⟩:=r1
  cases rx
  obtain⟨t',rfl⟩:=ry;have hl:=g2.length
  refine Xl I g1 (fun e=>h1 ?_) h2 h3 (by rw[hl];exact h4) fun t ht=>?_
  ·subst e
   cases a with
   | nil=>rfl
   | cons _ _=>simp at hl
  ·have sm:Same H (aE H t (.tup (List.replicate j.toNat vs).flatten)):=bT ht
   refine k _ m _ _ h5 (ok.ext sm) (ok.grow sm) ?_;simp only[RD,RP];exact⟨t,_,rfl,.inl (.inl bQ),RPs.ext (ok.ext sm) _ _ (g2.rep _)⟩
 ·exact h.elim
theorem vT:cI X (binaryOp .FloorDiv) nC:=by
 intro pins s σ H Z m x y dx dy v u R Q I ok rx ry r1 r2 h k;unfold nC at h
 split at h
 ·cases r1.int;cases r2.int
  obtain⟨t,rfl⟩:=rx;obtain⟨t',rfl⟩:=ry;exact floordiv_int h.1 ⟨.int _,H,I.tok _,⟨_,rfl⟩,k _ m _ H h.2.2 Ext.refl ok .ofInt⟩ (.inl (PyProof.noPylong_of_log2 h.2.1))
 ·exact h.elim
theorem mI:cI X (binaryOp .Mod) jG:=by
 intro pins s σ H Z m x y dx dy v u R Q I ok rx ry r1 r2 h k;unfold jG at h
 split at h
 ·cases r1.int;cases r2.int
  exact V4 pins s σ H _ _ v u Q I rx ry ⟨_,_,rfl,rfl,h.1,k _ m _ H h.2 Ext.refl ok .ofInt⟩
 ·exact h.elim
theorem Z9:cI X (binaryOp .Pow) Fq:=by
 intro pins s σ H Z m x y dx dy v u R Q I ok rx ry r1 r2 h k;unfold Fq at h
 split at h
 ·cases r1.int;cases r2.int
  exact AH pins s σ H _ _ v u Q I rx ry ⟨_,_,rfl,rfl,h.1,k _ m _ H h.2 Ext.refl ok .ofInt⟩
 ·exact h.elim
theorem T4:cI X (compareOp .Lt) Eu:=by
 intro pins s σ H Z m x y dx dy v u R Q I ok rx ry r1 r2 h k;unfold Eu at h
 split at h
 ·cases r1.int;cases r2.int
  exact K4 pins s σ H _ _ v u Q I rx ry ⟨_,_,rfl,rfl,k _ m _ H h Ext.refl ok .ofBl⟩
 ·exact h.elim
theorem Ko:cI X (compareOp .Gt) vG:=by
 intro pins s σ H Z m x y dx dy v u R Q I ok rx ry r1 r2 h k;unfold vG at h
 split at h
 ·cases r1.int;cases r2.int
  exact P0 pins s σ H _ _ v u Q I rx ry ⟨_,_,rfl,rfl,k _ m _ H h Ext.refl ok .ofBl⟩
 ·exact h.elim
theorem Pi:cI X (compareOp .GtE) yW:=by
 intro pins s σ H Z m x y dx dy v u R Q I ok rx ry r1 r2 h k;unfold yW at h
 split at h
 ·cases r1.int;cases r2.int
  exact F8 pins s σ H _ _ v u Q I rx ry ⟨_,_,rfl,rfl,k _ m _ H h Ext.refl ok .ofBl⟩
 ·exact h.elim
theorem iH(hu:X.A.units+100<cLine):cI X (compareOp .Eq) eE:=by
 intro pins s σ H Z m x y dx dy v u R Q I ok rx ry r1 r2 h k;unfold eE at h
 split at h
 ·cases r1.str;cases r2.str
  refine Pz pins s σ H _ _ v u Q I rx ry ⟨rfl,?_⟩;have e:∀ a b:Str,decide (V.str a=V.str b)=decide (a=b):=fun a b=>by
   rw[Bool.eq_iff_iff];simp
  rw[e];exact k _ m _ H h Ext.refl ok .ofBl
 ·rename_i p q hne;obtain⟨h1,h2,h3,h4⟩:=h;obtain⟨as,ra⟩:=RP.reads I p x v r1 rx;obtain⟨bs,rb⟩:=RP.reads I q y u r2 ry;exact SeqAt.compareEq_reads ra rb h1 h2 (by omega) ⟨.bl _,H,I,rfl,k _ m _ H h4 Ext.refl ok .ofBl⟩
 ·exact h.elim
theorem Fc(hu:X.A.units+100<cLine):cI X (compareOp .NotEq) rY:=by
 intro pins s σ H Z m x y dx dy v u R Q I ok rx ry r1 r2 h k;unfold rY at h
 split at h
 ·cases r1.str;cases r2.str
  refine Zg pins s σ H _ _ v u Q I rx ry ⟨rfl,?_⟩;have e:∀ a b:Str,decide (V.str a=V.str b)=decide (a=b):=fun a b=>by
   rw[Bool.eq_iff_iff];simp
  rw[e];exact k _ m _ H h Ext.refl ok .ofBl
 ·rename_i p q hne;obtain⟨h1,h2,h3,h4⟩:=h;obtain⟨as,ra⟩:=RP.reads I p x v r1 rx;obtain⟨bs,rb⟩:=RP.reads I q y u r2 ry;exact SeqAt.compareNe_reads ra rb h1 h2 (by omega) ⟨.bl _,H,I,rfl,k _ m _ H h4 Ext.refl ok .ofBl⟩
 ·exact h.elim
theorem Wg{pins:List (Addr×Obj)}{s:Shared}{σ:L2.St}{H:Hp}{Q:VK}{a b:Addr}{ys:List V}(I:Inv X pins σ H s)(ha:SqT X.K H a [])(hb:SqT X.K H b ys)(q:Q (.ref b) H) :
  wpAny (model X.prog X.w) X.A (binaryOp .Add (.ref a) (.ref b)) (EP X pins σ Q) X.xe s:=by
 obtain⟨its,r1,p1,_⟩:=I.tuple ha;obtain⟨its2,r2,p2,_⟩:=I.tuple hb
 cases r1
 obtain⟨⟨cls,dd,data,sl⟩,ho,hc,n,hd⟩:=id p1;obtain⟨⟨cls2,dd2,data2,sl2⟩,ho2,hc2,n2,hd2⟩:=id p2;simp only at hc hd hc2 hd2;subst hc hd hc2 hd2;exact concat_meets ⟨_,ho,rfl⟩ ⟨_,ho2,rfl⟩ noFill_tuple_add seq_tuple_add PySem.F.slot_tuple_add PySem.F.entry_tuple_add (PySem.F.args_tuple_add_2 _ _)
   (tuple_addW0 a b _ _ n n2 dd dd2 sl sl2 (by simp)) ⟨ho,ho2,⟨.ref b,H,I,rfl,q⟩⟩
theorem Fz:OpR X (binaryOp .Add) (fun x y H Q=>∃ a b xs ys,x=.ref a/\y=.ref b/\SqL X.K H a xs/\SqL X.K H b ys/\xs.length+ys.length<=sizeLine/\∀ p,H p=none->Q (.ref p) (aE H p (.lst (xs++ys)))):=by
 intro pins s σ H x y v u Q I rx ry h;obtain⟨a,b,xs,ys,rfl,rfl,ha,hb,hz,q⟩:=h
 cases rx
 cases ry
 obtain⟨its,r1,p1,_⟩:=I.list ha;obtain⟨its2,r2,p2,_⟩:=I.list hb;obtain⟨⟨cls,dd,data,sl⟩,ho,hc,n,hd⟩:=id p1.isList;obtain⟨⟨cls2,dd2,data2,sl2⟩,ho2,hc2,n2,hd2⟩:=id p2.isList;simp only at hc hd hc2 hd2;subst hc hd hc2 hd2;have l1:=r1.length
 have l2:=r2.length
 have e:its.toArray++its2.toArray=(its++its2).toArray:=by simp
 refine concat_meets ⟨_,ho,rfl⟩ ⟨_,ho2,rfl⟩ noFill_list_add seq_list_add PySem.F.slot_list_add PySem.F.entry_list_add (PySem.F.args_list_add_2 _ _)
   (list_addW a b its.toArray its2.toArray n n2 dd dd2 sl sl2 (by rw[List.size_toArray,List.size_toArray];omega)) ⟨ho,ho2,?_⟩
 rw[e];exact⟨.ref s.heap.objs.size,_,I.laid (t':=s.toks) (o:=.lst (xs++ys)) (fun b ob q=>Heap.get?_push_of_some _ q) (Nat.le_refl _) ⟨by rw[List.length_append];omega,_,0,r1.append r2,Heap.get?_push_size _ rfl⟩,rfl,q _ (I.hok.fresh (Nat.le_refl _))⟩
theorem pS:cI X (binaryOp .Add) jU:=by
 intro pins s σ H Z m x y dx dy v u R Q I ok rx ry r1 r2 h k;unfold jU at h
 split at h
 ·cases r1.int;cases r2.int
  exact G6 pins s σ H _ _ v u Q I rx ry ⟨_,_,rfl,rfl,k _ m _ H h Ext.refl ok .ofInt⟩
 ·cases r1.str;cases r2.str
  exact Ys pins s σ H _ _ v u Q I rx ry ⟨_,_,rfl,rfl,h.1,k _ m _ H h.2 Ext.refl ok .ofStr⟩
 ·rename_i a b;simp only[RD,RP]at r1 r2;obtain⟨p,vs,rfl,h1,h2⟩:=r1;obtain⟨q,ws,rfl,g1,g2⟩:=r2;have l1:=h2.length
  have l2:=g2.length
  by_cases e1:a=[]
  ·subst e1;simp only[RPs]at h2;subst h2
   cases rx;cases ry
   refine Wg I h1 g1 (k _ m _ H h.2 Ext.refl ok ?_);simp only[RD,RP];exact⟨q,ws,rfl,g1,by simpa using g2⟩
  ·refine N8 pins s σ H _ _ v u Q I rx ry ⟨p,q,vs,ws,rfl,rfl,h1,g1,?_,by omega,fun e2=>?_,fun e2 t ht=>?_⟩
   ·rintro rfl
    cases a with
    | nil=>exact e1 rfl
    | cons _ _=>simp at l1
   ·subst e2;have e3:b=[]:=by cases b with | nil=>rfl | cons _ _=>simp at l2
    subst e3;refine k _ m _ H h.2 Ext.refl ok ?_;simp only[RD,RP];exact⟨p,vs,rfl,h1,by simpa using h2⟩
   ·have sm:Same H (aE H t (.tup (vs++ws))):=bT ht
    refine k _ m _ _ h.2 (ok.ext sm) (ok.grow sm) ?_;simp only[RD,RP];exact⟨t,_,rfl,.inl (.inl bQ),RPs.ext (ok.ext sm) _ _ (h2.append g2)⟩
 ·rename_i a b;simp only[RD,RP]at r1 r2;obtain⟨p,vs,rfl,h0,h1,h2⟩:=r1;obtain⟨q,ws,rfl,g0,g1,g2⟩:=r2;have l1:=h2.length
  have l2:=g2.length
  refine Fz pins s σ H _ _ v u Q I rx ry ⟨p,q,vs,ws,rfl,rfl,h1,g1,by omega,fun t ht=>?_⟩
  have sm:Same H (aE H t (.lst (vs++ws))):=bT ht
  refine k _ m _ _ h.2 (ok.ext sm) (ok.grow sm) ?_;simp only[RD,RP];exact⟨t,_,rfl,eU ok ht,.inl (.inl bQ),RPs.ext (ok.ext sm) _ _ (h2.append g2)⟩
 ·rename_i c b;obtain⟨aa,hm,hz,hq⟩:=h;obtain⟨rfl,_⟩:=r1;obtain⟨vs,g0,g3⟩:=ok.l hm;simp only[RD,RP]at r2;obtain⟨q,ws,rfl,_,g1,g2⟩:=r2;have l1:=g3.length
  have l2:=g2.length
  refine Fz pins s σ H _ _ v u Q I rx ry ⟨c,q,vs,ws,rfl,rfl,.inl (.inl g0),g1,by omega,fun t ht=>?_⟩
  have sm:Same H (aE H t (.lst (vs++ws))):=bT ht
  refine k _ m _ _ hq (ok.ext sm) (ok.grow sm) ?_;simp only[RD,RP];exact⟨t,_,rfl,eU ok ht,.inl (.inl bQ),RPs.ext (ok.ext sm) _ _ (g3.append g2)⟩
 ·exact h.elim
end
end DL
namespace DL
open PySem PySem.Spec PyProof.Rows L2
section
variable {X:Cx}{a b c e:Expr}{es:List Expr}{f g:DE}{ga:DA}{pos p2 p:Pos}
@[simp] def wG(f:DE):DE:=fun d m Q=>f d m fun x m1=>∃ i,x=.dat (.int i)/\Q (.dat (.int (-i))) m1
theorem BI(ha:PE X a (LE X.K f)):PE X (.UnaryOp .USub a pos) (LE X.K (wG f)) :=
 PE.imp (t9 A0 ha) fun s H Q h=>by
  obtain⟨Z,d,m,R,ok,rs,h,k⟩:=h;refine⟨Z,d,m,_,ok,rs,h,fun x m1 v H1 ⟨i,e,q⟩ e1 ok1 rd=>?_⟩;subst e;exact⟨i,rd.int,k _ m1 _ H1 q e1 ok1 .ofInt⟩
@[simp] def cZ:D2
 | .dat (.tuple xs),.dat (.int i),m,Q=>∃ p,cD xs i=some p/\Q (.dat p) m
 | .dat (.list xs),.dat (.int i),m,Q=>∃ p,cD xs i=some p/\Q (.dat p) m
 | .cel a,.dat (.int i),m,Q=>∃ xs p,m a=some (.l xs)/\cD xs i=some p/\Q (.dat p) m
 | .dat (.str z),.dat (.int i),m,Q=>∃ c,z.length<=sizeLine/\cD z.cps.toList i=some c/\Q (.dat (.str ⟨#[c]⟩)) m
 | _,_,_,_=>False
theorem RPs.at{K:PySem.W.Frag}{Z:Addr->Prop}{m:Mu}{H:Hp}{xs:List PyData}{vs:List V}{i:Int}{p:PyData}(h:RPs K Z m H xs vs)(e:cD xs i=some p):∃ v,cD vs i=some v/\RP K Z m H p v:=by
 unfold cD at e ⊢;rw[h.length]
 cases q:fS xs.length i with
 | none=>rw[q]at e;cases e
 | some j =>
  rw[q]at e;exact h.get (i:=j) e
theorem T7(ha:PE X a (LE X.K f))(hb:PE X b (LE X.K g))(hs:zK b:=by exact fun _ _=>rfl):PE X (.Subscript a b pos) (LE X.K (aL cZ f g)) :=
 PE.imp (x5 BQ ha hb hs) fun s H Q h=>by
  obtain⟨Z,d,m,R,ok,rs,h,k⟩:=h;refine⟨Z,d,m,_,ok,rs,h,fun x m1 v H1 q e1 ok1 rx=>⟨Z,d,m1,_,ok1,rs.ext e1,q,fun y m2 w H2 q2 e2 ok2 ry=>?_⟩⟩;have rx2:=rx.ext e2
  have e12:=e1.trans e2
  unfold cZ at q2
  split at q2
  ·obtain⟨p,ep,q⟩:=q2
   cases ry.int
   simp only[RD,RP]at rx2;obtain⟨a,vs,rfl,h1,h2⟩:=rx2;obtain⟨z,ez,rz⟩:=h2.at ep;exact .inr (.inl ⟨a,vs,_,z,rfl,rfl,h1,ez,k _ m2 z H2 q e12 ok2 rz⟩)
  ·obtain⟨p,ep,q⟩:=q2
   cases ry.int
   simp only[RD,RP]at rx2;obtain⟨a,vs,rfl,_,h1,h2⟩:=rx2;obtain⟨z,ez,rz⟩:=h2.at ep;exact .inl ⟨a,vs,_,z,rfl,rfl,h1,ez,k _ m2 z H2 q e12 ok2 rz⟩
  ·obtain⟨xs,p,hm,ep,q⟩:=q2
   cases ry.int
   obtain⟨rfl,_⟩:=rx2;obtain⟨vs,h1,h2⟩:=ok2.l hm;obtain⟨z,ez,rz⟩:=h2.at ep;exact .inl ⟨_,vs,_,z,rfl,rfl,.inl (.inl h1),ez,k _ m2 z H2 q e12 ok2 rz⟩
  ·obtain⟨c,hz,ec,q⟩:=q2
   cases ry.int
   cases rx2.str
   exact .inr (.inr ⟨_,_,c,rfl,rfl,hz,ec,k _ m2 _ H2 q e12 ok2 .ofStr⟩)
  ·exact q2.elim
abbrev DO:=aT->Mu->(Option Int->Mu->Prop)->Prop
def LO(K:PySem.W.Frag)(f:DO):TO:=fun s H Q=>∃ (Z:Addr->Prop) (d:aT) (m:Mu) (R:Option Int->Mu->Prop),Ok K Z m H/\RS K Z m H d s/\f d m R /\
 ∀ x m' H',R x m'->Ext K Z m H m' H'->Ok K Z m' H'->Q x H'
@[simp] def iR:DO:=fun _ m Q=>Q none m
@[simp] def eB(f:DE):DO:=fun d m Q=>f d m fun x m1=>∃ i,x=.dat (.int i)/\Q (some i) m1
theorem PO.imp{e:Option Expr}{t t':TO}(h:PO X e t)(q:∀ s H Q,t' s H Q->t s H Q):PO X e t':=fun pins s d H Q I w=>h pins s d H Q I (q _ _ _ w)
theorem x6:PO X none (LO X.K iR):=PO.imp X2 fun s H Q h=>by
 obtain⟨Z,d,m,R,ok,rs,h,k⟩:=h;exact k none m H h Ext.refl ok
theorem We(ha:PE X a (LE X.K f)):PO X (some a) (LO X.K (eB f)):=PO.imp (O5 ha) fun s H Q h=>by
 obtain⟨Z,d,m,R,ok,rs,h,k⟩:=h;refine⟨Z,d,m,_,ok,rs,h,fun x m1 v H1 ⟨i,e,q⟩ e1 ok1 rd=>?_⟩;subst e;exact⟨i,rd.int,k _ m1 H1 q e1 ok1⟩
def gH{α:Type}(xs:List α)(lo hi:Option Int):List α:=(xs.drop (HT.sIx xs.length 0 lo)).take (HT.sIx xs.length xs.length hi-HT.sIx xs.length 0 lo)
theorem RPs.cut{K:PySem.W.Frag}{Z:Addr->Prop}{m:Mu}{H:Hp}{xs:List PyData}{vs:List V}{lo hi:Option Int}(h:RPs K Z m H xs vs):RPs K Z m H (gH xs lo hi) (iD vs lo hi):=by
 unfold gH iD;rw[h.length];exact(h.drop _).take _
theorem p7{α:Type}(xs:List α){lo hi:Option Int}(h:HT.sIx xs.length 0 lo=0/\HT.sIx xs.length xs.length hi=xs.length):gH xs lo hi=xs:=by
 unfold gH;rw[h.1,h.2];simp
def W9(K:PySem.W.Frag):V->Option Int->Option Int->Hp->VK->Prop:=fun x lo hi H Q=>∃ a xs,x=.ref a/\SqT K H a xs /\
 (HT.sIx xs.length 0 lo=0/\HT.sIx xs.length xs.length hi=xs.length)/\Q (.ref a) H
theorem Pp{prog:Program}{w:World}{A:Around}{E:Value->Shared->Prop}{s:Shared}{t sl:Addr}{items:Array Value}{vl vu:Value}{lo hi:Option Int}{Q:Value->Shared->Prop}(ht:IsTup s.heap t items)(hs:s.heap.IsSliceOf sl vl vu .none)(pl:IsPart vl lo)(pu:IsPart vu hi)
  (hw:HT.sIx items.size 0 lo=0/\HT.sIx items.size items.size hi=items.size)
  (h:Q (.ref t) s):wpAny (model prog w) A (getItem (.ref t) (.ref sl)) Q E s:=by
 obtain⟨os,hos,hcs,hds⟩:=id hs;have hTs:s.TypeIs (.ref sl) "slice":=⟨os,hos,hcs⟩
 unfold getItem
 try with_reducible refine wpAny_holding ?_
 first | refine wpAny_bind (wpAny_pure ?_) | skip
 refine wpAny_bind (wpAny_sequenceKey ht.typeIs (by decide) ?_)
 refine wpAny_bind (wpAny_callSpecial?_slot (name:=Str.ofString "__getitem__") ht.typeIs PyProof.Rows.slot_tuple_getitem
  (wpAny_call_entry PyProof.Rows.slot_tuple_getitem ht.typeIs entry_tuple_getitem ?_ (args_tuple_getitem _ _)))
 show wpAny _ _ (Builtin.Tuple.tupleItemsOf (.ref t)>>=_) _ _ s
 refine wpAny_bind (tupleItemsOf_ ht ?_);refine wpAny_bind (wpAny_typeOf hTs ?_);rw[if_pos (by decide)]
 refine wpAny_bind (HT.sliceApplied_gen hs pl pu ?_);have hyes:(((HT.sIx items.size 0 lo:Nat):Int)==0&&(1:Int)==1&&(HT.sIx items.size items.size hi-HT.sIx items.size 0 lo)==items.size)=true:=by
  rw[hw.1,hw.2];simp
 show wpAny _ _ (if (((HT.sIx items.size 0 lo:Nat):Int)==0&&(1:Int)==1&&(HT.sIx items.size items.size hi-HT.sIx items.size 0 lo)==items.size)=true then _ else _) _ _ s
 rw[if_pos hyes];refine wpAny_bind ?_;unfold Builtin.Tuple.tupleIsExact;refine wpAny_bind (wpAny_typeOf ht.typeIs (wpAny_pure ?_));rw[if_pos (by decide)]
 first
  | exact wpAny_bind (wpAny_rule (wpAny_pure ⟨_,rfl,wpAny_pure h⟩))
  | exact wpAny_bind (wpAny_rule (wpAny_bind (wpAny_pure (wpAny_pure ⟨_,rfl,wpAny_pure h⟩))))
theorem J2:SlR X (W9 X.K):=by
 intro pins s σ H x v vl vu lo hi sl Q I rx hs pl pu h;obtain⟨a,xs,rfl,hx,hw,q⟩:=h
 cases rx
 obtain⟨its,r,ht,hz⟩:=I.tuple hx;have hlen:its.toArray.size=xs.length:=by rw[List.size_toArray];exact r.length.symm
 refine⟨"tuple",_,PyProof.Rows.slot_tuple_getitem.lookup,ht.typeIs,?_⟩;exact Pp ht hs pl pu (by rw[hlen];exact hw) ⟨.ref a,H,I,rfl,q⟩
abbrev DC:=List D->Mu->DK->Prop
def CallD(X:Cx)(fn:Value)(r:DC):Prop :=
 ∀ (pins:List (Addr×Obj)) (s:Shared) (σ:L2.St) (H:Hp) (Z:Addr->Prop) (m:Mu) (xs:List V) (ds:List D) (us:List Value) (R:DK) (Q:VK),Inv X pins σ H s->Ok X.K Z m H->Vals xs us->RDs X.K Z m H ds xs->r ds m R ->
  (∀ d m' v' H',R d m'->Ext X.K Z m H m' H'->Ok X.K Z m' H'->RD X.K Z m' H' d v'->Q v' H')->wpAny (model X.prog X.w) X.A (call fn us) (EP X pins σ Q) X.xe s
theorem CallD.cr{fn:Value}{r:DC}(h:CallD X fn r):CallR X fn (fun vs H Q=>∃ Z m ds R,Ok X.K Z m H/\RDs X.K Z m H ds vs/\r ds m R/\∀ d m' v' H',R d m'->Ext X.K Z m H m' H'->Ok X.K Z m' H'->RD X.K Z m' H' d v'->Q v' H'):=by
 intro pins s σ H xs us Q I r1 ⟨Z,m,ds,R,ok,rd,q,k⟩;exact h pins s σ H Z m xs ds us R Q I ok r1 rd q k
@[simp] def cM(r:DC)(g:DA):DE:=fun d m Q=>g d m fun xs m1=>r xs m1 Q
theorem LE.call{r:DC}{H:Hp}{σ:L2.St}{Q:VK}(h:LE X.K (cM r ga) σ H Q) :
  LA X.K ga σ H fun vs H1=>∃ Z m ds R,Ok X.K Z m H1/\RDs X.K Z m H1 ds vs/\r ds m R/\∀ d m' v' H',R d m'->Ext X.K Z m H1 m' H'->Ok X.K Z m' H'->RD X.K Z m' H' d v'->Q v' H':=by
 obtain⟨Z,d,m,R,ok,rs,h,k⟩:=h;exact⟨Z,d,m,_,ok,rs,h,fun xs m1 vs H1 q e1 ok1 r1=>⟨Z,m1,xs,R,ok1,r1,q,fun d' m' v' H' h1 h2 h3 h4=>k d' m' v' H' h1 (e1.trans h2) h3 h4⟩⟩
theorem Y1{x:Str}{id:String}{r:DC}(hc:CallD X (.builtin id) r)(hg:Gl X x)(hm:X.mg x=none)(hv:bootBuiltins x=some (.builtin id))(ha:PA X (e::es) (LA X.K ga))(hn:x≠"__name__":=by decide)(hdb:(x==("__debug__" : Str))=false:=by decide)
  (he:starEach (e::es) X.env=(false,eval e X.env)::starEach es X.env:=by rfl) (hpl:(backTo pos (starEach es X.env)).any (·.1)=false:=by rfl):PE X (.Call (.Name x p) (e::es) [] pos) (LE X.K (cM r ga)) :=
 PE.imp (d8 hc.cr hg hm hv ha hn hdb he hpl) fun s H Q h=>h.call
theorem g9{x:Str}{T:String}{r:DC}(hc:CallD X (.type T) r)(hg:Gl X x)(hm:X.mg x=none)(hv:bootBuiltins x=some (.type T))(ha:PA X (e::es) (LA X.K ga))(hn:x≠"__name__":=by decide)(hdb:(x==("__debug__" : Str))=false:=by decide)
  (he:starEach (e::es) X.env=(false,eval e X.env)::starEach es X.env:=by rfl) (hpl:(backTo pos (starEach es X.env)).any (·.1)=false:=by rfl):PE X (.Call (.Name x p) (e::es) [] pos) (LE X.K (cM r ga)) :=
 PE.imp (Y3 hc.cr hg hm hv ha hn hdb he hpl) fun s H Q h=>h.call
theorem RDs.one{K:PySem.W.Frag}{Z:Addr->Prop}{m:Mu}{H:Hp}{x:D}{vs:List V}(h:RDs K Z m H [x] vs):∃ v,vs=[v]/\RD K Z m H x v:=by
 obtain⟨v,r,h1,h2,h3⟩:=h
 cases (show r=[] from h3)
 exact⟨v,h1,h2⟩
theorem RDs.two{K:PySem.W.Frag}{Z:Addr->Prop}{m:Mu}{H:Hp}{x y:D}{vs:List V}(h:RDs K Z m H [x,y] vs):∃ v w,vs=[v,w]/\RD K Z m H x v/\RD K Z m H y w:=by
 obtain⟨v,r,h1,h2,h3⟩:=h;obtain⟨w,rfl,h4⟩:=RDs.one h3;exact⟨v,w,h1,h2,h4⟩
@[simp] def nJ:DC
 | [.dat (.tuple xs)],m,Q=>Q (.dat (.int xs.length)) m
 | [.dat (.list xs)],m,Q=>Q (.dat (.int xs.length)) m
 | [.dat (.str z)],m,Q=>z.length<=sizeLine/\Q (.dat (.int z.length)) m
 | [.cel a],m,Q=>∃ xs,m a=some (.l xs)/\Q (.dat (.int xs.length)) m
 | _,_,_=>False
theorem vY:CallD X (.builtin "len") nJ:=by
 intro pins s σ H Z m xs ds us R Q I ok rv rd h k;unfold nJ at h
 split at h
 ·obtain⟨v,rfl,r1⟩:=rd.one;simp only[RD,RP]at r1;obtain⟨a,vs,rfl,h1,h2⟩:=r1;refine Bc pins s σ H _ us Q I rv ⟨a,vs,rfl,.inr h1,?_⟩;rw[h2.length];exact k _ m _ H h Ext.refl ok .ofInt
 ·obtain⟨v,rfl,r1⟩:=rd.one;simp only[RD,RP]at r1;obtain⟨a,vs,rfl,_,h1,h2⟩:=r1;refine Bc pins s σ H _ us Q I rv ⟨a,vs,rfl,.inl h1,?_⟩;rw[h2.length];exact k _ m _ H h Ext.refl ok .ofInt
 ·obtain⟨v,rfl,r1⟩:=rd.one
  cases r1.str
  exact Xg pins s σ H _ us Q I rv ⟨_,rfl,h.1,k _ m _ H h.2 Ext.refl ok .ofInt⟩
 ·obtain⟨v,rfl,r1⟩:=rd.one;obtain⟨rfl,_⟩:=r1;obtain⟨ys,hm,q⟩:=h;obtain⟨vs,h1,h2⟩:=ok.l hm;refine Bc pins s σ H _ us Q I rv ⟨_,vs,rfl,.inl (.inl (.inl h1)),?_⟩;rw[h2.length];exact k _ m _ H q Ext.refl ok .ofInt
 ·exact h.elim
@[simp] def Au:DC
 | [.dat (.int i)],m,Q=>Q (.dat (.int i)) m
 | [.dat (.bool b)],m,Q=>Q (.dat (.int (if b then 1 else 0))) m
 | _,_,_=>False
theorem Qe:CallD X (.type "int") Au:=by
 intro pins s σ H Z m xs ds us R Q I ok rv rd h k;unfold Au at h
 split at h
 ·obtain⟨v,rfl,r1⟩:=rd.one
  cases r1.int
  exact Mo pins s σ H _ us Q I rv (.inl ⟨_,rfl,k _ m _ H h Ext.refl ok .ofInt⟩)
 ·obtain⟨v,rfl,r1⟩:=rd.one
  cases r1.bl
  exact Mo pins s σ H _ us Q I rv (.inr ⟨_,rfl,k _ m _ H h Ext.refl ok .ofInt⟩)
 ·exact h.elim
@[simp] def Cu:DC
 | [.dat (.tuple xs)],m,Q=>Q (.dat (.list xs)) m
 | [.dat (.list xs)],m,Q=>Q (.dat (.list xs)) m
 | _,_,_=>False
theorem Sc:CallD X (.type "list") Cu:=by
 intro pins s σ H Z m xs ds us R Q I ok rv rd h k;unfold Cu at h
 split at h
 ·obtain⟨v,rfl,r1⟩:=rd.one;simp only[RD,RP]at r1;obtain⟨a,vs,rfl,h1,h2⟩:=r1;refine Gg pins s σ H _ us Q I rv ⟨a,vs,rfl,.inr h1,fun l hl=>?_⟩;have sm:Same H (aE H l (.lst vs)):=bT hl
  refine k _ m _ _ h (ok.ext sm) (ok.grow sm) ?_;simp only[RD,RP];exact⟨l,vs,rfl,eU ok hl,.inl (.inl bQ),RPs.ext (ok.ext sm) _ _ h2⟩
 ·obtain⟨v,rfl,r1⟩:=rd.one;simp only[RD,RP]at r1;obtain⟨a,vs,rfl,_,h1,h2⟩:=r1;refine Gg pins s σ H _ us Q I rv ⟨a,vs,rfl,.inl h1,fun l hl=>?_⟩;have sm:Same H (aE H l (.lst vs)):=bT hl
  refine k _ m _ _ h (ok.ext sm) (ok.grow sm) ?_;simp only[RD,RP];exact⟨l,vs,rfl,eU ok hl,.inl (.inl bQ),RPs.ext (ok.ext sm) _ _ h2⟩
 ·exact h.elim
end
end DL
namespace DL
open PySem PySem.Spec PyProof.Rows L2
section
variable {X:Cx}{st:Stmt}{rest body orelse:List Stmt}{t u b:DS}{e c tg iter:Expr}{f:DE}{tc:DT}{pos:Pos}
@[simp] def aS:DS:=fun E d m=>E.nx d m
@[simp] def aF(t u:DS):DS:=fun E d m=>t {E with nx:=u E} d m
theorem S8:PSs X [] (LS X.K aS):=PSs.imp B7 fun E s H h=>by
 obtain⟨Z,d,m,R,ok,rs,h,k,_⟩:=h;exact k d m s H h Ext.refl ok rs
theorem Tr(h1:PS X st (LS X.K t))(h2:PSs X rest (LS X.K u)):PSs X (st::rest) (LS X.K (aF t u)):=PSs.imp (E6 h1 h2) fun E s H h=>by
 obtain⟨Z,d,m,R,ok,rs,h,kn,kr,kb,kc⟩:=h;refine⟨Z,d,m,_,ok,rs,h,fun d' m' s' H' q e1 ok1 rs1=>⟨Z,d',m',R,ok1,rs1,q,?_,?_,?_,?_⟩,kr,kb,kc⟩
 ·exact fun d2 m2 s2 H2 q2 e2 ok2 rs2=>kn d2 m2 s2 H2 q2 (e1.trans e2) ok2 rs2
 ·exact fun x m2 v H2 q2 e2 ok2 r2=>kr x m2 v H2 q2 (e1.trans e2) ok2 r2
 ·exact fun d2 m2 s2 H2 q2 e2 ok2 rs2=>kb d2 m2 s2 H2 q2 (e1.trans e2) ok2 rs2
 ·exact fun d2 m2 s2 H2 q2 e2 ok2 rs2=>kc d2 m2 s2 H2 q2 (e1.trans e2) ok2 rs2
@[simp] def bD(f:DE):DS:=fun E d m=>f d m E.rt
theorem Su(he:PE X e (LE X.K f)):PS X (.Return (some e) pos) (LS X.K (bD f)):=PS.imp (Zw he) fun E s H h=>by
 obtain⟨Z,d,m,R,ok,rs,h,_,kr,_⟩:=h;exact⟨Z,d,m,_,ok,rs,h,fun x m1 v H1 q e1 ok1 r1=>kr x m1 v H1 q e1 ok1 r1⟩
@[simp] def cX(c:DT)(t u:DS):DS:=fun E d m=>c d m fun k m1=>if k=true then t E d m1 else u E d m1
theorem Yi(hc:PT X c (LT X.K tc))(h1:PSs X body (LS X.K t))(h2:PSs X orelse (LS X.K u)):PS X (.If c body orelse pos) (LS X.K (cX tc t u)):=PS.imp (Wm hc h1 h2) fun E s H h=>by
 obtain⟨Z,d,m,R,ok,rs,h,kn,kr,kb,kc⟩:=h;refine⟨Z,d,m,_,ok,rs,h,fun k m1 H1 q e1 ok1=>?_⟩;have mk:∀ {z:DS},z R d m1->LS X.K z E s H1:=fun q=>⟨Z,d,m1,R,ok1,rs.ext e1,q,
  fun d2 m2 s2 H2 q2 e2 ok2 rs2=>kn d2 m2 s2 H2 q2 (e1.trans e2) ok2 rs2,fun x m2 v H2 q2 e2 ok2 r2=>kr x m2 v H2 q2 (e1.trans e2) ok2 r2,
  fun d2 m2 s2 H2 q2 e2 ok2 rs2=>kb d2 m2 s2 H2 q2 (e1.trans e2) ok2 rs2,fun d2 m2 s2 H2 q2 e2 ok2 rs2=>kc d2 m2 s2 H2 q2 (e1.trans e2) ok2 rs2⟩
 cases k with
 | true=>exact Y5 (mk (by simpa using q))
 | false=>exact C6 (mk (by simpa using q))
@[simp] def bN(i:Nat)(f:DE):DS:=fun E d m=>f d m fun x m1=>E.nx (d.set i (some x)) m1
theorem Pg(i:Nat){x:Str}{pos':Pos}(hN:X.N.Nodup)(he:PE X e (LE X.K f))(hi:X.N[i]?=some x:=by rfl)(hx:kM X.env.scope x:=by first | exact Or.inl rfl | exact Or.inr rfl)
  (hs:swapsWith e (some (.Name x pos')) pos.line X.env=pure false:=by rfl) (hf:X.fn x=true\/X.env.scope.names.lookup x=some .local:=by first | exact .inl rfl | exact .inr rfl) :
  PS X (.Assign [.Name x pos'] e pos) (LS X.K (bN i f)):=PS.imp (Yg hN hi hx he hs hf) fun E s H h=>by
 obtain⟨Z,d,m,R,ok,rs,h,k,_⟩:=h;exact⟨Z,d,m,_,ok,rs,h,fun x m1 v H1 q e1 ok1 r1=>k _ m1 _ H1 q e1 ok1 ((rs.ext e1).set r1)⟩
abbrev DG:=D->aT->Mu->(aT->Mu->Prop)->Prop
abbrev jW:=List PyData->aT->Mu->(aT->Mu->Prop)->Prop
def LG(K:PySem.W.Frag)(g:DG):TG:=fun v s H Q=>∃ Z x d m R,Ok K Z m H/\RS K Z m H d s/\RD K Z m H x v/\g x d m R/\∀ d' m' s' H',R d' m'->Ext K Z m H m' H'->Ok K Z m' H'->RS K Z m' H' d' s'->Q s' H'
def kT(K:PySem.W.Frag)(g:jW):iC:=fun vs s H Q=>∃ Z ps d m R,Ok K Z m H/\RS K Z m H d s/\RPs K Z m H ps vs/\g ps d m R/\∀ d' m' s' H',R d' m'->Ext K Z m H m' H'->Ok K Z m' H'->RS K Z m' H' d' s'->Q s' H'
theorem PG.imp{t t':TG}(h:PG X e t)(q:∀ v s H Q,t' v s H Q->t v s H Q):PG X e t':=fun pins s d H v u Q I r w=>h pins s d H v u Q I r (q _ _ _ _ w)
theorem PGs.imp{es:List Expr}{t t':iC}(h:PGs X es t)(q:∀ v s H Q,t' v s H Q->t v s H Q):PGs X es t':=fun pins s d H v u Q I r w=>h pins s d H v u Q I r (q _ _ _ _ w)
@[simp] def gN(i:Nat):DG:=fun x d m Q=>Q (d.set i (some x)) m
theorem Wd(i:Nat){x:Str}(hN:X.N.Nodup)(hi:X.N[i]?=some x:=by rfl)(hx:kM X.env.scope x:=by first | exact Or.inl rfl | exact Or.inr rfl)
  (hf:X.fn x=true\/X.env.scope.names.lookup x=some .local:=by first | exact .inl rfl | exact .inr rfl):PG X (.Name x pos) (LG X.K (gN i)):=PG.imp (C4 hN hi hx hf) fun v s H Q h=>by
 obtain⟨Z,x,d,m,R,ok,rs,rd,h,k⟩:=h;exact k _ m _ H h Ext.refl ok (rs.set rd)
@[simp] def fY:jW:=fun ps d m Q=>ps=[]/\Q d m
@[simp] def cQ(g:DG)(r:jW):jW
 | p::qs,d,m,Q=>g (.dat p) d m fun d' m'=>r qs d' m' Q
 | [],_,_,_=>False
theorem X8:PGs X [] (kT X.K fY):=PGs.imp Wb fun vs s H Q h=>by
 obtain⟨Z,ps,d,m,R,ok,rs,rp,⟨rfl,h⟩,k⟩:=h;simp only[RPs]at rp;exact⟨rp,k d m s H h Ext.refl ok rs⟩
theorem Vd{es:List Expr}{g:DG}{r:jW}(h1:PG X e (LG X.K g))(h2:PGs X es (kT X.K r))(hs:(assignEach (e::es) X.env).map (·.2)=assign e X.env::(assignEach es X.env).map (·.2):=by rfl) :
  PGs X (e::es) (kT X.K (cQ g r)):=PGs.imp (Sm h1 h2 hs) fun vs s H Q h=>by
 obtain⟨Z,ps,d,m,R,ok,rs,rp,h,k⟩:=h
 match ps,rp,h with
 | [],_,h=>exact h.elim
 | p::qs,rp,h =>
 simp only[RPs]at rp;obtain⟨v,w,rfl,r1,r2⟩:=rp;exact⟨v,w,rfl,Z,.dat p,d,m,_,ok,rs,r1,h,fun d' m' s' H' q e1 ok1 rs1=>⟨Z,qs,d',m',R,ok1,rs1,RPs.ext e1 _ _ r2,q,fun d2 m2 s2 H2 q2 e2 ok2 rs2=>k d2 m2 s2 H2 q2 (e1.trans e2) ok2 rs2⟩⟩
@[simp] def gT(n:Nat)(g:jW):DG:=fun x d m Q=>∃ ps,x=.dat (.tuple ps)/\ps.length=n/\g ps d m Q
theorem Zy{es:List Expr}{j n:Nat}{g:jW}(hc:X.calm=true)(h:PGs X es (kT X.K g))(hn:(assignEach es X.env).length=n:=by rfl)(hst:(assignEach es X.env).findIdx? (·.1)=none:=by rfl) :
  PG X (.Tuple es j pos) (LG X.K (gT n g)):=PG.imp (CH hc h hn hst) fun v s H Q h=>by
 obtain⟨Z,x,d,m,R,ok,rs,rd,⟨ps,rfl,hl,h⟩,k⟩:=h;simp only[RD,RP]at rd;obtain⟨a,vs,rfl,h1,h2⟩:=rd;exact⟨a,vs,rfl,h1,by rw[h2.length];exact hl,Z,ps,d,m,R,ok,rs,h2,h,k⟩
@[simp] def tE(f:DE)(g:DG):DS:=fun E d m=>f d m fun x m1=>g x d m1 E.nx
theorem L5{g:DG}(he:PE X e (LE X.K f))(hg:PG X tg (LG X.K g))(hs:swapsWithSole [tg] e pos.line X.env=pure false:=by rfl)(hw:swappedStores [tg] e X.env=pure none:=by rfl)
  (h1:(assignEach [tg] X.env).map (·.2)=[assign tg X.env]:=by rfl):PS X (.Assign [tg] e pos) (LS X.K (tE f g)):=PS.imp (j5 he hg hs hw h1) fun E s H h=>by
 obtain⟨Z,d,m,R,ok,rs,h,k,_⟩:=h;exact⟨Z,d,m,_,ok,rs,h,fun x m1 v H1 q e1 ok1 r1=>⟨Z,x,d,m1,_,ok1,rs.ext e1,r1,q,fun d2 m2 s2 H2 q2 e2 ok2 rs2=>k d2 m2 s2 H2 q2 (e1.trans e2) ok2 rs2⟩⟩
abbrev DI:=aT->Mu->(List D->Mu->Prop)->Prop
def Yld(K:PySem.W.Frag)(Z:Addr->Prop)(m:Mu)(H:Hp)(x:D)(v:V)(H2 H3:Hp):Prop :=
 (H3=H2/\RD K Z m H x v)\/∃ p ps vs,x=.dat (.tuple ps)/\v=.ref p/\H2 p=none/\H3=aE H2 p (.tup vs)/\RPs K Z m H ps vs
theorem Yld.same{K:PySem.W.Frag}{Z:Addr->Prop}{m:Mu}{H H2 H3:Hp}{x:D}{v:V}(h:Yld K Z m H x v H2 H3):Same H2 H3:=by
 rcases h with⟨rfl,_⟩ | ⟨p,ps,vs,_,_,hp,rfl,_⟩
 ·exact fun _ _ q=>q
 ·exact bT hp
theorem Yld.rd{K:PySem.W.Frag}{Z Z':Addr->Prop}{m m':Mu}{H H2 H3:Hp}{x:D}{v:V}(tr:∀ d v,RD K Z m H d v->RD K Z' m' H2 d v)(ok:Ok K Z' m' H2)(h:Yld K Z m H x v H2 H3):RD K Z' m' H3 x v:=by
 rcases h with⟨rfl,h⟩ | ⟨p,ps,vs,rfl,rfl,hp,rfl,h⟩
 ·exact tr _ _ h
 ·have h2:=RPs.lift (fun p v q=>tr (.dat p) v q) h
  simp only[RD,RP];exact⟨p,vs,rfl,.inl (.inl bQ),RPs.ext (ok.ext (bT hp)) _ _ h2⟩
structure ExtY (K:PySem.W.Frag) (Z:Addr->Prop) (m:Mu) (H:Hp) (m':Mu) (H':Hp):Prop where
 t:∀ a vs,SqT K H a vs->SqT K H' a vs
 l:∀ a vs,(m a=none/\¬ Z a)->SqL K H a vs->m' a=none/\SqL K H' a vs
 fz:∀ a o u,H a=some (.frz o u)->H' a=some (.frz o u)
theorem Ext.y{K:PySem.W.Frag}{Z:Addr->Prop}{m m':Mu}{H H':Hp}(e:Ext K Z m H m' H'):ExtY K Z m H m' H':=⟨e.t,e.l,e.fz⟩
def mM(K:PySem.W.Frag)(Z:Addr->Prop)(m:Mu)(H:Hp)(xs:List D)(J:It):Prop:=∀ m2 H2,ExtY K Z m H m2 H2 ->
 (∀ (i:Nat) (x:D),xs[i]?=some x->J.go i H2/\∀ v H3,J.yld i H2 v H3->Yld K Z m H x v H2 H3)/\J.stop xs.length H2
def LI(K:PySem.W.Frag)(fi:DI):TI:=fun s H R=>∃ (Z:Addr->Prop) (d:aT) (m:Mu) (ZZ:List D->Mu->Prop),Ok K Z m H/\RS K Z m H d s/\fi d m ZZ /\
 ∀ xs m' H' J,ZZ xs m'->Ext K Z m H m' H'->Ok K Z m' H'->mM K Z m' H' xs J->R J H'
@[simp] def dH(f:DE):DI:=fun d m Q=>f d m fun x m1=>(∃ ps,x=.dat (.list ps)/\Q (ps.map .dat) m1)\/(∃ ps,x=.dat (.tuple ps)/\Q (ps.map .dat) m1)
theorem PI.imp{t t':TI}(h:PI X tg e t)(q:∀ s H R,t' s H R->t s H R):PI X tg e t':=fun pins s d H R I w=>h pins s d H R I (q _ _ _ w)
theorem sH{ps:List PyData}{i:Nat}{x:D}(h:(ps.map D.dat)[i]?=some x):∃ p,ps[i]?=some p/\x=.dat p:=by
 rw[List.getElem?_map]at h
 cases e:ps[i]? with
 | none=>rw[e]at h;cases h
 | some p=>rw[e]at h;cases h;exact⟨p,rfl,rfl⟩
theorem Uh{K:PySem.W.Frag}{Z:Addr->Prop}{m:Mu}{H:Hp}{a:Addr}{vs:List V}{ps:List PyData}(h0:m a=none/\¬ Z a)(h1:SqL K H a vs)(h2:RPs K Z m H ps vs):mM K Z m H (ps.map .dat) (sG K a):=by
 intro m2 H2 e;obtain⟨q0,q1⟩:=e.l a vs h0 h1;have q2:=h2
 refine⟨fun i x hx=>?_,⟨vs,q1,by rw[q2.length,List.length_map];exact Nat.le_refl _⟩⟩
 obtain⟨p,hp,rfl⟩:=sH hx;obtain⟨v,hv,rv⟩:=h2.get hp;refine⟨⟨vs,v,q1,hv⟩,fun v' H3 y=>.inl ⟨y.1,?_⟩⟩;have:=y.2 vs q1
 rw[hv]at this
 cases this
 exact rv
theorem Yl{K:PySem.W.Frag}{Z:Addr->Prop}{m:Mu}{H:Hp}{a:Addr}{vs:List V}{ps:List PyData}(h1:SqT K H a vs)(h2:RPs K Z m H ps vs):mM K Z m H (ps.map .dat) (yL K a):=by
 intro m2 H2 e;have q1:=e.t a vs h1
 have q2:=h2
 refine⟨fun i x hx=>?_,⟨vs,q1,by rw[q2.length,List.length_map];exact Nat.le_refl _⟩⟩
 obtain⟨p,hp,rfl⟩:=sH hx;obtain⟨v,hv,rv⟩:=h2.get hp;refine⟨⟨vs,v,q1,hv⟩,fun v' H3 y=>.inl ⟨y.1,?_⟩⟩;have:=y.2 vs q1
 rw[hv]at this
 cases this
 exact rv
theorem Vn{l:Expr}{tl:TE}(hl:PE X l tl):PI X tg l (fun s H R=>tl s H fun x H1=>(∃ a,x=.ref a/\(∃ xs,SqL X.K H1 a xs)/\R (sG X.K a) H1)\/(∃ a,x=.ref a/\(∃ xs,SqT X.K H1 a xs)/\R (yL X.K a) H1)):=by
 intro pins s σ H R I h;refine aI (hl pins s σ H _ I h) fun v s1 ⟨x,H1,I1,r1,q1⟩=>?_;rcases q1 with⟨a,e,⟨xs,hq⟩,q⟩ | ⟨a,e,⟨xs,hq⟩,q⟩
 ·subst e
  cases r1
  obtain⟨its,rv,p,hz⟩:=I1.list hq;refine wpAny_pyIter_list p.isList ?_;refine⟨s1.heap.objs.size,[s1.heap.objs.size],_,_,H1,rfl,I1.kept (t':=s1.toks) fun b o e=>Heap.get?_push_of_some _ e,S2 a _,⟨_,Heap.get?_push_size _ rfl,rfl,rfl⟩,fun b hb=>?_,q⟩;have e:b=s1.heap.objs.size:=by simpa using hb
  subst e;exact I1.fpOk (Nat.le_refl _) (I1.hok.fresh (Nat.le_refl _))
 ·subst e
  cases r1
  obtain⟨its,rv,p,hz⟩:=I1.tuple hq;refine wpAny_pyIter_tuple (show s1.heap.IsTuple a its.toArray from p) ?_
  refine⟨s1.heap.objs.size,[s1.heap.objs.size],_,_,H1,rfl,I1.kept (t':=s1.toks) fun b o e=>Heap.get?_push_of_some _ e,M0 a _,⟨_,Heap.get?_push_size _ rfl,rfl,rfl⟩,fun b hb=>?_,q⟩;have e:b=s1.heap.objs.size:=by simpa using hb
  subst e;exact I1.fpOk (Nat.le_refl _) (I1.hok.fresh (Nat.le_refl _))
theorem Y7(ha:PE X e (LE X.K f)):PI X tg e (LI X.K (dH f)):=PI.imp (Vn ha) fun s H R h=>by
 obtain⟨Z,d,m,ZZ,ok,rs,h,k⟩:=h;refine⟨Z,d,m,_,ok,rs,h,fun x m1 v H1 q e1 ok1 rd=>?_⟩;rcases q with⟨ps,rfl,q⟩ | ⟨ps,rfl,q⟩
 ·simp only[RD,RP]at rd;obtain⟨a,vs,rfl,h0,h1,h2⟩:=rd;exact .inl ⟨a,rfl,⟨vs,h1⟩,k _ m1 H1 _ q e1 ok1 (Uh h0 h1 h2)⟩
 ·simp only[RD,RP]at rd;obtain⟨a,vs,rfl,h1,h2⟩:=rd;exact .inr ⟨a,rfl,⟨vs,h1⟩,k _ m1 H1 _ q e1 ok1 (Yl h1 h2)⟩
def cV(lo:Int)(n:Nat):List D:=(List.range n).map fun i=>.dat (.int (lo+(i:Nat)))
@[simp] def kA(f:DE):DI:=fun d m Q=>f d m fun x m1=>∃ j:Int,x=.dat (.int j)/\-(2^62)<=j/\j<2^62/\Q (cV 0 j.toNat) m1
theorem s0{p:Pos}(hg:Gl X "range")(hm:X.mg "range"=none)(ha:PE X e (LE X.K f))(hs:starEach [e] X.env=[(false,eval e X.env)]:=by rfl):PI X tg (.Call (.Name "range" p) [e] [] pos) (LI X.K (kA f)) :=
 PI.imp (W6 hg hm (vA ha uG (by rw[hs];rfl)) hs) fun s H R h=>by
  obtain⟨Z,d,m,ZZ,ok,rs,h,k⟩:=h;refine⟨Z,d,m,_,ok,rs,h,fun x m1 v H1 ⟨j,e,h1,h2,q⟩ e1 ok1 rd=>?_⟩;subst e
  cases rd.int
  show ∃ j':Int,[V.int j]=[V.int j']/\_
  refine⟨j,rfl,h1,h2,k _ m1 H1 _ q e1 ok1 fun m2 H2 e2=>⟨fun i x hx=>?_,?_⟩⟩
  ·unfold cV at hx;rw[List.getElem?_map]at hx
   cases ei:(List.range j.toNat)[i]? with
   | none=>rw[ei]at hx;cases hx
   | some i' =>
    rw[ei]at hx
    cases hx
    have hl:=(List.getElem?_eq_some_iff.mp ei).1
    have hi:i'=i:=by
     obtain⟨_,z⟩:=List.getElem?_eq_some_iff.mp ei;rw[List.getElem_range]at z;exact z.symm
    subst hi;rw[List.length_range]at hl;refine⟨hl,fun v' H3 y=>.inl ⟨y.1,?_⟩⟩;rw[y.2];exact .ofInt
  ·show j.toNat<=(cV 0 j.toNat).length
   unfold cV;rw[List.length_map,List.length_range];exact Nat.le_refl _
def dB(g:DG)(b:DS)(E:Ends2):List D->aT->Mu->Prop
 | [],d,m=>E.nx d m
 | x::xs,d,m=>g x d m fun d' m'=>b {E with nx:=dB g b E xs,ct:=dB g b E xs,bk:=E.nx} d' m'
@[simp] def dS(fi:DI)(g:DG)(b:DS):DS:=fun E d m=>fi d m fun xs m1=>dB g b E xs d m1
theorem K1{fi:DI}{g:DG}(hp:PassesOwn (model X.prog X.w) X.A X.env X.xe)(hc:X.calm=true)(hi:PI X tg iter (LI X.K fi))(hg:PG X tg (LG X.K g))(hb:PSs X body (LS X.K b))
  (hs:∀ x,foldedSetIterable iter X.env x=pure x:=by intro _;rfl):PS X (.For tg iter body [] pos) (LS X.K (dS fi g b)):=PS.imp (i5 hp hc hi hg hb hs) fun E s H h=>by
 obtain⟨Z,d,m,R,ok,rs,h,kn,kr,kb,kc⟩:=h;refine⟨Z,d,m,_,ok,rs,h,fun xs m1 H1 J q e1 ok1 yl=>?_⟩;refine⟨fun i n s' H'=>∃ d' m',n=xs.length-i/\i<=xs.length/\Ext X.K Z m1 H1 m' H'/\Ok X.K Z m' H'/\RS X.K Z m' H' d' s'/\dB g b R (xs.drop i) d' m',⟨xs.length,d,m1,by simp,Nat.zero_le _,Ext.refl,ok1,rs.ext e1,by simpa using q⟩,?_⟩
 rintro i n s2 H2 ⟨d2,m2,rfl,hi,e2,ok2,rs2,w⟩;obtain⟨y1,y2⟩:=yl m2 H2 e2.y
 by_cases hl:i<xs.length
 ·rw[List.drop_eq_getElem_cons hl]at w;obtain⟨go,yd⟩:=y1 i xs[i] (List.getElem?_eq_getElem hl);refine .inr ⟨go,fun s' H'=>∃ d' m',Ext X.K Z m1 H1 m' H'/\Ok X.K Z m' H'/\RS X.K Z m' H' d' s'/\dB g b R (xs.drop (i+1)) d' m',fun s' H' ⟨d',m',g1,g2,g3,g4⟩=>⟨xs.length-(i+1),by omega,d',m',rfl,hl,g1,g2,g3,g4⟩,fun v H3 y=>?_⟩
  have yy:=yd v H3 y
  have e2':=e2.trans (ok2.ext yy.same)
  refine⟨Z,xs[i],d2,m2,_,ok2.grow yy.same,rs2.ext (ok2.ext yy.same),yy.rd (fun d v h=>h.ext e2) ok2,w,fun d3 m3 s3 H3 q3 e3 ok3 rs3=>?_⟩;have e23:=e2'.trans e3
  have e13:=e1.trans e23
  exact⟨Z,d3,m3,_,ok3,rs3,q3,fun d4 m4 s4 H4 q4 e4 ok4 rs4=>⟨d4,m4,e23.trans e4,ok4,rs4,q4⟩,fun x m4 v H4 q4 e4 ok4 r4=>kr x m4 v H4 q4 (e13.trans e4) ok4 r4,
   fun d4 m4 s4 H4 q4 e4 ok4 rs4=>kn d4 m4 s4 H4 q4 (e13.trans e4) ok4 rs4,fun d4 m4 s4 H4 q4 e4 ok4 rs4=>⟨d4,m4,e23.trans e4,ok4,rs4,q4⟩⟩
 ·have e:i=xs.length:=by omega
  subst e;rw[List.drop_length]at w;exact .inl ⟨y2,kn d2 m2 s2 H2 w (e1.trans e2) ok2 rs2⟩
end
end DL
namespace DL
open PySem PySem.Spec PyProof.Rows L2
section
variable {prog:Program}{w:World}{A:Around}{E:Value->Shared->Prop}{s:Shared}
theorem K8(n:Nat):Builtin.Slice.sliceAdjust none none (-1) (n:Int)=((n:Int)-1,-1):=by
 unfold Builtin.Slice.sliceAdjust;simp
theorem Ur(n:Nat):Builtin.Slice.slicePlaces ((n:Int)-1) (-1) (-1)=n:=by
 unfold Builtin.Slice.slicePlaces;have h1:¬ ((-1:Int) > 0):=by omega
 simp only[h1,if_false]
 by_cases h:(n:Int)-1 > -1
 ·simp only[h,if_true,Int.neg_neg,Int.ediv_one];omega
 ·simp only[h,if_false];omega
theorem Mp(xs:List Value):∀ (k j:Nat),k+j=xs.length->(List.range k).filterMap (fun i=>xs[k-1-i]?)=(xs.take k).reverse
 | 0,_,_=>by simp
 | k+1,j,h=>by
  have ih:=Mp xs k (j+1) (by omega)
  rw[List.range_succ_eq_map,List.filterMap_cons];have hk:k<xs.length:=by omega
  have e0:xs[k+1-1-0]?=some xs[k]:=by simp[hk]
  rw[e0,List.filterMap_map];have e1:((fun i=>xs[k+1-1-i]?)∘Nat.succ)=fun i=>xs[k-1-i]?:=by
   funext i
   show xs[k+1-1-(i+1)]?=xs[k-1-i]?
   congr 1
   omega
  rw[e1,ih,List.take_succ_eq_append_getElem hk,List.reverse_append];rfl
theorem Ye(xs:Array Value):((List.range xs.size).filterMap fun(k:Nat)=>xs[(((xs.size:Nat):Int)-1+(k:Int)*(-1)).toNat]?).toArray=xs.toList.reverse.toArray:=by
 have h:=Mp xs.toList xs.size 0 (by simp)
 have e:(fun(k:Nat)=>xs[(((xs.size:Nat):Int)-1+(k:Int)*(-1)).toNat]?)=fun k=>xs.toList[xs.size-1-k]?:=by
  funext k
  have e1:(((xs.size:Nat):Int)-1+(k:Int)*(-1)).toNat=xs.size-1-k:=by omega
  rw[e1,Array.getElem?_toList]
 rw[e,h]
 congr 2
 rw[<- Array.length_toList,List.take_length]
theorem Qu{sl:Addr}{t:Tok}{n:Nat}{Q:Int×Int×Nat->Shared->Prop}(hs:s.heap.IsSliceOf sl .none .none (.int (-1) t))
  (h:Q ((n:Int)-1,-1,n) s):wpAny (model prog w) A (Builtin.Slice.sliceApplied (.ref sl) (pure (n:Int))) Q E s:=by
 obtain⟨os,hos,hcs,hds⟩:=id hs;unfold Builtin.Slice.sliceApplied Builtin.Slice.sliceFields;refine wpAny_bind (wpAny_bind (wpAny_field hos hds (x:=.none) rfl (wpAny_bind (wpAny_field hos hds (x:=.none) rfl (wpAny_bind (wpAny_field hos hds (x:=.int (-1) t) rfl (wpAny_pure ?_)))))));refine wpAny_bind (slicePart_int ?_);show wpAny _ _ (if ((-1:Int)==0)=true then _ else _) _ _ s
 rw[if_neg (by decide)]
 refine wpAny_bind (slicePart_none (wpAny_bind (slicePart_none (wpAny_bind (wpAny_pure ?_)))));show wpAny _ _ (match Builtin.Slice.sliceAdjust none none (-1) (n:Int) with | (lo,hi)=>pure (lo,(-1:Int),Builtin.Slice.slicePlaces lo hi (-1))) _ _ s
 rw[K8];show wpAny _ _ (pure ((n:Int)-1,(-1:Int),Builtin.Slice.slicePlaces ((n:Int)-1) (-1) (-1))) _ _ s
 rw[Ur];exact wpAny_pure h
theorem Vx{t sl:Addr}{items:Array Value}{tk:Tok}{Q:Value->Shared->Prop}(ht:IsTup s.heap t items)(hs:s.heap.IsSliceOf sl .none .none (.int (-1) tk))
  (h:Q (.ref s.heap.objs.size) {s with heap:=s.heap.push {cls:=.type "tuple",data:=.seq items.toList.reverse.toArray}})
  (hsz:items.size<=sizeLine):wpAny (model prog w) A (getItem (.ref t) (.ref sl)) Q E s:=by
 have htake:sizeOk (.seq items.toList.reverse.toArray):=by
  show items.toList.reverse.toArray.size<=sizeLine
  simpa using hsz
 obtain⟨os,hos,hcs,hds⟩:=id hs;have hTs:s.TypeIs (.ref sl) "slice":=⟨os,hos,hcs⟩
 unfold getItem
 try with_reducible refine wpAny_holding ?_
 first | refine wpAny_bind (wpAny_pure ?_) | skip
 refine wpAny_bind (wpAny_sequenceKey ht.typeIs (by decide) ?_)
 refine wpAny_bind (wpAny_callSpecial?_slot (name:=Str.ofString "__getitem__") ht.typeIs PyProof.Rows.slot_tuple_getitem
  (wpAny_call_entry PyProof.Rows.slot_tuple_getitem ht.typeIs entry_tuple_getitem ?_ (args_tuple_getitem _ _)))
 show wpAny _ _ (Builtin.Tuple.tupleItemsOf (.ref t)>>=_) _ _ s
 refine wpAny_bind (tupleItemsOf_ ht ?_);refine wpAny_bind (wpAny_typeOf hTs ?_);rw[if_pos (by decide)]
 refine wpAny_bind (Qu hs ?_);have hno:¬ ((((items.size:Nat):Int)-1==0&&(-1:Int)==1&&items.size==items.size)=true):=by
  intro q;rw[Bool.and_eq_true,Bool.and_eq_true]at q;exact absurd q.1.2 (by decide)
 show wpAny _ _ (if (((items.size:Nat):Int)-1==0&&(-1:Int)==1&&items.size==items.size)=true then _ else _) _ _ s
 rw[if_neg hno,Ye]
 first
  | exact wpAny_bind (m:=Builtin.Tuple.tupleExact _) (wpAny_newObj_type (wpAny_pure ⟨_,rfl,wpAny_pure h⟩) htake)
  | exact wpAny_bind (m:=Builtin.Tuple.tupleExact _) (wpAny_newObj_type (wpAny_bind (wpAny_pure (wpAny_pure ⟨_,rfl,wpAny_pure h⟩))) htake)
  | exact wpAny_bind (wpAny_bind (m:=Builtin.Tuple.tupleExact _) (wpAny_newObj_type (wpAny_pure (wpAny_pure ⟨_,rfl,wpAny_pure h⟩)) htake))
  | exact wpAny_bind (wpAny_bind (m:=Builtin.Tuple.tupleExact _) (wpAny_newObj_type (wpAny_pure ⟨_,rfl,wpAny_pure h⟩) htake))
end
section
variable {X:Cx}{a e:Expr}{es:List Expr}{f:DE}{ga:DA}{pos p p1 p2 p3 p4:Pos}
theorem Vals.rev:∀ {xs:List V} {us:List Value},Vals xs us->Vals xs.reverse us.reverse
 | _,_,.nil=>.nil
 | _,_,.cons r t=>by
  rw[List.reverse_cons,List.reverse_cons];exact(Vals.rev t).append (.cons r .nil)
@[simp] def Da(f:DE):DE:=fun d m Q=>f d m fun x m1=>∃ xs,x=.dat (.tuple xs)/\Q (.dat (.tuple xs.reverse)) m1
theorem K9{j:Nat}(ha:PE X a (LE X.K f)):PE X (.Subscript a (.Slice none none (some (.UnaryOp .USub (.Constant (.int 1) j p3) p4)) p2) pos) (LE X.K (Da f)):=by
 intro pins s σ H Q I h;obtain⟨Z,d,m,R,ok,rs,h,k⟩:=h;refine Subscript_ (aI (ha pins s σ H (fun x H1=>∃ a vs,x=.ref a/\SqT X.K H1 a vs/\∀ p,H1 p=none->Q (.ref p) (aE H1 p (.tup vs.reverse))) I ?_) fun v s1 ⟨x,H1,I1,r1,a',vs,ex,hq,q1⟩=>?_)
 ·refine⟨Z,d,m,_,ok,rs,h,fun x m1 v H1 ⟨xs,e,q⟩ e1 ok1 rd=>?_⟩;subst e;simp only[RD,RP]at rd;obtain⟨a',vs,rfl,h1,h2⟩:=rd;refine⟨a',vs,rfl,h1,fun p hp=>?_⟩;have sm:Same H1 (aE H1 p (.tup vs.reverse)):=bT hp
  refine k _ m1 _ _ q (e1.trans (ok1.ext sm)) (ok1.grow sm) ?_;simp only[RD,RP];exact⟨p,_,rfl,.inl (.inl bQ),RPs.ext (ok1.ext sm) _ _ h2.reverse⟩
 ·subst ex
  cases r1
  refine wpAny_Slice ?_;rw[evalPart_none];refine wpAny_pure (wpAny_pure ?_);rw[evalPart_some];refine UnaryOp_ (wpAny_Constant_int (neg_int ?_));have I4:∀ tk,Inv X pins σ H1 {s1 with heap:=s1.heap.push {cls:=.type "slice",data:=.fields #[.none,.none,.int (-1) (s1.toks+1)]},toks:=tk}:=fun tk=>I1.kept fun b ob q=>Heap.get?_push_of_some _ q
  obtain⟨its,r,ht,hz⟩:=(I4 (s1.toks+1+1)).tuple hq;have hl:=r.length
  refine tail_any (ops:=[.ref a',.ref s1.heap.objs.size]) ht.typeIs PyProof.Rows.slot_tuple_getitem.lookup (Vx ht (Heap.IsSliceOf.new ..) ?_ (by rw[List.size_toArray];omega)) (by with_unfolding_all rfl)
  refine⟨.ref _,aE H1 _ (.tup vs.reverse),(I4 (s1.toks+1+1)).laid (t':=s1.toks+1+1) (fun b ob q=>Heap.get?_push_of_some _ q) (Nat.le_refl _) ?_,rfl,q1 _ ((I4 (s1.toks+1+1)).hok.fresh (Nat.le_refl _))⟩;exact⟨⟨by rw[List.length_reverse];exact hz,NoD.new _ _ _⟩,_,Vals.rev r,IsTup.new _ _⟩
@[simp] def Gc:PyData->String
 | .none=>"NoneType"
 | .bool _=>"bool"
 | .int _=>"int"
 | .str _=>"str"
 | .list _=>"list"
 | .tuple _=>"tuple"
 | .dict _=>"dict"
@[simp] def isK(q:PyData)(c:String):Bool:=Gc q==c||(Gc q == "bool" && c == "int")
def LSp(K:PySem.W.Frag)(n:Nat)(sp:DC):Sp:=fun vs H Q _=>∃ Z ds m R,Ok K Z m H/\RDs K Z m H ds vs/\ds.length=n/\sp ds m R/\∀ d m' v' H',R d m'->Ext K Z m H m' H'->Ok K Z m' H'->RD K Z m' H' d v'->Q v' H'
theorem LSp.len{K:PySem.W.Frag}{n:Nat}{sp:DC}{vs:List V}{H:Hp}{Q:VK}{E:XK}(h:LSp K n sp vs H Q E):vs.length=n:=by
 obtain⟨Z,ds,m,R,_,rd,hl,_⟩:=h;rw[rd.length];exact hl
@[simp] def bA(n:Nat)(sp:DC)(g:DA):DE:=fun d m Q=>g d m fun xs m1=>xs.length=n/\sp xs m1 Q
theorem B4{k n:Nat}{fa:Addr}{fd:FuncData}{ps:List Str}{sp:DC}{x:Str}(F:FnOk X.prog X.w X.K X.mg X.base aP k fa fd ps (LSp X.K n sp))(hr:Room k X.A)(hm:X.mg x=some (.ref fa))(hk:PySem.W.keepIn X.K (.ref fa)=true)
  (hb:Binds X.K fd ps []) (hx:X.xe=fun _ _=>False) (ha:PA X (e::es) (LA X.K ga)) (hg:Gl X x:=by rfl) (hdb:(x==("__debug__" : Str))=false:=by decide)
  (he:starEach (e::es) X.env=(false,eval e X.env)::starEach es X.env:=by rfl) (hpl:(backTo pos (starEach es X.env)).any (·.1)=false:=by rfl):PE X (.Call (.Name x p) (e::es) [] pos) (LE X.K (bA n sp ga)) :=
 PE.imp (X9 F hr hg hm hk hb .nil (Ib (X:=X)) ha hdb he hpl) fun s H Q h=>by
  obtain⟨Z,d,m,R,ok,rs,h,k⟩:=h;refine⟨Z,d,m,_,ok,rs,h,fun xs m1 vs H1 ⟨hl,q⟩ e1 ok1 rd=>⟨Z,xs,m1,R,ok1,by simpa using rd,hl,q,fun d' m' v' H' h1 h2 h3 h4=>k d' m' v' H' h1 (e1.trans h2) h3 h4⟩⟩
@[simp] def aW(N:List Str)(ds:List D):aT:=ds.map some++List.replicate (N.length-ds.length) none
theorem RDs.get{K:PySem.W.Frag}{Z:Addr->Prop}{m:Mu}{H:Hp}:∀ {xs:List D} {vs:List V} {i:Nat} {x:D},RDs K Z m H xs vs->xs[i]?=some x->∃ v,vs[i]?=some v/\RD K Z m H x v
 | [],_,_,_,_,e=>by simp at e
 | _::_,_,0,x,⟨v,r,h1,h2,_⟩,e=>by
  simp at e;subst h1 e;exact⟨v,rfl,h2⟩
 | _::xs,_,i+1,x,⟨v,r,h1,_,h3⟩,e=>by
  obtain⟨u,q1,q2⟩:=RDs.get (i:=i) (x:=x) h3 (by simpa using e)
  subst h1;exact⟨u,by simpa using q1,q2⟩
theorem Rb{K:PySem.W.Frag}{Z:Addr->Prop}{m:Mu}{H:Hp}{N:List Str}{ds:List D}{vs:List V}(h:RDs K Z m H ds vs):RS K Z m H (aW N ds) (start N vs):=by
 have hl:=h.length
 refine⟨?_,fun i x hx=>?_⟩
 ·unfold aW L2.start;rw[List.length_append,List.length_append,List.length_map,List.length_map,List.length_replicate,List.length_replicate,hl]
 ·unfold aW at hx
  by_cases hi:i<ds.length
  ·rw[List.getElem?_append_left (by simpa using hi),List.getElem?_map]at hx
   cases e:ds[i]? with
   | none=>rw[e]at hx;cases hx
   | some y =>
    rw[e]at hx
    cases hx
    obtain⟨v,q1,q2⟩:=h.get e;refine⟨v,?_,q2⟩;unfold L2.start;rw[List.getElem?_append_left (by rw[List.length_map,hl];exact hi),List.getElem?_map,q1]
    rfl
  ·rw[List.getElem?_append_right (by simpa using hi),List.getElem?_replicate]at hx
   split at hx<;>cases hx
end
section
variable {P:Program}{w:World}{K:PySem.W.Frag}{mg:Str->Option Value}{base:Heap}
theorem C0{x qual:Str}{st:Stmt}{fa:Addr}{fd:FuncData}{N ps:List Str}{k:Nat}{sp:DC}{body:DS}(F:Fun K x qual st fa fd)(S:FnScope N ps (aO st))
  (hb:∀ (cdv:Value) (A:Around) (outer:List Env) (s:Shared) (H:Hp) (E:XK),Room k (A.deeper (envOfC qual (aO st) s.heap.objs.size fa cdv)) ->
   PSs (kG aP P w K mg base N qual (aO st) fa cdv A outer s H E).nox (aX st) (LS K body))
  (hv:∀ ds m R,ds.length=ps.length->sp ds m R->body {nx:=fun _ m=>R (.dat .none) m,rt:=R} (aW N ds) m):FnOk P w K mg base aP (k+1) fa fd ps (LSp K ps.length sp):=by
 refine F.ok S (fun vs H Q E h=>h.len) (fun cdv A outer s H vs Q E hr h=>?_);obtain⟨Z,ds,m,R,ok,rd,hl,h,kk⟩:=h;refine⟨_,hb cdv A outer s H E hr,Z,aW N ds,m,_,ok,Rb rd,hv ds m R hl h,?_,?_,?_,?_⟩
 ·intro d' m' s' H' q e1 ok1 _;exact kk _ m' _ H' q e1 ok1 (by simp only[RD,RP])
 ·exact fun x m' v H' q e1 ok1 r1=>kk x m' v H' q e1 ok1 r1
 ·exact fun _ _ _ _ q _ _ _=>q.elim
 ·exact fun _ _ _ _ q _ _ _=>q.elim
end
end DL
namespace L2
open PySem
theorem Room.u100{k:Nat}{A:Around}(r:Room k A):A.units+100<cLine:=by have:=r.un;omega
end L2
namespace DL
open PySem PySem.Spec PyProof.Rows L2
theorem qU:bootBuiltins "len"=some (.builtin "len"):=by decide +kernel
theorem j3:bootBuiltins "int"=some (.type "int"):=by decide +kernel
theorem Y8:bootBuiltins "list"=some (.type "list"):=by decide +kernel
theorem kD:bootBuiltins "tuple"=some (.type "tuple"):=by decide +kernel
end DL
namespace DL
open PySem PySem.Spec PyProof.Rows L2
theorem Bk{K:PySem.W.Frag}{Z:Addr->Prop}{m:Mu}{H:Hp}:∀ ns:List Int,RPs K Z m H (ns.map PyData.int) (ns.map V.int)
 | []=>by simp[RPs]
 | n::ns=>by
  simp only[List.map_cons,RPs];exact⟨_,_,rfl,by simp only[RP],Bk ns⟩
theorem B5{K:PySem.W.Frag}{sp:DC}{H:Hp}{a:Addr}{ns:List Int}{E:XK}(hS:SqL K H a (ns.map V.int))(h:sp [.dat (.list (ns.map .int))] (fun _=>none) (fun d _=>d=.dat (.bool true))):LSp K 1 sp [.ref a] H (fun v _=>v=.bl true) E:=by
 have ok:Ok K (fun _=>False) (fun _=>none) H:=⟨fun b ds e=>(by cases e),fun _ z=>False.elim z⟩
 refine⟨fun _=>False,[.dat (.list (ns.map .int))],fun _=>none,fun d _=>d=.dat (.bool true),ok,⟨.ref a,[],rfl,?_,rfl⟩,rfl,h,?_⟩
 ·simp only[RD,RP];exact⟨a,_,rfl,by first | exact⟨rfl,fun z=>z⟩ | simp,hS,Bk ns⟩
 ·rintro d m' v' H' rfl _ _ r;simpa only[RD,RP] using r
end DL
namespace DL
open PySem PySem.Spec PyProof.Rows L2
theorem Bo(env:Env):∀ (names:List (Str×NameKind)) (cs:List (Str×Addr)),(∀ x,(x,NameKind.free)∈names->∃ c,env.cells.lookup x=some c)->(∀ p∈cs,env.cells.lookup p.1=some p.2) ->
  ∃ cl:List (Str×Addr),(forIn names cs (fun(x:Str×NameKind) (r:List (Str×Addr))=>(if (x.2==.free)=true then (do let c <- cellOf env x.1;pure (ForInStep.yield ((x.1,c)::r))) else pure (ForInStep.yield r):Sem (ForInStep (List (Str×Addr))))))=pure cl /\
   (∀ p∈cl,env.cells.lookup p.1=some p.2)/\(∀ p∈cs,p∈cl)/\∀ x,(x,NameKind.free)∈names->∃ c,(x,c)∈cl
 | [],cs,_,h=>⟨cs,rfl,h,fun _ z=>z,fun x z=>nomatch z⟩
 | (n,k)::r,cs,hf,h=>by
  by_cases hk:k=.free
  ·subst hk;obtain⟨c,hc⟩:=hf n List.mem_cons_self;obtain⟨cl,e,h1,h2,h3⟩:=Bo env r ((n,c)::cs) (fun x hx=>hf x (List.mem_cons_of_mem _ hx)) (fun p hp=>by
    rcases List.mem_cons.mp hp with rfl | hp
    ·exact hc
    ·exact h p hp)
   refine⟨cl,?_,h1,fun p hp=>h2 p (List.mem_cons_of_mem _ hp),fun x hx=>?_⟩
   ·rw[List.forIn_cons];have e2:cellOf env n=pure c:=by unfold cellOf;rw[hc]
    simp only[beq_self_eq_true,if_true,e2,pure_bind];exact e
   ·rcases List.mem_cons.mp hx with z | hx
    ·cases z
     exact⟨c,h2 _ List.mem_cons_self⟩
    ·exact h3 x hx
  ·obtain⟨cl,e,h1,h2,h3⟩:=Bo env r cs (fun x hx=>hf x (List.mem_cons_of_mem _ hx)) h;refine⟨cl,?_,h1,h2,fun x hx=>?_⟩
   ·rw[List.forIn_cons];have e2:(k==NameKind.free)=false:=by simpa using hk
    simp only[e2,Bool.false_eq_true,if_false,pure_bind];exact e
   ·rcases List.mem_cons.mp hx with z | hx
    ·cases z
     exact absurd rfl hk
    ·exact h3 x hx
theorem zA{scope:Scope}{env:Env}(hf:∀ x,(x,NameKind.free)∈scope.names->∃ c,env.cells.lookup x=some c) :
  ∃ cl:List (Str×Addr),closureFor scope env=pure cl/\(∀ p∈cl,env.cells.lookup p.1=some p.2)/\∀ x,(x,NameKind.free)∈scope.names->∃ c,(x,c)∈cl:=by
 obtain⟨cl,e,h1,_,h3⟩:=Bo env scope.names [] hf (fun _ z=>nomatch z);refine⟨cl,?_,h1,h3⟩;unfold closureFor
 first
  | exact e
  | (show(do let cs <- forIn scope.names ([]:List (Str×Addr)) _;pure cs:Sem _)=_;rw[e];rfl)
  | (simp only[];rw[e];rfl)
section
variable {prog:Program}{w:World}{A:Around}{R:Result->Shared->Prop}{s:Shared}
theorem CC{elt target iter:Expr}{ifs:List Expr}{scope:Scope}{pos:Pos}{it acc:Value}{env:Env}(I:Nat->Shared->Prop)
  (turn:∀ n s,I n s->wpAny (model prog w) A (pyNext it) (fun r s₁=>match r with
   | none=>R (.ok .next) s₁
   | some v=>wpAny (model prog w) A (letOwnedTupleGo target it v) (fun _ s₀=>wpAny (model prog w) A (assign target env v) (fun _ s₂ =>
     wpAny (model prog w) A (forIn ifs true fun c r=>if r=true then do let ok <- isTrue c env (eval c env);pure (ForInStep.yield ok) else pure (ForInStep.yield r)) (fun ok s₃ =>
      if ok=true then wpAny (model prog w) A (eval elt env) (fun x s₄ =>
       wpAny (model prog w) A (call (.builtin "list.append") [acc,x]) (fun _ s₅=>∃ m,m<n/\I m s₅) (fun _ _=>False) s₄) (fun _ _=>False) s₃
      else ∃ m,m<n/\I m s₃) (fun _ _=>False) s₂) (fun _ _=>False) s₀) (fun _ _=>False) s₁) (fun _ _=>False) s)
  (n:Nat) (h:I n s) :
  codeAny (model prog w) A (.compLoop (.ListComp elt [⟨target,iter,ifs,0⟩] scope pos) 0 it acc env) R s:=by
 have ff:∀ {E:Value->Shared->Prop} (x:Value) (s:Shared),False->E x s:=fun _ _ z=>z.elim
 refine codeAny_loop rfl I (fun n s hI=>?_) n h;show wpAny _ A ((compTurn (.ListComp elt [⟨target,iter,ifs,0⟩] scope pos) 0 it acc env).onRaise (fun x=>do noteFrame x env;theTreesLotGoes x)) _ _ s
 refine wpAny_noted ?_;rw[compTurn_list];refine wpAny_bind (wpAny_standAt (wpAny_bind (wpAny_mono (turn n s hI) (fun r s₁ h₁=>?_) ff)))
 cases r with
 | none=>exact wpAny_pure h₁
 | some v =>
  refine wpAny_bind (wpAny_mono h₁ (fun _ s₀ h₀=>?_) ff);refine wpAny_bind (wpAny_mono h₀ (fun _ s₂ h₂=>wpAny_bind (wpAny_mono h₂ (fun ok s₃ h₃=>?_) ff)) ff)
  cases ok with
  | true =>
   simp only[if_true]at h₃ ⊢;refine wpAny_bind (wpAny_bind (wpAny_mono h₃ (fun x s₄ h₄=>wpAny_bind (wpAny_mono h₄ (fun _ s₅ h₅=>wpAny_pure (wpAny_pure ⟨rfl,h₅⟩)) ff)) ff))
  | false =>
   simp only[Bool.false_eq_true,if_false]at h₃ ⊢;exact wpAny_pure ⟨rfl,h₃⟩
end
end DL
namespace DL
open PySem PySem.Spec PyProof.Rows L2
def aQ(X:Cx)(scope:Scope)(cl:List (Str×Addr))(C:Addr)(NC:List Str)(s2:Shared)(H2:Hp)(pins:List (Addr×Obj))(fp:List Addr):Cx where
 prog:=X.prog
 w:=X.w
 K:=X.K
 mg:=X.mg
 base:=X.base
 A:=X.A
 N:=NC
 s₀:=s2
 H₀:=H2
 env:=compEnvC scope cl C X.env
 outer:=X.stack
 stack:=X.stack
 ex:=fp
 fn:=fun _=>false
 calm:=X.calm
 pn:=X.pn++pins
 xe:=fun _ _=>False
theorem qT{cl:List (Str×Addr)}{x:Str}{c:Addr}(h:cl.lookup x=some c):(x,c)∈cl:=PySem.mem_of_lookup h
theorem Kt{cl:List (Str×Addr)}{x:Str}:∀ {c:Addr},(x,c)∈cl->∃ c',cl.lookup x=some c':=by
 induction cl with
 | nil=>intro c h;cases h
 | cons p r ih =>
  intro c h;rw[List.lookup_cons]
  cases hx:x==p.1 with
  | true=>exact⟨_,rfl⟩
  | false =>
   rcases List.mem_cons.mp h with e | h
   ·subst e;simp at hx
   ·exact ih h
theorem Et{env:Env}:∀ {names:List (Str×NameKind)} {x:Str},(∀ y∈names,y.2≠.cell) ->
  ((names.map fun(n,k)=>if (k==NameKind.free&&env.scope.kind==.function&&env.kindOf n==some .cell) then (n,NameKind.cell) else (n,k)).lookup x=some .cell \/
    (names.map fun(n,k)=>if (k==NameKind.free&&env.scope.kind==.function&&env.kindOf n==some .cell) then (n,NameKind.cell) else (n,k)).lookup x=some .free)->(x,NameKind.free)∈names
 | [],x,_,h=>by simp at h
 | (n,k)::r,x,hc,h=>by
  have ih:=@Et env r x (fun y hy=>hc y (List.mem_cons_of_mem _ hy))
  by_cases hk:(k==NameKind.free&&env.scope.kind==.function&&env.kindOf n==some .cell)=true
  ·have kf:k=.free:=by
    rw[Bool.and_eq_true,Bool.and_eq_true]at hk;exact eq_of_beq hk.1.1
   subst kf;simp only[List.map_cons,hk,if_true,List.lookup_cons]at h
   cases hx:x==n with
   | true =>
    have:x=n:=eq_of_beq hx
    subst this;exact List.mem_cons_self
   | false =>
    simp only[hx]at h;exact List.mem_cons_of_mem _ (ih h)
  ·have hk':(k==NameKind.free&&env.scope.kind==.function&&env.kindOf n==some .cell)=false:=by simpa using hk
   simp only[List.map_cons,hk',Bool.false_eq_true,if_false,List.lookup_cons]at h
   cases hx:x==n with
   | true =>
    have:x=n:=eq_of_beq hx
    subst this;simp only[hx]at h;have hne:=hc (x,k) List.mem_cons_self
    rcases h with h | h
    ·exact absurd (Option.some.inj h) hne
    ·have:k=.free:=Option.some.inj h
     subst this;exact List.mem_cons_self
   | false =>
    simp only[hx]at h;exact List.mem_cons_of_mem _ (ih h)
section
variable {X:Cx}{pins:List (Addr×Obj)}{σ:L2.St}{H2:Hp}{s2:Shared}{scope:Scope}{cl:List (Str×Addr)}{NC:List Str}{fp:List Addr}{C:Addr}
theorem Qj(I2:Inv X pins σ H2 s2)(hf:∀ b∈fp,cS X pins H2 b)(hob:∀ b∈fp,∃ o,s2.heap.get? b=some o/\∀ v,o.data≠.cell v)(hkind:scope.kind=.function)(hcell:∀ y∈scope.names,y.2≠.cell)
  (hcl1:∀ p∈cl,X.env.cells.lookup p.1=some p.2) (hcl2:∀ x,(x,NameKind.free)∈scope.names->∃ c,(x,c)∈cl) (hC:s2.heap.objs.size<=C):(aQ X scope cl C NC s2 H2 pins fp).Ok:=by
 have lk:∀ x c,cl.lookup x=some c->X.env.cells.lookup x=some c:=fun x c h=>hcl1 (x,c) (qT h)
 refine⟨I2.ok.mod,hkind,I2.ok.glob,I2.ok.blt,hC,fun x y c h1 h2=>I2.ok.inj x y c (lk x c h1) (lk y c h2),fun x hx=>?_,fun x c h=>absurd (show false=true from h) Bool.false_ne_true,I2.ok.hd,I2.ok.frames,.inl rfl,fun b hb=>⟨?_,fun x c h=>?_⟩,fun b o e=>I2.bs b o e,
  Nat.le_trans I2.ok.bsz I2.sz,fun b o e hb=>?_,fun b hb hs=>?_,I2.stack,I2.stkFree⟩
 ·obtain⟨c,hc⟩:=hcl2 x (Et (env:=X.env) hcell hx);exact Kt hc
 ·obtain⟨o,ho,_⟩:=hob b hb;exact Nat.ne_of_lt (Nat.lt_of_lt_of_le (Heap.lt_size ho) hC)
 ·exact(hf b hb).2.2.2.2.1 x c (lk x c h)
 ·rcases (hf b hb).2.2.2.1 with z | z
  ·exact I2.ok.noex b o e z
  ·exact absurd (Nat.lt_of_lt_of_le (Heap.lt_size e) (Nat.le_trans I2.ok.bsz z)) (Nat.lt_irrefl _)
 ·rcases List.mem_cons.mp (I2.stkSub b hs) with z | z
  ·exact(hf b hb).2.1 z
  ·exact(hf b hb).2.2.1 z
theorem Ku{o0:HO}{σ':L2.St}{h₁:Heap}{tk:Nat}{mm:Str->Option Value}(I2:Inv X pins σ H2 s2)(hf:∀ b∈fp,cS X pins H2 b)(hob:∀ b∈fp,∃ o,s2.heap.get? b=some o/\∀ v,o.data≠.cell v)(hkind:scope.kind=.function)(hcell:∀ y∈scope.names,y.2≠.cell)
  (hcl1:∀ p∈cl,X.env.cells.lookup p.1=some p.2) (hcl2:∀ x,(x,NameKind.free)∈scope.names->∃ c,(x,c)∈cl)
  (hlen:σ'.length=NC.length) (hσ:∀ (i:Nat) (x:Str) (v:V),NC[i]?=some x->σ'[i]?=some (some v)->iQ (relabel scope X.env) x->((relabel scope X.env).names.lookup x=some .cell\/(relabel scope X.env).names.lookup x=some .free)/\(X.env.kindOf x=some .cell\/X.env.kindOf x=some .free)/\∃ j:Nat,X.N[j]?=some x/\σ[j]?=some (some v))
  (hC:C=s2.heap.objs.size+1) (hns:h₁.Ns C mm) (hk:∀ b u,s2.heap.get? b=some u->h₁.get? b=some u)
  (hO:ObjOk X.prog X.w (aE H2 s2.heap.objs.size o0) h₁ s2.heap.objs.size o0) :
  Inv (aQ X scope cl C NC s2 H2 pins fp) [] σ' (aE H2 s2.heap.objs.size o0) {s2 with heap:=h₁,toks:=tk}:=by
 have lk:∀ x c,cl.lookup x=some c->X.env.cells.lookup x=some c:=fun x c h=>hcl1 (x,c) (qT h)
 have hn:H2 s2.heap.objs.size=none:=I2.hok.fresh (Nat.le_refl _)
 have le1:s2.heap.objs.size<=C:=by rw[hC];exact Nat.le_succ _
 have ne1:C≠s2.heap.objs.size:=by rw[hC];exact Nat.succ_ne_self _
 have hCn:H2 C=none:=I2.hok.fresh le1
 have neD:∀ b o,s2.heap.get? b=some o->b≠s2.heap.objs.size:=fun b o e=>Nat.ne_of_lt (Heap.lt_size e)
 refine⟨Qj I2 hf hob hkind hcell hcl1 hcl2 le1,rfl,I2.bare,Un.laid hk (Nat.le_refl _) hn,⟨mm,hns,fun i x v h1 h2 h3=>?_⟩,fun x c h=>?_,?_,fun x c h=>?_,fun p hp=>?_,?_,hlen⟩
 ·obtain⟨hy,hx,j,hj,hv⟩:=hσ i x v h1 h2 h3;obtain⟨m,hnX,hl⟩:=I2.loc;have vis:iQ X.env.scope x:=by rcases hx with z | z;exact .inr (.inl z);exact .inr (.inr z)
  obtain⟨u,r,l⟩:=hl j x v hj hv vis;refine⟨u,r,.inr ⟨hy,?_⟩⟩;obtain⟨c',hc'⟩:=hcl2 x (Et (env:=X.env) hcell hy);obtain⟨c,hc⟩:=Kt hc';refine⟨c,hc,?_⟩;rcases l with⟨z,_⟩ | ⟨_,c2,e2,o,ho,hd⟩
  ·rcases hx with q | q
   ·rw[z]at q;cases q
   ·rw[z]at q;cases q
  ·have:=lk x c hc
   rw[e2]at this
   cases this
   exact⟨o,hk _ o ho,hd⟩
 ·obtain⟨v,o,ho,hd⟩:=I2.cell x c (lk x c h);exact⟨v,o,hk _ o ho,hd⟩
 ·show aE H2 s2.heap.objs.size o0 C=none
  rw[aV ne1];exact hCn
 ·obtain⟨v,o,ho,hd⟩:=I2.cell x c (lk x c h);rw[aV (neD c o ho)];exact I2.freeC x c (lk x c h)
 ·have hp':p∈X.pn++pins:=by
   rcases List.mem_append.mp hp with z | z
   ·exact z
   ·cases z
  obtain⟨e,n,ne,nf,d⟩:=I2.pin p hp';refine⟨hk _ _ e,by rw[aV (neD _ _ e)];exact n,?_,fun z=>?_,d⟩
  ·show p.1≠C
   exact Nat.ne_of_lt (Nat.lt_of_lt_of_le (Heap.lt_size e) le1)
  ·rcases List.mem_cons.mp (I2.stkSub p.1 z) with q | q
   ·exact ne q
   ·exact nf q
 ·exact I2.hok.laid hk (Nat.le_refl _) hO
theorem Ld{σ':L2.St}{h₁:Heap}{tk:Nat}{mm:Str->Option Value}(I2:Inv X pins σ H2 s2)(hf:∀ b∈fp,cS X pins H2 b)(hob:∀ b∈fp,∃ o,s2.heap.get? b=some o/\∀ v,o.data≠.cell v)(hkind:scope.kind=.function)(hcell:∀ y∈scope.names,y.2≠.cell)
  (hcl1:∀ p∈cl,X.env.cells.lookup p.1=some p.2) (hcl2:∀ x,(x,NameKind.free)∈scope.names->∃ c,(x,c)∈cl)
  (hlen:σ'.length=NC.length) (hσ:∀ (i:Nat) (x:Str) (v:V),NC[i]?=some x->σ'[i]?=some (some v)->iQ (relabel scope X.env) x->((relabel scope X.env).names.lookup x=some .cell\/(relabel scope X.env).names.lookup x=some .free)/\(X.env.kindOf x=some .cell\/X.env.kindOf x=some .free)/\∃ j:Nat,X.N[j]?=some x/\σ[j]?=some (some v))
  (hC:C=s2.heap.objs.size+1) (hns:h₁.Ns C mm) (hk:∀ b u,s2.heap.get? b=some u->h₁.get? b=some u)
  (hD:h₁.get? s2.heap.objs.size=some {cls:=.type "list",data:=.seq ([]:List Value).toArray}) :
  Inv (aQ X scope cl C NC s2 H2 pins fp) [] σ' (aE H2 s2.heap.objs.size (.lst [])) {s2 with heap:=h₁,toks:=tk} :=
 Ku I2 hf hob hkind hcell hcl1 hcl2 hlen hσ hC hns hk ⟨Nat.zero_le _,[],0,.nil,hD⟩
theorem yT{py:List (Addr×Obj)}{σ'':L2.St}{H':Hp}{s':Shared}{h':Heap}(I2:Inv X pins σ H2 s2)(hf:∀ b∈fp,cS X pins H2 b)(Iy:Inv (aQ X scope cl C NC s2 H2 pins fp) py σ'' H' s')(hC:s2.heap.objs.size<=C)(hs:Heap.SameBut C s'.heap h') :
  Inv X pins σ H' {s' with heap:=h'}:=by
 have u:Un (fT X.stack) fp H2 H' s2.heap s'.heap:=Iy.base
 have neC:∀ b o,s2.heap.get? b=some o->b≠C:=fun b o e=>Nat.ne_of_lt (Nat.lt_of_lt_of_le (Heap.lt_size e) hC)
 have fC:H' C=none:=Iy.free
 refine I2.call' (s':={s' with heap:=h'}) (ch:=fp) Iy.os ⟨fun b o e n hb hx=>(hs.2 b (neC b o e)).trans (u.keep b o e n hb hx),fun b o e n hb hx=>?_,u.free,fun b o e hx=>?_,u.tups,u.frzs,u.tbls⟩ (fun b o e=>?_) Iy.bare fun b hb=>?_
 ·obtain⟨sl,q⟩:=u.slot b o e n hb hx;exact⟨sl,(hs.2 b (neC b o e)).trans q⟩
 ·obtain⟨o',q⟩:=u.there b o e hx;exact⟨o',(hs.2 b (neC b o e)).trans q⟩
 ·refine(Iy.hok b o e).stay (fun c v hc q=>(hs.2 c ?_).trans q) (fun _ q=>q) (fun _ _ q=>q) fun _ _ _ q=>q;rintro rfl;rcases hc with rfl | hc
  ·rw[fC]at e;cases e
  ·rw[fC]at hc;cases hc
 ·obtain⟨_,f1,_,f3,f4,f5⟩:=hf b hb;exact⟨f3,f1,f4,f5⟩
end
end DL
namespace DL
open PySem PySem.Spec PyProof.Rows L2
section
variable {K:PySem.W.Frag}{Z Y:Addr->Prop}{m m':Mu}{H H':Hp}
mutual
theorem RP.tr(ht:∀ a vs,SqT K H a vs->SqT K H' a vs)(hl:∀ a vs,(m a=none/\¬ Z a)->SqL K H a vs->(m' a=none/\¬ Y a)/\SqL K H' a vs):∀ (p:PyData) (v:V),RP K Z m H p v->RP K Y m' H' p v
 | .none,v,h=>by simpa only[RP] using h
 | .bool _,v,h=>by simpa only[RP] using h
 | .int _,v,h=>by simpa only[RP] using h
 | .str _,v,h=>by simpa only[RP] using h
 | .tuple xs,v,h=>by
  simp only[RP]at h ⊢;obtain⟨a,vs,h1,h2,h3⟩:=h;exact⟨a,vs,h1,ht a vs h2,RPs.tr ht hl xs vs h3⟩
 | .list xs,v,h=>by
  simp only[RP]at h ⊢;obtain⟨a,vs,h1,h2,h3,h4⟩:=h;obtain⟨q1,q2⟩:=hl a vs h2 h3;exact⟨a,vs,h1,q1,q2,RPs.tr ht hl xs vs h4⟩
 | .dict _,v,h=>by simp only[RP]at h
theorem RPs.tr(ht:∀ a vs,SqT K H a vs->SqT K H' a vs)(hl:∀ a vs,(m a=none/\¬ Z a)->SqL K H a vs->(m' a=none/\¬ Y a)/\SqL K H' a vs):∀ (xs:List PyData) (vs:List V),RPs K Z m H xs vs->RPs K Y m' H' xs vs
 | [],vs,h=>by simpa only[RPs] using h
 | x::xs,vs,h=>by
  simp only[RPs]at h ⊢;obtain⟨v,r,h1,h2,h3⟩:=h;exact⟨v,r,h1,RP.tr ht hl x v h2,RPs.tr ht hl xs r h3⟩
end
def aG(Z:Addr->Prop)(D:Addr):Addr->Prop:=fun a=>Z a\/a=D
variable {D:Addr}{ys zs:List V}
theorem Lv(hD:H D=none)(hk:K.lookup D=none):∀ a vs,(m a=none/\¬ Z a)->SqL K H a vs->(m a=none/\¬ aG Z D a)/\SqL K (aE H D (.lst ys)) a vs:=fun a vs h1 h2 =>
 ⟨⟨h1.1,fun z=>z.elim h1.2 (SqL.ne hD hk h2)⟩,(bT hD).seq h2⟩
theorem pT(hD:H D=some (.lst ys)):∀ a vs,SqT K H a vs->SqT K (aE H D (.lst zs)) a vs:=fun b xs h=>by
 rcases h with (h | ⟨o,h⟩) | h
 ·have ne:b≠D:=by rintro rfl;rw[hD]at h;cases h
  exact .inl (.inl (by rw[aV ne];exact h))
 ·have ne:b≠D:=by rintro rfl;rw[hD]at h;cases h
  exact .inl (.inr ⟨o,by rw[aV ne];exact h⟩)
 ·exact .inr h
theorem Ce{a:Addr}{vs:List V}(ne:a≠D)(h:SqL K H a vs):SqL K (aE H D (.lst zs)) a vs:=by
 rcases h with (h | ⟨o,h⟩) | h
 ·exact .inl (.inl (by rw[aV ne];exact h))
 ·exact .inl (.inr ⟨o,by rw[aV ne];exact h⟩)
 ·exact .inr h
theorem tO:∀ a vs,(m a=none/\¬ aG Z D a)->SqL K H a vs->(m a=none/\¬ aG Z D a)/\SqL K (aE H D (.lst zs)) a vs:=fun a vs h1 h2 =>
 ⟨h1,Ce (fun e=>h1.2 (.inr e)) h2⟩
end
section
variable {K:PySem.W.Frag}{Z:Addr->Prop}{m m1 m':Mu}{H H1 H':Hp}{D:Addr}{ys zs:List V}
theorem Jv{x:DL.D}{v:V}(hD:H D=none)(hk:K.lookup D=none)(h:RD K Z m H x v):RD K (aG Z D) m (aE H D (.lst ys)) x v:=by
 cases x with
 | dat p=>exact RP.tr (fun a vs q=>SqT.same (bT hD) q) (Lv hD hk) p v h
 | cel a=>exact h
theorem Lb{x:DL.D}{v:V}(hD:H D=some (.lst ys))(h:RD K (aG Z D) m H x v):RD K (aG Z D) m (aE H D (.lst zs)) x v:=by
 cases x with
 | dat p=>exact RP.tr (pT hD) tO p v h
 | cel a=>exact h
theorem Jz(ok:Ok K Z m H)(hD:H D=none)(hk:K.lookup D=none):Ok K (aG Z D) m (aE H D (.lst ys)):=by
 refine⟨fun a c h=>?_,fun a h=>?_⟩
 ·obtain⟨o,h1,h2⟩:=ok.g a c h;have ne:a≠D:=by rintro rfl;rw[hD]at h1;cases h1
  exact⟨o,by rw[aV ne];exact h1,h2.lift fun p v q=>RP.tr (fun a vs q=>SqT.same (bT hD) q) (Lv hD hk) p v q⟩
 ·rcases h with h | h
  ·have ne:a≠D:=by rintro rfl;exact(ok.z a h).2 hD
   exact⟨(ok.z a h).1,by rw[aV ne];exact(ok.z a h).2⟩
  ·subst h;exact⟨(eU ok hD).1,by rw[bQ];intro z;cases z⟩
theorem Iv(ok:Ok K (aG Z D) m H)(hD:H D=some (.lst ys)):Ok K (aG Z D) m (aE H D (.lst zs)):=by
 refine⟨fun a c h=>?_,fun a h=>?_⟩
 ·obtain⟨o,h1,h2⟩:=ok.g a c h;have ne:a≠D:=by
   rintro rfl;have:=(ok.z a (.inr rfl)).1
   rw[h]at this
   cases this
  exact⟨o,by rw[aV ne];exact h1,h2.lift fun p v q=>RP.tr (pT hD) tO p v q⟩
 ·by_cases e:a=D
  ·subst e;exact⟨(ok.z a h).1,by rw[bQ];intro z;cases z⟩
  ·exact⟨(ok.z a h).1,by rw[aV e];exact(ok.z a h).2⟩
theorem zO(ok:Ok K (aG Z D) m H):Ok K Z m H:=by
 refine⟨fun a c h=>?_,fun a h=>ok.z a (.inl h)⟩;obtain⟨o,h1,h2⟩:=ok.g a c h;exact⟨o,h1,h2.lift fun p v q=>RP.tr (fun _ _ q=>q) (fun a vs q1 q2=>⟨⟨q1.1,fun z=>q1.2 (.inl z)⟩,q2⟩) p v q⟩
theorem jN(e:Ext K Z m1 H1 m H)(hD:H1 D=none)(hk:K.lookup D=none)(e2:Ext K (aG Z D) m H m' H'):Ext K Z m1 H1 m' H' :=
 ⟨fun a vs h=>e2.t a vs (e.t a vs h),fun a vs h1 h2=>let ⟨q1,q2⟩:=e.l a vs h1 h2;e2.l a vs ⟨q1,fun z=>z.elim h1.2 (SqL.ne hD hk h2)⟩ q2,fun a h=>(e2.z a (.inl h)).trans (e.z a h),fun a h=>e2.c a (e.c a h),fun a o u h=>e2.fz a o u (e.fz a o u h),fun a h=>by
  have q:=e.fm a h
  rw[e2.fm a (by rw[q];exact h),q]⟩
theorem t4(e:Ext K Z m1 H1 m H)(ok1:Ok K Z m1 H1)(hD:H1 D=none)(hk:K.lookup D=none)(hH:H D=some (.lst ys)):Ext K Z m1 H1 m (aE H D (.lst zs)) :=
 ⟨fun a vs h=>pT hH a vs (e.t a vs h),fun a vs h1 h2=>let ⟨q1,q2⟩:=e.l a vs h1 h2;⟨q1,Ce (SqL.ne hD hk h2) q2⟩,fun a h=>by
  have ne:a≠D:=by rintro rfl;exact(ok1.z a h).2 hD
  rw[aV ne];exact e.z a h,e.c,fun a o u h=>by
  have q:=e.fz a o u h
  rw[aV (by rintro rfl;rw[hH]at q;cases q)]
  exact q,e.fm⟩
end
def cA(g:DG)(t:DT)(f:DE):List D->List PyData->aT->Mu->(List PyData->Mu->Prop)->Prop
 | [],acc,_,m,Q=>Q acc m
 | x::xs,acc,d,m,Q=>g x d m fun d1 m1=>t d1 m1 fun b m2=>if b=true then f d1 m2 fun y m3=>∃ p,y=.dat p/\acc.length<sizeLine/\cA g t f xs (acc++[p]) d1 m3 Q else cA g t f xs acc d1 m2 Q
def bH{α:Type}(src:List (Option Nat))(d:List (Option α)):List (Option α):=src.map fun o=>o.bind fun j=>(d[j]?).join
@[simp] def dU(src:List (Option Nat))(fi:DI)(g:DG)(t:DT)(f:DE):DE:=fun d m Q=>fi d m fun xs m1=>cA g t f xs [] (bH src d) m1 fun ps m2=>Q (.dat (.list ps)) m2
def PF(Y:Cx)(ifs:List Expr)(t:TT):Prop:=∀ (pins:List (Addr×Obj)) (s:Shared) (σ:L2.St) (H:Hp) (Q:Bool->Hp->Prop),Inv Y pins σ H s->t σ H Q ->
 wpAny (model Y.prog Y.w) Y.A (forIn ifs true fun c r=>if r=true then do let ok <- isTrue c Y.env (eval c Y.env);pure (ForInStep.yield ok) else pure (ForInStep.yield r)) (TP Y pins σ Q) Y.xe s
@[simp] def dW:DT:=fun _ m Q=>Q true m
theorem CO{Y:Cx}:PF Y [] (LT Y.K dW):=fun pins s σ H Q I h=>by
 obtain⟨Z,d,m,R,ok,rs,h,k⟩:=h;exact wpAny_tests_nil ⟨H,I,k true m H h Ext.refl ok⟩
theorem W0{Y:Cx}{c:Expr}{t:TT}(h:PT Y c t):PF Y [c] t:=fun pins s σ H Q I q=>wpAny_tests_one (h pins s σ H Q I q)
theorem Av{K:PySem.W.Frag}{Z:Addr->Prop}{m:Mu}{H:Hp}{d:aT}{σ:L2.St}(src:List (Option Nat))(rs:RS K Z m H d σ):RS K Z m H (bH src d) (bH src σ):=by
 refine⟨by unfold bH;rw[List.length_map,List.length_map],fun i x h=>?_⟩
 unfold bH at h ⊢;rw[List.getElem?_map]at h ⊢
 cases e:src[i]? with
 | none=>rw[e]at h;cases h
 | some o =>
  rw[e]at h
  cases o with
  | none=>cases h
  | some j =>
   have h':(d[j]?).join=some x:=Option.some.inj h
   cases ej:d[j]? with
   | none=>rw[ej]at h';cases h'
   | some w =>
    rw[ej]at h';have h2:w=some x:=h'
    subst h2;obtain⟨v,q1,q2⟩:=rs.2 j x ej;exact⟨v,by rw[Option.map_some,Option.bind_some,q1];rfl,q2⟩
theorem Ct{α:Type}{src:List (Option Nat)}{d:List (Option α)}{i:Nat}{v:α}(h:(bH src d)[i]?=some (some v)):∃ j:Nat,src[i]?=some (some j)/\d[j]?=some (some v):=by
 unfold bH at h;rw[List.getElem?_map]at h
 cases e:src[i]? with
 | none=>rw[e]at h;cases h
 | some o =>
  rw[e]at h
  cases o with
  | none=>cases h
  | some j =>
   have h':(d[j]?).join=some v:=Option.some.inj h
   cases ej:d[j]? with
   | none=>rw[ej]at h';cases h'
   | some w =>
    rw[ej]at h';have h2:w=some v:=h'
    subst h2;exact⟨j,rfl,ej⟩
end DL
namespace DL
open PySem PySem.Spec PyProof.Rows L2
theorem Ab{K:PySem.W.Frag}{Z:Addr->Prop}{m1 m':Mu}{H1 H':Hp}{D:Addr}{x:DL.D}{v:V}(hD:H1 D=none)(hk:K.lookup D=none)(e:Ext K Z m1 H1 m' H')(h:RD K Z m1 H1 x v):RD K (aG Z D) m' H' x v:=by
 cases x with
 | dat p=>exact RP.tr e.t (fun a vs h1 h2=>let ⟨q1,q2⟩:=e.l a vs h1 h2;⟨⟨q1,fun z=>z.elim h1.2 (SqL.ne hD hk h2)⟩,q2⟩) p v h
 | cel a=>exact⟨h.1,e.c a h.2⟩
section
variable {X:Cx}{tg iter elt:Expr}{ifs:List Expr}{scope:Scope}{NC:List Str}{fi:DI}{g:DG}{t:DT}{f:DE}{pos:Pos}
def lX(X:Cx)(scope:Scope)(NC:List Str)(src:List (Option Nat)):Prop:=NC.length=src.length/\∀ (i:Nat) (x:Str) (j:Nat),NC[i]?=some x->src[i]?=some (some j)->X.N[j]?=some x/\(x,NameKind.free)∈scope.names /\
 ((relabel scope X.env).names.lookup x=some .cell\/(relabel scope X.env).names.lookup x=some .free)
structure Off (X:Cx) (pins:List (Addr×Obj)) (H:Hp) (C:Addr):Prop where
 h:H C=none
 l:C≠X.env.locals
 s:X.s₀.heap.objs.size<=C
 c:∀ x c,X.env.cells.lookup x=some c->c≠C
 p:∀ p∈X.pn++pins,p.1≠C
theorem Off.inv{pins:List (Addr×Obj)}{σ:L2.St}{H:Hp}{s:Shared}{C:Addr}{h':Heap}(o:Off X pins H C)(I:Inv X pins σ H s)(hs:Heap.SameBut C s.heap h'):Inv X pins σ H {s with heap:=h'} :=
 I.turned (t':=s.toks) (it:=C) (fun b ob hb e=>(hs.2 b hb).trans e) o.h o.l (.inr o.s) o.c o.p
theorem e6(src:List (Option Nat))(hc:X.calm=true)(hi:PI X tg iter (LI X.K fi))
  (hg:∀ cl C s2 H2 pins fp,PG (aQ X scope cl C NC s2 H2 pins fp) tg (LG X.K g)) (ht:∀ cl C s2 H2 pins fp,PF (aQ X scope cl C NC s2 H2 pins fp) ifs (LT X.K t)) (he:∀ cl C s2 H2 pins fp,PE (aQ X scope cl C NC s2 H2 pins fp) elt (LE X.K f))
  (hkind:scope.kind=.function) (hcell:∀ y∈scope.names,y.2≠.cell) (hnames:∀ y∈scope.names,y.2=.local->scope.names.lookup y.1=some .local)
  (hfree:∀ x,(x,NameKind.free)∈scope.names->X.env.kindOf x=some .cell\/X.env.kindOf x=some .free) (hsrc:lX X scope NC src)
  (hs:∀ x,foldedSetIterable iter X.env x=pure x) {use:Option (Value->Sem Unit)} {QQ:Value->Shared->Prop} {pos':Pos} {pins:List (Addr×Obj)} {s:Shared} {σ:L2.St} {H:Hp} {Z:Addr->Prop} {d:aT} {m:Mu} {RL:List PyData->Mu->Prop}
  (I:Inv X pins σ H s) (ok:Ok X.K Z m H) (rs:RS X.K Z m H d σ) (h:fi d m fun xs m1=>cA g t f xs [] (bH src d) m1 RL)
  (fin:∀ (s5:Shared) (C D:Addr) (H':Hp) (m':Mu) (ps:List PyData),RL ps m'->Ext X.K Z m H m' H'->Ok X.K Z m' H'->RD X.K Z m' H' (.dat (.list ps)) (.ref D)->(∃ mm,s5.heap.Ns C mm)->Inv X pins σ H' s5->Off X pins H' C->(m' D=none/\Ext X.K Z m H (bC m' D (.l ps)) H'/\Ok X.K Z (bC m' D (.l ps)) H') ->
   compPost (model X.prog X.w) X.A X.xe use QQ (.ref D) C (.ok .next) s5) :
  wpAny (model X.prog X.w) X.A (comprehension (.ListComp elt [⟨tg,iter,ifs,0⟩] scope pos) scope X.env pos' (newList []) false (eval iter X.env) use) QQ X.xe s:=by
 obtain⟨cl,hclos,hcl1,hcl2⟩:=zA (scope:=scope) (env:=X.env) fun x hx=>I.ok.has x (hfree x hx);refine wpAny_comprehension_free (use:=use) rfl hs hclos hkind hnames ?_;refine aI (hi pins s σ H (fun J H1=>∃ xs m1,Ext X.K Z m H m1 H1/\Ok X.K Z m1 H1/\mM X.K Z m1 H1 xs J/\cA g t f xs [] (bH src d) m1 RL) I
  ⟨Z,d,m,_,ok,rs,h,fun xs m1 H1 J q e1 ok1 y1=>⟨xs,m1,e1,ok1,y1,q⟩⟩) fun xv s₁ h₁=>aI h₁ fun itv s₂ h₂=>?_
 obtain⟨it,fp,tn,J,H2,eit,I2,T,st2,f2,xs,m1,e1,ok1,yl,lp⟩:=h₂;subst eit;refine wpAny_newObj_type (wpAny_newFunctionEnv hcell (by intro y hy;simp at hy) (fun h₁ hns₁ hsb₁=>?_) hkind)
 dsimp only at hns₁ hsb₁ ⊢
 generalize hH2:s₂.heap.push {cls:=.type "list",dict:=none,data:=.seq ([]:List Value).toArray}=HP at hns₁ hsb₁ ⊢
 have hC:HP.objs.size=s₂.heap.objs.size+1:=by rw[<- hH2,Heap.size_push]
 have leC:s₂.heap.objs.size<=HP.objs.size:=by rw[hC];exact Nat.le_succ _
 have old:∀ b o,s₂.heap.get? b=some o->h₁.get? b=some o:=fun b o e=>hsb₁.extBut b o (Nat.ne_of_lt (Nat.lt_of_lt_of_le (Heap.lt_size e) leC)) (Heap.get?_push_of_some _ (hH2▸Heap.get?_push_of_some _ e))
 have hacc:h₁.get? s₂.heap.objs.size=some {cls:=.type "list",data:=.seq ([]:List Value).toArray}:=hsb₁.extBut _ _ (by rw[hC];exact Nat.ne_of_lt (Nat.lt_succ_self _)) (Heap.get?_push_of_some _ (hH2▸Heap.get?_push_size _ rfl))
 have hD:H2 s₂.heap.objs.size=none:=I2.hok.fresh (Nat.le_refl _)
 have hkD:X.K.lookup s₂.heap.objs.size=none:=by
  cases e:X.K.lookup s₂.heap.objs.size with
  | none=>rfl
  | some o=>exact absurd (Heap.lt_size (I2.kIn _ o e)) (Nat.lt_irrefl _)
 have obf:∀ b∈fp,∃ o,s₂.heap.get? b=some o/\∀ v,o.data≠.cell v:=T.obj 0 _ st2
 have hσ:∀ (i:Nat) (x:Str) (v:V),NC[i]?=some x->(bH src σ)[i]?=some (some v)->iQ (relabel scope X.env) x->((relabel scope X.env).names.lookup x=some .cell\/(relabel scope X.env).names.lookup x=some .free)/\(X.env.kindOf x=some .cell\/X.env.kindOf x=some .free)/\∃ j:Nat,X.N[j]?=some x/\σ[j]?=some (some v):=fun i x v h1 h2 _=>by
  obtain⟨j,q1,q2⟩:=Ct h2;obtain⟨a1,a2,a3⟩:=hsrc.2 i x j h1 q1;exact⟨a3,hfree x a2,j,a1,q2⟩
 have I4:=fun tk=>Ld (cl:=cl) (NC:=NC) (σ':=bH src σ) (tk:=tk) I2 f2 obf hkind hcell hcl1 hcl2 (by unfold bH;rw[List.length_map];exact hsrc.1.symm) hσ hC hns₁ old hacc
 have st4:tn 0 h₁:=T.keep 0 _ _ st2 fun b _ o e=>old b o e
 -- the loop
 have loop:∀ s₃:Shared,s₃={s₂ with heap:=h₁,toks:=s₂.toks+([]:List (Str×Value)).length} ->
   codeAny (model X.prog X.w) X.A (.compLoop (.ListComp elt [⟨tg,iter,ifs,0⟩] scope pos) 0 (.ref it) (.ref s₂.heap.objs.size) (compEnvC scope cl HP.objs.size X.env))
    (compPost (model X.prog X.w) X.A X.xe use QQ (.ref s₂.heap.objs.size) HP.objs.size) s₃:=by
  rintro s₃ rfl;refine CC (fun n s'=>∃ (i:Nat) (ys:List V) (acc:List PyData) (d':aT) (m':Mu) (σ':L2.St) (H':Hp),n=xs.length-i/\i<=xs.length/\Inv (aQ X scope cl HP.objs.size NC s₂ H2 pins fp) [] σ' H' s'/\tn i s'.heap/\(∀ b∈fp,H' b=none) /\
   H' s₂.heap.objs.size=some (.lst ys)/\RPs X.K (aG Z s₂.heap.objs.size) m' H' acc ys/\Ext X.K Z m1 H2 m' H'/\Ok X.K (aG Z s₂.heap.objs.size) m' H'/\RS X.K (aG Z s₂.heap.objs.size) m' H' d' σ' /\
   cA g t f (xs.drop i) acc d' m' RL) ?_ xs.length ?_
  rotate_left
  ·have rs1:RS X.K Z m1 H2 (bH src d) (bH src σ):=Av src (rs.ext e1)
   refine⟨0,[],[],bH src d,m1,bH src σ,_,by simp,Nat.zero_le _,I4 _,st4,fun b hb=>?_,bQ,by simp[RPs],ok1.ext (bT hD),Jz ok1 hD hkD,⟨rs1.1,fun i x hx=>?_⟩,by simpa using lp⟩
   ·obtain⟨o,ho,_⟩:=obf b hb;rw[aV (Nat.ne_of_lt (Heap.lt_size ho))];exact(f2 b hb).1
   ·obtain⟨v,q1,q2⟩:=rs1.2 i x hx;exact⟨v,q1,Jv hD hkD q2⟩
  rintro n s4 ⟨i,ys,acc,d',m',σ',H',rfl,hi',I5,st5,fr5,hDy,racc,eX,ok5,rs5,lp5⟩;have stat:∀ b∈fp,cS (aQ X scope cl HP.objs.size NC s₂ H2 pins fp) [] H' b:=fun b hb=>by
   obtain⟨g0,g1,g2,g3,g4,g5⟩:=f2 b hb;obtain⟨o,ho,_⟩:=obf b hb;refine⟨fr5 b hb,Nat.ne_of_lt (Nat.lt_of_lt_of_le (Heap.lt_size ho) leC),fun z=>?_,.inl hb,fun x c e=>g4 x c (hcl1 (x,c) (qT e)),fun p hp=>?_⟩
   ·rcases List.mem_cons.mp (I2.stkSub b z) with q | q
    ·exact g1 q
    ·exact g2 q
   ·rcases List.mem_append.mp hp with q | q
    ·exact g5 p q
    ·cases q
  obtain⟨y1,y2⟩:=yl m' H' eX.y
  by_cases hlt:i<xs.length
  ·rw[List.drop_eq_getElem_cons hlt]at lp5;obtain⟨go,yd⟩:=y1 i xs[i] (List.getElem?_eq_getElem hlt);refine aI (T.item (aQ X scope cl HP.objs.size NC s₂ H2 pins fp) rfl rfl rfl hc i [] s4 σ' H' (fun _ _=>False) I5 stat st5 go) fun r s5 hq0=>?_;obtain⟨u,hr,h5⟩:=hq0;subst hr;refine aI h5 fun _ s6 hq0=>?_;obtain⟨x,H6,I6,r6,yy,st6,fr6⟩:=hq0;have yy':=yd x H6 yy
   have e56:Ext X.K (aG Z s₂.heap.objs.size) m' H' m' H6:=ok5.ext yy'.same
   have rv:=yy'.rd (fun d v h=>Ab hD hkD eX h) ok5
   have hDy:=yy'.same _ _ hDy
   have racc:=RPs.ext e56 _ _ racc
   have eX:=jN eX hD hkD e56
   have rs5:=rs5.ext e56
   have ok5:=ok5.grow yy'.same
   have stat:∀ b∈fp,cS (aQ X scope cl HP.objs.size NC s₂ H2 pins fp) [] H6 b:=fun b hb=>⟨fr6 b hb,(stat b hb).2⟩
   have I6':=I6.pinned stat (T.obj _ _ st6)
   -- what stands when a turn is over
   have over:∀ {s7:Shared} {σ7:L2.St} {H7:Hp} {ys7:List V} {acc7:List PyData} {d7:aT} {m7:Mu},Inv (aQ X scope cl HP.objs.size NC s₂ H2 pins fp) ([]++kC fp s6.heap) σ7 H7 s7->H7 s₂.heap.objs.size=some (.lst ys7)->RPs X.K (aG Z s₂.heap.objs.size) m7 H7 acc7 ys7 ->
     Ext X.K Z m1 H2 m7 H7->Ok X.K (aG Z s₂.heap.objs.size) m7 H7->RS X.K (aG Z s₂.heap.objs.size) m7 H7 d7 σ7->(cA g t f (xs.drop (i+1)) acc7 d7 m7 RL) ->
     ∃ n,n<xs.length-i/\∃ (i:Nat) (ys:List V) (acc:List PyData) (d':aT) (m':Mu) (σ':L2.St) (H':Hp),n=xs.length-i/\i<=xs.length/\Inv (aQ X scope cl HP.objs.size NC s₂ H2 pins fp) [] σ' H' s7/\tn i s7.heap/\(∀ b∈fp,H' b=none) /\
      H' s₂.heap.objs.size=some (.lst ys)/\RPs X.K (aG Z s₂.heap.objs.size) m' H' acc ys/\Ext X.K Z m1 H2 m' H'/\Ok X.K (aG Z s₂.heap.objs.size) m' H'/\RS X.K (aG Z s₂.heap.objs.size) m' H' d' σ' /\
      cA g t f (xs.drop i) acc d' m' RL:=by
    intro s7 σ7 H7 ys7 acc7 d7 m7 I7 a1 a2 a3 a4 a5 a6;refine⟨xs.length-(i+1),by omega,i+1,ys7,acc7,d7,m7,σ7,H7,rfl,hlt,I7.unpinned,T.keep _ _ _ st6 fun b hb o e=>(I7.pin (b,o) (List.mem_append_right _ (List.mem_append_right _ (hU hb e)))).1,fun b hb=>?_,a1,a2,a3,a4,a5,a6⟩
    obtain⟨o,e,dd⟩:=T.obj _ _ st6 b hb;exact(I7.pin (b,o) (List.mem_append_right _ (List.mem_append_right _ (hU hb e)))).2.1
   refine aI (hg cl _ s₂ H2 pins fp _ s6 σ' _ x u (fun σ7 H7=>∃ d7 m7,Ext X.K (aG Z s₂.heap.objs.size) m' H6 m7 H7/\Ok X.K (aG Z s₂.heap.objs.size) m7 H7/\RS X.K (aG Z s₂.heap.objs.size) m7 H7 d7 σ7 /\
    t d7 m7 fun b m2=>if b=true then f d7 m2 fun y m3=>∃ p,y=.dat p/\acc.length<sizeLine/\cA g t f (xs.drop (i+1)) (acc++[p]) d7 m3 RL else cA g t f (xs.drop (i+1)) acc d7 m2 RL) I6' r6
    ⟨_,xs[i],d',m',_,ok5,rs5,rv,lp5,fun d7 m7 σ7 H7 q7 e7 ok7 rs7=>⟨d7,m7,e7,ok7,rs7,q7⟩⟩) fun _ s7 hq0=>?_
   obtain⟨σ7,H7,I7,d7,m7,e7,ok7,rs7,q7⟩:=hq0;refine aI (ht cl _ s₂ H2 pins fp _ s7 σ7 H7 (fun b H8=>∃ m8,Ext X.K (aG Z s₂.heap.objs.size) m7 H7 m8 H8/\Ok X.K (aG Z s₂.heap.objs.size) m8 H8 /\
    if b=true then f d7 m8 fun y m3=>∃ p,y=.dat p/\acc.length<sizeLine/\cA g t f (xs.drop (i+1)) (acc++[p]) d7 m3 RL else cA g t f (xs.drop (i+1)) acc d7 m8 RL) I7
    ⟨_,d7,m7,_,ok7,rs7,q7,fun b m8 H8 q8 e8 ok8=>⟨m8,e8,ok8,q8⟩⟩) fun b s8 hq0=>?_
   obtain⟨H8,I8,m8,e8,ok8,q8⟩:=hq0;have e68:=e7.trans e8
   have hD8:H8 s₂.heap.objs.size=some (.lst ys):=(e68.z _ (.inr rfl)).trans hDy
   cases b with
   | false =>
    rw[if_neg Bool.false_ne_true]at q8;exact over I8 hD8 (RPs.ext e68 _ _ racc) (jN eX hD hkD e68) ok8 (rs7.ext e8) q8
   | true =>
    rw[if_pos rfl]at q8;refine aI (he cl _ s₂ H2 pins fp _ s8 σ7 H8 (fun v H9=>∃ p m9,RP X.K (aG Z s₂.heap.objs.size) m9 H9 p v/\Ext X.K (aG Z s₂.heap.objs.size) m8 H8 m9 H9/\Ok X.K (aG Z s₂.heap.objs.size) m9 H9/\acc.length<sizeLine/\cA g t f (xs.drop (i+1)) (acc++[p]) d7 m9 RL) I8
     ⟨_,d7,m8,_,ok8,rs7.ext e8,q8,fun y m9 v H9 hq1 e9 ok9 r9=>by
      obtain⟨p,ey,hz,q9⟩:=hq1;subst ey;exact⟨p,m9,r9,e9,ok9,hz,q9⟩⟩) fun yv s9 hq0=>?_
    obtain⟨y,H9,I9,ry,p,m9,rp9,e9,ok9,hz,q9⟩:=hq0;have e69:=e68.trans e9
    have hD9:H9 s₂.heap.objs.size=some (.lst ys):=(e69.z _ (.inr rfl)).trans hDy
    have racc9:=RPs.ext e69 _ _ racc
    have rs9:=(rs7.ext e8).ext e9
    refine aI (Ha _ s9 σ7 H9 (.ref s₂.heap.objs.size) [y] (.ref s₂.heap.objs.size) [yv] (fun v H10=>H10=aE H9 s₂.heap.objs.size (.lst (ys++[y]))) I9 rfl (.cons ry .nil) ⟨_,ys,y,rfl,rfl,hD9,by rw[racc9.length];exact hz,rfl⟩) fun rv s10 hq0=>?_
    obtain⟨v10,H10,I10,_,e10⟩:=hq0;subst e10;refine over I10 bQ ?_ (t4 (jN eX hD hkD e69) ok1 hD hkD hD9) (Iv ok9 hD9) ⟨rs9.1,fun j z hj=>?_⟩ q9
    ·exact RPs.tr (pT hD9) tO _ _ (racc9.append (by simp only[RPs];exact⟨y,[],rfl,rp9,rfl⟩))
    ·obtain⟨v,a1,a2⟩:=rs9.2 j z hj;exact⟨v,a1,Lb hD9 a2⟩
  ·have e:i=xs.length:=by omega
   subst e;rw[List.drop_length]at lp5;refine aI (T.done (aQ X scope cl HP.objs.size NC s₂ H2 pins fp) rfl rfl rfl hc _ [] s4 σ' H' (fun _ _=>False) I5 stat st5 y2) fun r s5 hq0=>?_;obtain⟨hr,I6⟩:=hq0;subst hr;have IX:=yT I2 f2 I6 leC (Heap.SameBut.refl _ _)
   have nz:¬ Z s₂.heap.objs.size:=fun z=>(ok1.z _ z).2 hD
   refine fin s5 HP.objs.size s₂.heap.objs.size H' m' acc lp5 (e1.trans eX) (zO ok5) ?_ ⟨_,I6.loc.choose_spec.1⟩ IX ⟨I6.free,Nat.ne_of_gt (Nat.lt_of_lt_of_le I2.lt leC),Nat.le_trans I2.sz leC,fun x c e=>?_,fun p hp=>?_⟩ ⟨(ok5.z _ (.inr rfl)).1,?_,?_⟩
   ·simp only[RD,RP];exact⟨_,ys,rfl,⟨(ok5.z _ (.inr rfl)).1,nz⟩,.inl (.inl hDy),RPs.tr (fun _ _ q=>q) (fun a vs q1 q2=>⟨⟨q1.1,fun z=>q1.2 (.inl z)⟩,q2⟩) _ _ racc⟩
   ·obtain⟨v,q⟩:=I2.cell x c e;exact Nat.ne_of_lt (Nat.lt_of_lt_of_le q.lt leC)
   ·exact Nat.ne_of_lt (Nat.lt_of_lt_of_le (Heap.lt_size (I2.pin p hp).1) leC)
   ·refine⟨fun a vs q=>(e1.trans eX).t a vs q,fun a vs q1 q2=>?_,fun a q=>(e1.trans eX).z a q,fun a q=>?_,(e1.trans eX).fz,fun a q=>?_⟩
    ·obtain⟨_,q3⟩:=e1.l a vs q1 q2;have ne:=SqL.ne hD hkD q3
     obtain⟨q4,q5⟩:=(e1.trans eX).l a vs q1 q2;exact⟨by rw[bF ne];exact q4,q5⟩
    ·by_cases ea:a=s₂.heap.objs.size
     ·subst ea;rw[bZ];rfl
     ·rw[bF ea];exact(e1.trans eX).c a q
    ·have fq:=(e1.trans eX).fm a q
     have ne:a≠s₂.heap.objs.size:=by
      rintro rfl;rw[(ok5.z _ (.inr rfl)).1]at fq;rw[<- fq]at q
      cases q
     rw[bF ne];exact fq
   ·have tr:∀ (a:Addr) (vs:List V),(m' a=none/\¬ aG Z s₂.heap.objs.size a)->SqL X.K H' a vs->(bC m' s₂.heap.objs.size (.l acc) a=none/\¬ Z a)/\SqL X.K H' a vs:=fun a vs q1 q2=>⟨⟨by rw[bF fun z=>q1.2 (.inr z)];exact q1.1,fun z=>q1.2 (.inl z)⟩,q2⟩
    refine⟨fun a c q=>?_,fun a q=>?_⟩
    ·by_cases ea:a=s₂.heap.objs.size
     ·subst ea;rw[bZ]at q
      cases q
      exact⟨_,hDy,RPs.tr (fun _ _ q=>q) tr _ _ racc⟩
     ·rw[bF ea]at q;obtain⟨o,q1,q2⟩:=ok5.g a c q;exact⟨o,q1,q2.lift fun p v q3=>RP.tr (fun _ _ q=>q) tr p v q3⟩
    ·have ne:a≠s₂.heap.objs.size:=fun z=>nz (z▸q)
     obtain⟨q1,q2⟩:=ok5.z a (.inl q);exact⟨by rw[bF ne];exact q1,q2⟩
 exact codeAny_compStart_list (loop _ rfl) (T.self _ 0 _ _ _ st4 (loop _ rfl))
theorem B9(src:List (Option Nat))(hc:X.calm=true)(hi:PI X tg iter (LI X.K fi))
  (hg:∀ cl C s2 H2 pins fp,PG (aQ X scope cl C NC s2 H2 pins fp) tg (LG X.K g)) (ht:∀ cl C s2 H2 pins fp,PF (aQ X scope cl C NC s2 H2 pins fp) ifs (LT X.K t)) (he:∀ cl C s2 H2 pins fp,PE (aQ X scope cl C NC s2 H2 pins fp) elt (LE X.K f))
  (hkind:scope.kind=.function) (hcell:∀ y∈scope.names,y.2≠.cell) (hnames:∀ y∈scope.names,y.2=.local->scope.names.lookup y.1=some .local)
  (hfree:∀ x,(x,NameKind.free)∈scope.names->X.env.kindOf x=some .cell\/X.env.kindOf x=some .free) (hsrc:lX X scope NC src)
  (hs:∀ x,foldedSetIterable iter X.env x=pure x:=by intro _;rfl) :
  PE X (.ListComp elt [⟨tg,iter,ifs,0⟩] scope pos) (LE X.K (dU src fi g t f)):=by
 intro pins s σ H Q I h;obtain⟨Z,d,m,R,ok,rs,h,k⟩:=h;rw[eval_ListComp];refine e6 src hc hi hg ht he hkind hcell hnames hfree hsrc hs (use:=none) (QQ:=EP X pins σ Q) (RL:=fun ps m2=>R (.dat (.list ps)) m2) I ok rs h ?_;intro s5 C D H' m' ps q e ok' rd ⟨mm,hns⟩ I5 off hcl;exact⟨mm,hns,fun h' hs'=>⟨.ref D,H',off.inv I5 hs',rfl,k _ m' _ H' q e ok' rd⟩⟩
end
end DL
namespace DL
open PySem PySem.Spec PyProof.Rows L2
theorem Kp:Manifest.owners.lookup (String.ofList "desrever".toList.reverse)=some Manifest.sig_reversed:=by kernel_rfl
theorem rV:Slot "reversed" "__next__" "reversed.__next__":=.of (owner:="reversed") (n:="__next__") (by rw[typeLookup_type,builtinLookup_eq_fast];kernel_rfl) (by decide +kernel) (by decide +kernel) (by decide +kernel) (by first | exact .inl (by decide +kernel) | exact .inr (by decide +kernel)) (by rw[isSubtype_type];kernel_rfl)
theorem Gs:entryFor table "reversed.__next__"=some Builtin.«reversed.__next__»:=entryFor_of_tree (by kernel_rfl)
theorem Kg(a:Value):argsOk "reversed.__next__" ⟨[a],[]⟩:=by
 unfold argsOk;rw[signature?_of (id:="reversed.__next__") (n:="__txen__".toList) (o:="desrever".toList) (by kernel_rfl) Kp]
 kernel_rfl
theorem Iz:Slot "reversed" "__iter__" "reversed.__iter__":=.of (owner:="reversed") (n:="__iter__") (by rw[typeLookup_type,builtinLookup_eq_fast];kernel_rfl) (by decide +kernel) (by decide +kernel) (by decide +kernel) (by first | exact .inl (by decide +kernel) | exact .inr (by decide +kernel)) (by rw[isSubtype_type];kernel_rfl)
theorem Vp(a:Value):argsOk "reversed.__iter__" ⟨[a],[]⟩:=by
 unfold argsOk;rw[signature?_of (id:="reversed.__iter__") (n:="__reti__".toList) (o:="desrever".toList) (by kernel_rfl) Kp]
 kernel_rfl
theorem CP:entryFor table "reversed.__iter__"=some Builtin.«dict_keyiterator.__iter__»:=entryFor_alias (id':="dict_keyiterator.__iter__") (by kernel_rfl) (by first | rfl | decide +kernel | (unfold String.splitOn;simp +decide [String.splitOnAux])) (by decide +kernel) (by kernel_rfl)
theorem X6:typeLookup (.type "tuple") "__reversed__"=pure none:=by rw[typeLookup_type,builtinLookup_eq_fast];kernel_rfl
theorem Xe:isSubtype (.type "tuple") (.type "dict")=pure false:=by rw[isSubtype_type];kernel_rfl
theorem Rp:Slot "reversed" "__init__" "object.__init__":=.of (owner:="object") (n:="__init__") (by rw[typeLookup_type,builtinLookup_eq_fast];kernel_rfl) (by decide +kernel) (by decide +kernel) (by decide +kernel) (by first | exact .inl (by decide +kernel) | exact .inr (by decide +kernel)) (by rw[isSubtype_type];kernel_rfl)
theorem BO:TypeCalled "reversed" "reversed.__new__" "object.__init__":=⟨by decide +kernel,F.create_reversed,⟨_,_,F.mro_reversed⟩,F.made_reversed,F.plain_reversed_new,F.sub_reversed_self,Rp⟩
def yY(t:Addr)(i:Int):Obj:={cls:=.type "reversed",data:=.fields #[.ref t,rawInt i]}
theorem J8(t:Addr)(items:Array Value):Meets (Builtin.«reversed.__new__» ⟨[.type "reversed",.ref t],[]⟩) (fun _ R s=>IsTup s.heap t items/\(items.size:Int)<2^63 /\
  R (.ok (.ret (.ref s.heap.objs.size))) {s with heap:=s.heap.push (yY t ((items.size:Int)-1)),toks:=s.toks+1+1}):=.of_wp fun prog w A R s hs=>by
 obtain⟨ht,hz,h⟩:=hs;unfold Builtin.«reversed.__new__»;refine wpAny_bind (wpAny_of_eq (newClass_reversed _) ?_)
 try dsimp only
 refine wpAny_bind (wpAny_of_eq (a:=()) (by first | rfl | kernel_rfl) (wpAny_bind (wpAny_of_eq (a:=()) (by first | rfl | kernel_rfl) ?_)))
 try dsimp only
 refine wpAny_bind (wpAny_specialOf ht.typeIs X6 ?_)
 try dsimp only
 refine wpAny_bind ?_;show wpAny _ _ (isInstance (.ref t) (.type "dict")>>=_) _ _ s
 refine wpAny_bind (wpAny_isInstance ht.typeIs Xe ?_);show wpAny _ _ (specialOf (.ref t) (Str.ofString "__getitem__")>>=_) _ _ s
 refine wpAny_bind (wpAny_specialOf ht.typeIs PyProof.Rows.slot_tuple_getitem.lookup ?_);show wpAny _ _ (pure true) _ _ s
 refine wpAny_pure ?_;show wpAny _ _ (call (Value.builtin "len") [Value.ref t]>>=_) _ _ s
 refine wpAny_bind (PyProof.Rows.len_tuple ht hz ?_);refine wpAny_bind (wpAny_pure ?_);refine wpAny_bind ?_;show wpAny _ _ (newObj (.type "reversed") (.fields #[.ref t,rawInt ((items.size:Int)-1)])) _ _ _
 exact wpAny_newObj_type (wpAny_pure ⟨_,rfl,h⟩)
section
variable {prog:Program}{w:World}{A:Around}{E:Value->Shared->Prop}{s:Shared}
theorem M6{t:Addr}{items:Array Value}{Q:Value->Shared->Prop}(ht:IsTup s.heap t items)(hz:(items.size:Int)<2^63)
  (h:Q (.ref s.heap.objs.size) {s with heap:=s.heap.push (yY t ((items.size:Int)-1)),toks:=s.toks+1+1}):wpAny (model prog w) A (call (.type "reversed") [.ref t]) Q E s :=
 callType_new BO (by decide) (F.typeCall_reversed_1 _) (F.newCall_reversed_1 _) (fun obj=>F.args_object_init_2 obj _) F.entry_reversed_new (J8 t items) ⟨ht,hz,⟨_,Heap.get?_push_size _ rfl,rfl⟩,h⟩
def IsRv(h:Heap)(a t:Addr)(i:Int):Prop:=∃ o,h.get? a=some o/\o.cls=.type "reversed"/\o.data=.fields #[.ref t,rawInt i]
theorem IsRv.typeIs{a t:Addr}{i:Int}(x:IsRv s.heap a t i):s.TypeIs (.ref a) "reversed":=let ⟨o,ho,hc,_⟩:=x;⟨o,ho,hc⟩
theorem S3{it t:Addr}{i:Nat}{items:Array Value}{x:Value}{Q:Option Value->Shared->Prop}(hit:IsRv s.heap it t (i:Int))(ht:IsTup s.heap t items)(hz:(items.size:Int)<2^63)(hx:items[i]?=some x)
  (hQ:∀ h' tk,IsRv h' it t ((i:Int)-1)->Heap.SameBut it s.heap h'->Q (some x) {s with heap:=h',toks:=tk}):wpAny (model prog w) A (pyNext (.ref it)) Q E s:=by
 obtain⟨o,ho,hc,hd⟩:=id hit;have hi:i<items.size:=(Array.getElem?_eq_some_iff.mp hx).1
 unfold pyNext;refine wpAny_bind (wpAny_attempt (wpAny_callSpecial?_slot (name:=Str.ofString "__next__") hit.typeIs rV (wpAny_call_entry rV hit.typeIs Gs ?_ (Kg _))));unfold Builtin.«reversed.__next__»;refine wpAny_bind (wpAny_of_eq (a:=(Value.ref it,[])) rfl ?_)
 try dsimp only
 refine wpAny_bind (wpAny_field ho hd (x:=.ref t) rfl ?_);refine wpAny_bind (wpAny_field ho hd (x:=rawInt (i:Int)) rfl ?_);show wpAny _ _ (if (i:Int)<0 then _ else _) _ _ s
 rw[if_neg (by omega)]
 refine wpAny_bind (wpAny_specialOf ht.typeIs PyProof.Rows.slot_tuple_getitem.lookup ?_)
 try dsimp only
 rw[if_neg (by simp)]
 refine wpAny_bind (wpAny_mkInt (wpAny_bind (wpAny_attempt (getItem_tuple (j:=i) ht (by omega) (by omega) ?_ hx ?_))))
 ·unfold seqIndex?;have h0:¬ ((i:Int)<0):=by omega
  simp[h0,hi]
 ·try dsimp only
  refine wpAny_bind (wpAny_field ho hd (x:=rawInt (i:Int)) rfl ?_);show wpAny _ _ (setField (.ref it) 1 (rawInt ((i:Int)-1))>>=_) _ _ _
  refine wpAny_bind (wpAny_setField ho hd (by simp) ?_)
  refine wpAny_pure ⟨x,rfl,wpAny_pure (hQ _ _ ?_ (Heap.SameBut.update ..))⟩;refine⟨_,Heap.get?_update_self _ ho (Obj.isFreed_of_fields (Obj.data_mapFields hd _)),(Obj.cls_mapFields ..).trans hc,?_⟩;rw[Obj.data_mapFields hd];simp
theorem I0{it t:Addr}{Q:Option Value->Shared->Prop}(hh:A.handled=none)(hit:IsRv s.heap it t (-1))
  (hQ:∀ h',Heap.ExtBut it s.heap h'->Q none {s with heap:=h'}):wpAny (model prog w) A (pyNext (.ref it)) Q E s:=by
 obtain⟨o,ho,hc,hd⟩:=id hit;unfold pyNext;refine wpAny_bind (wpAny_attempt (wpAny_callSpecial?_slot (name:=Str.ofString "__next__") hit.typeIs rV (wpAny_call_entry rV hit.typeIs Gs ?_ (Kg _))));unfold Builtin.«reversed.__next__»;refine wpAny_bind (wpAny_of_eq (a:=(Value.ref it,[])) rfl ?_)
 try dsimp only
 refine wpAny_bind (wpAny_field ho hd (x:=.ref t) rfl ?_);refine wpAny_bind (wpAny_field ho hd (x:=rawInt (-1)) rfl ?_);show wpAny _ _ (if (-1:Int)<0 then _ else _) _ _ s
 rw[if_pos (by decide)]
 refine wpAny_bind (wpAny_rule ?_);refine wpAny_bind ?_;show wpAny _ _ (setField (.ref it) 1 (rawInt (-1))>>=_) _ _ _
 refine wpAny_bind (wpAny_setField ho hd (by simp) ?_)
 have ho1:=Heap.get?_update_self (Obj.mapFields (·.setIfInBounds 1 (rawInt (-1)))) ho (Obj.isFreed_of_fields (Obj.data_mapFields hd _))
 refine wpAny_setField ho1 (Obj.data_mapFields hd _) (by simp) ?_
 refine wpAny_bind ?_;have eb:∀ f g:Obj->Obj,Heap.ExtBut it s.heap ((s.heap.update it f).update it g):=fun f g b o' hb e=>by
  rw[(Heap.SameBut.update ..).2 b hb,(Heap.SameBut.update ..).2 b hb];exact e
 show wpAny _ _ (newExc (.type "StopIteration") []>>=_) _ _ _
 refine wpAny_bind ?_;simp only[newExc,newTuple];refine wpAny_bind (wpAny_newObj_type ?_ (by size_fits))
 refine wpAny_bind (m:=firstArgMember _ _) (wpAny_of_eq (a:=Value.none) (by first | rfl | (simp only[firstArgMember];rfl)) ?_)
 refine wpAny_newObj_type ?_ (by size_fits)
 simp only[raiseNew];refine wpAny_bind (wpAny_handled ?_)
 first | rw[show A.in1.handled=none from hh] | rw[hh]
 refine wpAny_bind (wpAny_pure (wpAny_throw ?_));refine wpAny_bind (wpAny_isInstance (T:="StopIteration") (b:=true) ⟨_,Heap.get?_push_size _ rfl,rfl⟩ isSubtype_stop ?_);exact wpAny_pure (hQ _ (((eb _ _).push _).push _))
theorem Nm{it t:Addr}{i:Int}{Q:Value->Shared->Prop}(hit:IsRv s.heap it t i)(h:Q (.ref it) s):wpAny (model prog w) A (pyIter (.ref it)) Q E s:=by
 refine wpAny_pyIter_slot hit.typeIs Iz (wpAny_call_entry Iz hit.typeIs CP ?_ (Vp _));show wpAny _ _ (ret (.ref it)) _ _ s
 exact wpAny_pure ⟨_,rfl,"reversed",_,hit.typeIs,rV.lookup,h⟩
end
def Pa(K:PySem.W.Frag)(a:Addr)(n:Nat):It :=
 ⟨fun i H=>i<n/\∃ xs,SqT K H a xs/\xs.length=n,fun i H x H'=>H'=H/\∀ xs,SqT K H a xs->xs[n-1-i]?=some x,fun i _=>i=n⟩
theorem j6{P:Program}{w:World}{K:PySem.W.Frag}{tg:Expr}(a it:Addr)(n:Nat):Turn P w K tg (Pa K a n) [it] it (fun i h=>i<=n/\IsRv h it a ((n:Int)-1-(i:Int))) where
 mem:=by simp
 obj:=fun i h st b hb=>by
  have e:b=it:=by simpa using hb
  subst e;obtain⟨_,o,e,c,d⟩:=st;exact⟨o,e,fun v z=>by rw[d]at z;cases z⟩
 keep:=fun i h h' st k=>⟨st.1,let ⟨o,e,r⟩:=st.2;⟨o,k it (by simp) o e,r⟩⟩
 item:=by
  intro X hP hw hK hc i pins s σ H E I hf st hg;subst hP hw hK;obtain⟨hi,xs,hq,hn⟩:=hg;obtain⟨its,rv,p,hz⟩:=I.tuple hq;have hl:=rv.length
  have hx:xs[n-1-i]?=some (xs[n-1-i]'(by omega)):=List.getElem?_eq_getElem (by omega)
  obtain⟨u,hu,ru⟩:=rv.get hx;obtain⟨f0,f1,f2,f3,f4,f5⟩:=hf it (by simp)
  have e1:(n:Int)-1-(i:Int)=((n-1-i:Nat):Int):=by omega
  have st2:=st.2
  rw[e1]at st2;have hn:=kS
  refine S3 st2 p (by rw[List.size_toArray];omega) (x:=u) (by simpa using hu) fun h' tk st' sb=>?_
  have I1:Inv X pins σ H {s with heap:=h',toks:=tk}:=I.turned (fun b o hb e=>(sb.2 b hb).trans e) f0 f1 f3 f4 f5
  obtain⟨o,e,c,d⟩:=id st';have e2:((n-1-i:Nat):Int)-1=(n:Int)-1-((i+1:Nat):Int):=by omega
  exact⟨u,rfl,xL (s:={s with heap:=h',toks:=tk}) e c d (by decide) ⟨_,H,I1,ru,⟨rfl,fun ys hy=>by rw[I.tuple_inj hy hq];exact hx⟩,⟨hi,by rw[<- e2];exact st'⟩,fun b hb=>(hf b hb).1⟩⟩
 done:=by
  intro X hP hw hK hc i pins s σ H E I hf st hg;subst hP hw hK;have hg':i=n:=hg
  subst hg';obtain⟨f0,f1,f2,f3,f4,f5⟩:=hf it (by simp)
  have e1:(i:Int)-1-(i:Int)=-1:=by omega
  have st2:=st.2
  rw[e1]at st2;exact I0 (I.ok.hd hc) st2 fun h' eb=>⟨rfl,I.turned (t':=s.toks) (fun b o hb e=>eb b o hb e) f0 f1 f3 f4 f5⟩
 self:=fun _ _ _ _ _ st h=>Nm st.2 h
end DL
namespace DL
open PySem PySem.Spec PyProof.Rows L2
theorem Ug(l:Addr)(items:Array Value)(x:Value)(e:Value->Bool)(j:Nat)(hj:j<items.size)(hit:e items[j]=true)(hno:∀ m (hm:m<items.size),m<j->e items[m]=false) :
  Meets (Builtin.«tuple.index» ⟨[.ref l,x],[]⟩) (fun A R s=>IsTup s.heap l items/\(∀ y,y∈items->SeqAt.EqAt A.in1 s y x (e y))/\R (.ok (.ret (.int j s.toks))) {s with toks:=s.toks+1}) :=
 .of_wp fun prog w A R s h=>by
  obtain⟨ht,he,h⟩:=h;unfold Builtin.«tuple.index»;refine wpAny_bind (wpAny_of_eq (a:=(Value.ref l,[x])) rfl ?_)
  try dsimp only
  refine wpAny_bind (tupleItemsOf_ ht ?_)
  try dsimp only
  refine wpAny_bind (wpAny_pure (wpAny_bind (wpAny_pure ?_)));rw[Nat.min_self,Std.Legacy.Range.forIn_eq_forIn_range'];refine wpAny_bind (wpAny_forIn_list _ (fun rest b s'=>s'=s/\∃ k,k<=j/\rest=List.range' k (items.size-k)) _ ?_ ?_ _ _ ?_)
  ·rintro i rest b s' ⟨rfl,k,hk,hr⟩;have hlt:k<items.size:=by omega
   obtain⟨n,hn⟩:∃ n,items.size-k=n+1:=⟨items.size-k-1,by omega⟩
   rw[hn,List.range'_succ]at hr;obtain⟨rfl,rfl⟩:=List.cons.inj hr;have hx:items[i]?=some items[i]:=Array.getElem?_eq_getElem hlt
   simp only[hx];refine wpAny_bind (he _ (Array.getElem_mem hlt) prog w _ _ ?_)
   by_cases hij:i=j
   ·subst hij;rw[hit];exact wpAny_bind (wpAny_bind (wpAny_mkInt (wpAny_pure (wpAny_pure (wpAny_pure ⟨_,rfl,h⟩)))))
   ·rw[hno i hlt (by omega)]
    exact wpAny_pure ⟨rfl,i+1,by omega,by congr 1;omega⟩
  ·rintro b s' ⟨rfl,k,hk,hr⟩;have:=congrArg List.length hr
   rw[List.length_range']at this;simp at this;omega
  ·exact⟨rfl,0,Nat.zero_le _,by simp[Std.Legacy.Range.size]⟩
theorem Nr:∀ {zs:List Str} {us:List Value},Vals (zs.map V.str) us->∀ i (h:i<us.length) (h2:i<zs.length),∃ t,us[i]=.str zs[i] t
 | [],_,.nil,i,h,_=>absurd h (Nat.not_lt_zero _)
 | z::zs,_,.cons r t,0,_,_=>let ⟨k,e⟩:=r;⟨k,e⟩
 | z::zs,_,.cons r t,i+1,h,h2=>Nr t i (Nat.lt_of_succ_lt_succ h) (Nat.lt_of_succ_lt_succ h2)
theorem Om{y:Str}:∀ (zs:List Str) (m:Nat) (h:m<zs.length),m<zs.idxOf y->zs[m]≠y
 | [],_,h,_=>absurd h (Nat.not_lt_zero _)
 | z::zs,0,_,h=>by
  intro e;rw[List.getElem_cons_zero]at e;rw[e,List.idxOf_cons_self]at h;exact absurd h (Nat.lt_irrefl _)
 | z::zs,m+1,hl,h=>by
  rw[List.getElem_cons_succ];refine Om zs m (Nat.lt_of_succ_lt_succ hl) ?_;rw[List.idxOf_cons]at h
  cases e:z==y with
  | true=>simp[e]at h
  | false=>simp[e]at h;omega
section
variable {X:Cx}{a e o:Expr}{es:List Expr}{f g:DE}{ga:DA}{pos p p1 p2:Pos}
def CN(K:PySem.W.Frag):V->List V->Hp->VK->Prop:=fun x xs H Q=>∃ (a:Addr) (y:Str) (zs:List Str),x=.ref a/\xs=[.str y]/\SqT K H a (zs.map V.str)/\y∈zs/\Q (.int (zs.idxOf y:Nat)) H
theorem BK:MtR X "tuple.index" (CN X.K):=by
 intro pins s σ H x xs v us Q I rx rs ⟨a,y,zs,e1,e2,hq,hk,q⟩;subst e1 e2
 cases rx
 obtain⟨u,rfl,ru⟩:=jL rs;obtain⟨tk,rfl⟩:=id ru;obtain⟨its,rv,p,hz⟩:=I.tuple hq;have hl:=rv.length
 rw[List.length_map]at hl;have hj:zs.idxOf y<zs.length:=List.idxOf_lt_length_iff.mpr hk
 have hit:∀ m (hm:m<its.toArray.size) (hm2:m<zs.length),dL (.str y) its.toArray[m]=(zs[m]==y):=fun m hm hm2=>by
  obtain⟨t,e⟩:=Nr rv m (by simpa using hm) hm2
  have e':its.toArray[m]=.str zs[m] t:=by simpa using e
  rw[e'];rfl
 have hfl:(zs.map V.str).all fG=true:=by
  rw[List.all_eq_true];intro v hv;obtain⟨z,_,rfl⟩:=List.mem_map.mp hv;rfl
 refine call_meets PySem.F.slot_tuple_index p.typeIs PySem.F.entry_tuple_index (PySem.F.args_tuple_index_2 _ _) (Ug a its.toArray (.str y tk) (dL (.str y)) (zs.idxOf y) (by rw[List.size_toArray];omega) ?_ ?_) ⟨p,?_,?_⟩
 ·rw[hit _ _ hj,List.getElem_idxOf hj];simp
 ·intro m hm hlt;have hm2:m<zs.length:=by omega
  rw[hit m hm hm2];simp only[beq_eq_false_iff_ne];exact Om _ _ hm2 hlt
 ·exact fun w hw=>nZ (x:=.str y) ⟨tk,rfl⟩ rfl rv hfl w (by simpa using hw)
 ·exact⟨.int _,H,I.tok _,⟨_,rfl⟩,q⟩
theorem pY{K:PySem.W.Frag}{Z:Addr->Prop}{m:Mu}{H:Hp}:∀ {zs:List Str} {vs:List V},RPs K Z m H (zs.map PyData.str) vs->vs=zs.map V.str
 | [],vs,h=>by simpa[RPs] using h
 | z::zs,vs,h=>by
  simp only[List.map_cons,RPs]at h;obtain⟨v,r,rfl,h1,h2⟩:=h;simp only[RP]at h1;subst h1;rw[pY h2];rfl
theorem Ef{K:PySem.W.Frag}{Z:Addr->Prop}{m:Mu}{H:Hp}:∀ (zs:List Str),RPs K Z m H (zs.map PyData.str) (zs.map V.str)
 | []=>by simp[RPs]
 | z::zs=>by
  simp only[List.map_cons,RPs];exact⟨_,_,rfl,by simp only[RP],Ef zs⟩
def KT(K:PySem.W.Frag)(a:Addr)(zs:List Str):Prop:=∃ (o:Obj) (its:Array Value) (n:Nat),K.lookup a=some o/\o.cls=.type "tuple"/\o.dict=none/\o.data=.seq its n/\its.size<=sizeLine/\Vals (zs.map V.str) its.toList
theorem KT.sq{K:PySem.W.Frag}{a:Addr}{zs:List Str}{H:Hp}(h:KT K a zs):SqT K H a (zs.map V.str):=by
 obtain⟨o,its,n,h1,h2,h3,h4,h5,h6⟩:=h;exact .inr ⟨o,its,n,h1,⟨h2,h3⟩,h4,h5,h6⟩
theorem Va{x:Str}{c:Addr}{zs:List Str}(hg:Gl X x)(hm:X.mg x=some (.ref c))(hk:KT X.K c zs)(hd:(x==("__debug__" : Str))=false:=by decide):PE X (.Name x pos) (LE X.K (aH (.tuple (zs.map .str)))) :=
 PE.imp (wC (v:=.ref c) hg hm rfl hd) fun s H Q h=>by
  obtain⟨Z,d,m,R,ok,rs,h,k⟩:=h;refine k _ m _ H h Ext.refl ok ?_;simp only[RD,RP];exact⟨c,_,rfl,hk.sq,Ef zs⟩
@[simp] def xI(zs:List Str)(g:DE):DE:=fun d m Q=>g d m fun y m1=>∃ z:Str,y=.dat (.str z)/\z∈zs/\Q (.dat (.int (zs.idxOf z:Nat))) m1
theorem M1{x:Str}{c:Addr}{zs:List Str}{apos cpos:Pos}(hg:Gl X x)(hm:X.mg x=some (.ref c))(hk:KT X.K c zs)(he:PE X e (LE X.K g))(hd:(x==("__debug__" : Str))=false:=by decide)
  (hbase:attributeBase (.Name x p) "index" X.env (eval (.Name x p) X.env)=eval (.Name x p) X.env:=by rfl)
  (hfew:((backTo cpos (starEach [e] X.env)).all (fun x=>!x.1)&&(backToKw cpos (keywordEach [] X.env)).all (fun x=>x.1.isSome)&&decide ([e].length+([]:List Keyword).length+(if ([]:List Keyword).isEmpty then 0 else 1)<30))=true:=by rfl)
  (hline:(apos.endLine==cpos.line)=true:=by rfl) (hs:starEach [e] X.env=(false,eval e X.env)::starEach [] X.env:=by rfl):PE X (.Call (.Attribute (.Name x p) "index" apos) [e] [] cpos) (LE X.K (xI zs g)) :=
 PE.imp (Q5 (T:="tuple") (id:="tuple.index") (name:="index") PySem.F.plainAttrs_tuple PySem.F.slot_tuple_index PySem.F.type_tuple_index BK (wC (v:=.ref c) hg hm rfl hd) (vA he uG hs) hbase hfew hline hs rfl) fun s H Q h=>by
  obtain⟨Z,d,m,R,ok,rs,h,k⟩:=h;obtain⟨o,its,n,h1,h2,h3,_⟩:=id hk;refine⟨.inr (.inl ⟨rfl,o,h1,h2,h3⟩),?_⟩;refine⟨Z,d,m,_,ok,rs,h,fun y m1 v H1 ⟨z,ey,hz,q⟩ e1 ok1 rd=>?_⟩;subst ey
  cases rd.str
  exact⟨c,z,zs,rfl,rfl,hk.sq,hz,k _ m1 _ H1 q e1 ok1 .ofInt⟩
@[simp] def jV:D2
 | .dat (.str x),.dat (.list ys),m,Q=>∃ zs:List Str,ys=zs.map .str/\Q (.dat (.bool (decide (x∈zs)))) m
 | .dat (.str x),.dat (.tuple ys),m,Q=>∃ zs:List Str,ys=zs.map .str/\Q (.dat (.bool (decide (x∈zs)))) m
 | .dat (.bool x),.dat (.list ys),m,Q=>∃ zs:List Bool,ys=zs.map .bool/\Q (.dat (.bool (decide (x∈zs)))) m
 | .dat (.bool x),.dat (.tuple ys),m,Q=>∃ zs:List Bool,ys=zs.map .bool/\Q (.dat (.bool (decide (x∈zs)))) m
 | .dat (.int x),.dat (.list ys),m,Q=>∃ zs:List Int,ys=zs.map .int/\Q (.dat (.bool (decide (x∈zs)))) m
 | .dat (.int x),.dat (.tuple ys),m,Q=>∃ zs:List Int,ys=zs.map .int/\Q (.dat (.bool (decide (x∈zs)))) m
 | _,_,_,_=>False
@[simp] def wY:D2
 | .dat (.str x),.dat (.list ys),m,Q=>∃ zs:List Str,ys=zs.map .str/\Q (.dat (.bool (!decide (x∈zs)))) m
 | .dat (.str x),.dat (.tuple ys),m,Q=>∃ zs:List Str,ys=zs.map .str/\Q (.dat (.bool (!decide (x∈zs)))) m
 | .dat (.bool x),.dat (.list ys),m,Q=>∃ zs:List Bool,ys=zs.map .bool/\Q (.dat (.bool (!decide (x∈zs)))) m
 | .dat (.bool x),.dat (.tuple ys),m,Q=>∃ zs:List Bool,ys=zs.map .bool/\Q (.dat (.bool (!decide (x∈zs)))) m
 | .dat (.int x),.dat (.list ys),m,Q=>∃ zs:List Int,ys=zs.map .int/\Q (.dat (.bool (!decide (x∈zs)))) m
 | .dat (.int x),.dat (.tuple ys),m,Q=>∃ zs:List Int,ys=zs.map .int/\Q (.dat (.bool (!decide (x∈zs)))) m
 | _,_,_,_=>False
theorem qZ(x:Str):∀ zs:List Str,jZ (.str x) (zs.map V.str)=decide (x∈zs)
 | []=>rfl
 | z::zs=>by
  have ih:=qZ x zs
  unfold jZ at ih ⊢;rw[List.map_cons,List.any_cons,ih];show(z==x||decide (x∈zs))=decide (x∈z::zs)
  rw[Bool.eq_iff_iff];simp only[Bool.or_eq_true,beq_iff_eq,decide_eq_true_eq,List.mem_cons];exact⟨fun h=>h.imp Eq.symm id,fun h=>h.imp Eq.symm id⟩
theorem tX(zs:List Str):(zs.map V.str).all fG=true:=by
 rw[List.all_eq_true];intro v hv;obtain⟨z,_,rfl⟩:=List.mem_map.mp hv;rfl
theorem rT(x:Bool):∀ zs:List Bool,jZ (.bl x) (zs.map V.bl)=decide (x∈zs)
 | []=>rfl
 | z::zs=>by
  have ih:=rT x zs
  unfold jZ at ih ⊢;rw[List.map_cons,List.any_cons,ih];show(z==x||decide (x∈zs))=decide (x∈z::zs)
  rw[Bool.eq_iff_iff];simp only[Bool.or_eq_true,beq_iff_eq,decide_eq_true_eq,List.mem_cons];exact⟨fun h=>h.imp Eq.symm id,fun h=>h.imp Eq.symm id⟩
theorem vQ(zs:List Bool):(zs.map V.bl).all fG=true:=by
 rw[List.all_eq_true];intro v hv;obtain⟨z,_,rfl⟩:=List.mem_map.mp hv;rfl
theorem rS{K:PySem.W.Frag}{Z:Addr->Prop}{m:Mu}{H:Hp}:∀ {zs:List Bool} {vs:List V},RPs K Z m H (zs.map PyData.bool) vs->vs=zs.map V.bl
 | [],vs,h=>by simpa[RPs] using h
 | z::zs,vs,h=>by
  simp only[List.map_cons,RPs]at h;obtain⟨v,r,rfl,h1,h2⟩:=h;simp only[RP]at h1;subst h1;rw[rS h2];rfl
theorem rJ(x:Int):∀ zs:List Int,jZ (.int x) (zs.map V.int)=decide (x∈zs)
 | []=>rfl
 | z::zs=>by
  have ih:=rJ x zs
  unfold jZ at ih ⊢;rw[List.map_cons,List.any_cons,ih];show(z==x||decide (x∈zs))=decide (x∈z::zs)
  rw[Bool.eq_iff_iff];simp only[Bool.or_eq_true,beq_iff_eq,decide_eq_true_eq,List.mem_cons];exact⟨fun h=>h.imp Eq.symm id,fun h=>h.imp Eq.symm id⟩
theorem sV(zs:List Int):(zs.map V.int).all fG=true:=by
 rw[List.all_eq_true];intro v hv;obtain⟨z,_,rfl⟩:=List.mem_map.mp hv;rfl
theorem qK{K:PySem.W.Frag}{Z:Addr->Prop}{m:Mu}{H:Hp}:∀ {zs:List Int} {vs:List V},RPs K Z m H (zs.map PyData.int) vs->vs=zs.map V.int
 | [],vs,h=>by simpa[RPs] using h
 | z::zs,vs,h=>by
  simp only[List.map_cons,RPs]at h;obtain⟨v,r,rfl,h1,h2⟩:=h;simp only[RP]at h1;subst h1;rw[qK h2];rfl
theorem sJ:cI X (compareOp .In) jV:=by
 intro pins s σ H Z m x y dx dy v u R Q I ok rx ry r1 r2 h k;unfold jV at h
 split at h
 ·obtain⟨zs,rfl,q⟩:=h
  cases r1.str
  simp only[RD,RP]at r2;obtain⟨a,vs,rfl,_,h1,h2⟩:=r2
  cases pY h2
  refine oC pins s σ H _ _ v u Q I rx ry ⟨a,_,rfl,.inl h1,rfl,tX zs,?_⟩;rw[if_neg Bool.false_ne_true,qZ];exact k _ m _ H q Ext.refl ok .ofBl
 ·obtain⟨zs,rfl,q⟩:=h
  cases r1.str
  simp only[RD,RP]at r2;obtain⟨a,vs,rfl,h1,h2⟩:=r2
  cases pY h2
  refine oC pins s σ H _ _ v u Q I rx ry ⟨a,_,rfl,.inr h1,rfl,tX zs,?_⟩;rw[if_neg Bool.false_ne_true,qZ];exact k _ m _ H q Ext.refl ok .ofBl
 ·obtain⟨zs,rfl,q⟩:=h
  cases r1.bl
  simp only[RD,RP]at r2;obtain⟨a,vs,rfl,_,h1,h2⟩:=r2
  cases rS h2
  refine oC pins s σ H _ _ v u Q I rx ry ⟨a,_,rfl,.inl h1,rfl,vQ zs,?_⟩;rw[if_neg Bool.false_ne_true,rT];exact k _ m _ H q Ext.refl ok .ofBl
 ·obtain⟨zs,rfl,q⟩:=h
  cases r1.bl
  simp only[RD,RP]at r2;obtain⟨a,vs,rfl,h1,h2⟩:=r2
  cases rS h2
  refine oC pins s σ H _ _ v u Q I rx ry ⟨a,_,rfl,.inr h1,rfl,vQ zs,?_⟩;rw[if_neg Bool.false_ne_true,rT];exact k _ m _ H q Ext.refl ok .ofBl
 ·obtain⟨zs,rfl,q⟩:=h
  cases r1.int
  simp only[RD,RP]at r2;obtain⟨a,vs,rfl,_,h1,h2⟩:=r2
  cases qK h2
  refine oC pins s σ H _ _ v u Q I rx ry ⟨a,_,rfl,.inl h1,rfl,sV zs,?_⟩;rw[if_neg Bool.false_ne_true,rJ];exact k _ m _ H q Ext.refl ok .ofBl
 ·obtain⟨zs,rfl,q⟩:=h
  cases r1.int
  simp only[RD,RP]at r2;obtain⟨a,vs,rfl,h1,h2⟩:=r2
  cases qK h2
  refine oC pins s σ H _ _ v u Q I rx ry ⟨a,_,rfl,.inr h1,rfl,sV zs,?_⟩;rw[if_neg Bool.false_ne_true,rJ];exact k _ m _ H q Ext.refl ok .ofBl
 ·exact h.elim
theorem R5:cI X (compareOp .NotIn) wY:=by
 intro pins s σ H Z m x y dx dy v u R Q I ok rx ry r1 r2 h k;unfold wY at h
 split at h
 ·obtain⟨zs,rfl,q⟩:=h
  cases r1.str
  simp only[RD,RP]at r2;obtain⟨a,vs,rfl,_,h1,h2⟩:=r2
  cases pY h2
  refine qA pins s σ H _ _ v u Q I rx ry ⟨a,_,rfl,.inl h1,rfl,tX zs,?_⟩;rw[if_pos rfl,qZ];exact k _ m _ H q Ext.refl ok .ofBl
 ·obtain⟨zs,rfl,q⟩:=h
  cases r1.str
  simp only[RD,RP]at r2;obtain⟨a,vs,rfl,h1,h2⟩:=r2
  cases pY h2
  refine qA pins s σ H _ _ v u Q I rx ry ⟨a,_,rfl,.inr h1,rfl,tX zs,?_⟩;rw[if_pos rfl,qZ];exact k _ m _ H q Ext.refl ok .ofBl
 ·obtain⟨zs,rfl,q⟩:=h
  cases r1.bl
  simp only[RD,RP]at r2;obtain⟨a,vs,rfl,_,h1,h2⟩:=r2
  cases rS h2
  refine qA pins s σ H _ _ v u Q I rx ry ⟨a,_,rfl,.inl h1,rfl,vQ zs,?_⟩;rw[if_pos rfl,rT];exact k _ m _ H q Ext.refl ok .ofBl
 ·obtain⟨zs,rfl,q⟩:=h
  cases r1.bl
  simp only[RD,RP]at r2;obtain⟨a,vs,rfl,h1,h2⟩:=r2
  cases rS h2
  refine qA pins s σ H _ _ v u Q I rx ry ⟨a,_,rfl,.inr h1,rfl,vQ zs,?_⟩;rw[if_pos rfl,rT];exact k _ m _ H q Ext.refl ok .ofBl
 ·obtain⟨zs,rfl,q⟩:=h
  cases r1.int
  simp only[RD,RP]at r2;obtain⟨a,vs,rfl,_,h1,h2⟩:=r2
  cases qK h2
  refine qA pins s σ H _ _ v u Q I rx ry ⟨a,_,rfl,.inl h1,rfl,sV zs,?_⟩;rw[if_pos rfl,rJ];exact k _ m _ H q Ext.refl ok .ofBl
 ·obtain⟨zs,rfl,q⟩:=h
  cases r1.int
  simp only[RD,RP]at r2;obtain⟨a,vs,rfl,h1,h2⟩:=r2
  cases qK h2
  refine qA pins s σ H _ _ v u Q I rx ry ⟨a,_,rfl,.inr h1,rfl,sV zs,?_⟩;rw[if_pos rfl,rJ];exact k _ m _ H q Ext.refl ok .ofBl
 ·exact h.elim
@[simp] def gF:DC
 | [.dat (.tuple xs)],m,Q=>Q (.dat (.tuple xs)) m
 | [.dat (.list xs)],m,Q=>Q (.dat (.tuple xs)) m
 | [.cel c],m,Q=>∃ xs,m c=some (.l xs)/\Q (.dat (.tuple xs)) m
 | _,_,_=>False
theorem kU:CallD X (.type "tuple") gF:=by
 intro pins s σ H Z m xs ds us R Q I ok rv rd h k;unfold gF at h
 split at h
 ·obtain⟨v,rfl,r1⟩:=rd.one;have r0:=r1
  simp only[RD,RP]at r1;obtain⟨a,vs,rfl,h1,h2⟩:=r1;exact Dm pins s σ H _ us Q I rv ⟨a,vs,rfl,.inr ⟨h1,k _ m _ H h Ext.refl ok r0⟩⟩
 ·obtain⟨v,rfl,r1⟩:=rd.one;simp only[RD,RP]at r1;obtain⟨a,vs,rfl,_,h1,h2⟩:=r1;refine Dm pins s σ H _ us Q I rv ⟨a,vs,rfl,.inl ⟨h1,fun l hl=>?_⟩⟩;have sm:Same H (aE H l (.tup vs)):=bT hl
  refine k _ m _ _ h (ok.ext sm) (ok.grow sm) ?_;simp only[RD,RP];exact⟨l,vs,rfl,.inl (.inl bQ),RPs.ext (ok.ext sm) _ _ h2⟩
 ·obtain⟨v,rfl,r1⟩:=rd.one;obtain⟨rfl,_⟩:=r1;obtain⟨ys,hm,q⟩:=h;obtain⟨vs,h1,h2⟩:=ok.l hm;refine Dm pins s σ H _ us Q I rv ⟨_,vs,rfl,.inl ⟨.inl (.inl h1),fun l hl=>?_⟩⟩;have sm:Same H (aE H l (.tup vs)):=bT hl
  refine k _ m _ _ q (ok.ext sm) (ok.grow sm) ?_;simp only[RD,RP];exact⟨l,vs,rfl,.inl (.inl bQ),RPs.ext (ok.ext sm) _ _ h2⟩
 ·exact h.elim
theorem Uo:bootBuiltins "reversed"=some (.type "reversed"):=by decide +kernel
@[simp] def uM(f:DE):DI:=fun d m Q=>f d m fun x m1=>∃ ps,x=.dat (.tuple ps)/\Q (ps.reverse.map .dat) m1
theorem E3{tg:Expr}(hg:Gl X "reversed")(hm:X.mg "reversed"=none)(ha:PE X e (LE X.K f))(hs:starEach [e] X.env=[(false,eval e X.env)]:=by rfl):PI X tg (.Call (.Name "reversed" p) [e] [] pos) (LI X.K (uM f)):=by
 intro pins s σ H R I h;obtain⟨Z,d,m,ZZ,ok,rs,h,k⟩:=h;have hA:=vA (X:=X) ha uG (by rw[hs];rfl) pos pins s σ H (fun vs H1=>∃ a xs ps m1,vs=[.ref a]/\SqT X.K H1 a xs/\RPs X.K Z m1 H1 ps xs/\ZZ (ps.reverse.map .dat) m1/\Ext X.K Z m H m1 H1/\Ok X.K Z m1 H1) I ⟨Z,d,m,_,ok,rs,h,fun x m1 v H1 ⟨ps,ex,q⟩ e1 ok1 rd=>by
  subst ex;simp only[RD,RP]at rd;obtain⟨a,vs,rfl,h1,h2⟩:=rd;exact⟨a,vs,ps,m1,rfl,h1,h2,q,e1,ok1⟩⟩
 refine Call_ (kW I hg hm Uo (PyProof.Rows.callWith_type1 (aI hA fun us s1 ⟨vs,H1,I1,r1,q1⟩=>?_) hs rfl));obtain⟨a,xs,ps,m1,e,hq,rp,q,e1,ok1⟩:=q1;subst e;obtain⟨u,rfl,ru⟩:=jL r1
 cases ru
 obtain⟨its,rv,pt,hz⟩:=I1.tuple hq;have hl:=rv.length
 have hn:=kS
 refine M6 pt (by rw[List.size_toArray];omega) ?_
 have hit:IsRv (s1.heap.push (yY a ((its.toArray.size:Int)-1))) s1.heap.objs.size a ((xs.length:Int)-1-((0:Nat):Int)):=by
  refine⟨_,Heap.get?_push_size _ rfl,rfl,?_⟩;show Data.fields _=Data.fields _
  rw[List.size_toArray,<- hl];simp
 refine Nm (s:={s1 with heap:=_,toks:=_}) hit ?_;refine⟨s1.heap.objs.size,[s1.heap.objs.size],_,_,H1,rfl,I1.kept fun b o e=>Heap.get?_push_of_some _ e,j6 a _ xs.length,⟨Nat.zero_le _,hit⟩,fun b hb=>?_,k _ m1 H1 _ q e1 ok1 ?_⟩
 ·have e:b=s1.heap.objs.size:=by simpa using hb
  subst e;exact I1.fpOk (Nat.le_refl _) (I1.hok.fresh (Nat.le_refl _))
 ·intro m2 H2 e2;have q1:=e2.t a xs hq
  have hlp:=rp.length
  refine⟨fun i x hx=>?_,?_⟩
  ·obtain⟨pp,hp,rfl⟩:=sH hx;have hlt:i<ps.length:=by
    have:=(List.getElem?_eq_some_iff.mp hp).1
    simpa using this
   rw[List.getElem?_reverse hlt]at hp;obtain⟨v,hv,rv⟩:=rp.get hp;refine⟨⟨by omega,xs,q1,rfl⟩,fun v' H3 y=>.inl ⟨y.1,?_⟩⟩
   have:=y.2 xs q1
   rw[hlp]at this;rw[hv]at this
   cases this
   exact rv
  ·show(ps.reverse.map D.dat).length=xs.length
   rw[List.length_map,List.length_reverse];exact hlp.symm
end
end DL
namespace DL
open PySem PySem.Spec PyProof.Rows L2
def chkB(scope:Scope)(env:Env):Bool:=scope.names.all fun y=>(decide (y.2≠.cell))&&(!decide (y.2=.local)||decide (scope.names.lookup y.1=some .local))&&(!decide (y.2=.free)||decide (env.kindOf y.1=some .cell)||decide (env.kindOf y.1=some .free))
def chkS(N:List Str)(scope:Scope)(env:Env):List Str->List (Option Nat)->Bool
 | [],[]=>true
 | x::xs,o::os=>(match o with | none=>true | some j=>decide (N[j]?=some x)&&decide ((x,NameKind.free)∈scope.names)&&(decide ((relabel scope env).names.lookup x=some .cell)||decide ((relabel scope env).names.lookup x=some .free)))&&chkS N scope env xs os
 | _,_=>false
theorem chkB.ok{scope:Scope}{env:Env}(h:chkB scope env=true):(∀ y∈scope.names,y.2≠.cell)/\(∀ y∈scope.names,y.2=.local->scope.names.lookup y.1=some .local)/\∀ x,(x,NameKind.free)∈scope.names->env.kindOf x=some .cell\/env.kindOf x=some .free:=by
 unfold chkB at h;rw[List.all_eq_true]at h;have q:∀ y∈scope.names,y.2≠.cell/\(y.2=.local->scope.names.lookup y.1=some .local)/\(y.2=.free->env.kindOf y.1=some .cell\/env.kindOf y.1=some .free):=fun y hy=>by
  have:=h y hy
  simp only[Bool.and_eq_true,Bool.or_eq_true,Bool.not_eq_true',decide_eq_true_eq,decide_eq_false_iff_not]at this;obtain⟨⟨a,b⟩,c⟩:=this;refine⟨a,fun e=>b.resolve_left (fun n=>n e),fun e=>?_⟩;rcases c with (c | c) | c
  ·exact absurd e c
  ·exact .inl c
  ·exact .inr c
 exact⟨fun y hy=>(q y hy).1,fun y hy=>(q y hy).2.1,fun x hx=>(q _ hx).2.2 rfl⟩
theorem chkS.ok{X:Cx}{scope:Scope}:∀ {NC:List Str} {src:List (Option Nat)},chkS X.N scope X.env NC src=true->lX X scope NC src
 | [],[],_=>⟨rfl,fun i x j h=>by simp at h⟩
 | [],_::_,h=>by simp[chkS]at h
 | _::_,[],h=>by simp[chkS]at h
 | y::ys,o::os,h=>by
  simp only[chkS,Bool.and_eq_true]at h;obtain⟨h1,h2⟩:=h;obtain⟨q1,q2⟩:=chkS.ok h2;refine⟨by rw[List.length_cons,List.length_cons,q1],fun i x j e1 e2=>?_⟩
  cases i with
  | zero =>
   simp at e1 e2;subst e1 e2;simp only[Bool.and_eq_true,Bool.or_eq_true,decide_eq_true_eq]at h1;exact⟨h1.1.1,h1.1.2,h1.2⟩
  | succ i=>exact q2 i x j (by simpa using e1) (by simpa using e2)
section
variable {X:Cx}{tg iter elt:Expr}{ifs:List Expr}{scope:Scope}{fi:DI}{g:DG}{t:DT}{f:DE}{pos:Pos}
theorem T8(NC:List Str)(src:List (Option Nat))(hc:X.calm=true)(hi:PI X tg iter (LI X.K fi))
  (hg:∀ cl C s2 H2 pins fp,PG (aQ X scope cl C NC s2 H2 pins fp) tg (LG X.K g)) (ht:∀ cl C s2 H2 pins fp,PF (aQ X scope cl C NC s2 H2 pins fp) ifs (LT X.K t)) (he:∀ cl C s2 H2 pins fp,PE (aQ X scope cl C NC s2 H2 pins fp) elt (LE X.K f))
  (hkind:scope.kind=.function:=by rfl) (hB:chkB scope X.env=true:=by rfl) (hS:chkS X.N scope X.env NC src=true:=by rfl)
  (hs:∀ x,foldedSetIterable iter X.env x=pure x:=by intro _;rfl):PE X (.ListComp elt [⟨tg,iter,ifs,0⟩] scope pos) (LE X.K (dU src fi g t f)) :=
 B9 (NC:=NC) src hc hi hg ht he hkind (chkB.ok hB).1 (chkB.ok hB).2.1 (chkB.ok hB).2.2 (chkS.ok hS) hs
end
end DL
namespace DL
open PySem PySem.Spec PyProof.Rows L2
section
variable {prog:Program}{w:World}{A:Around}{R:Result->Shared->Prop}{s:Shared}
theorem Sf(elt tg iter tg2 iter2:Expr)(ifs ifs2:List Expr)(scope:Scope)(pos:Pos)(it acc:Value)(env:Env) :
  compTurn (.ListComp elt [⟨tg,iter,ifs,0⟩,⟨tg2,iter2,ifs2,0⟩] scope pos) 0 it acc env=(do
   standAt iter.pos
   match <- pyNext it with
   | none=>pure (.done .next)
   | some v =>
    letOwnedTupleGo tg it v
    assign tg env v
    let mut ok:=true
    for c in ifs do
     if ok then ok <- isTrue c env (eval c env)
    if ok then
     let x <- eval iter2 env
     standAt iter2.pos
     let x <- foldedSetIterable iter2 env x
     let _ <- runOwn (.compStart (.ListComp elt [⟨tg,iter,ifs,0⟩,⟨tg2,iter2,ifs2,0⟩] scope pos) 1 (<- holding [x] (pyIter x)) acc env) env
    again (.compLoop (.ListComp elt [⟨tg,iter,ifs,0⟩,⟨tg2,iter2,ifs2,0⟩] scope pos) 0 it acc env)):=by rfl
theorem CJ(elt tg iter tg2 iter2:Expr)(ifs ifs2:List Expr)(scope:Scope)(pos:Pos)(it acc:Value)(env:Env) :
  compTurn (.ListComp elt [⟨tg,iter,ifs,0⟩,⟨tg2,iter2,ifs2,0⟩] scope pos) 1 it acc env=(do
   standAt iter2.pos
   match <- pyNext it with
   | none=>pure (.done .next)
   | some v =>
    letOwnedTupleGo tg2 it v
    assign tg2 env v
    let mut ok:=true
    for c in ifs2 do
     if ok then ok <- isTrue c env (eval c env)
    if ok then
     (do let _ <- call (.builtin "list.append") [acc,<- eval elt env])
    again (.compLoop (.ListComp elt [⟨tg,iter,ifs,0⟩,⟨tg2,iter2,ifs2,0⟩] scope pos) 1 it acc env)):=by rfl
theorem H0{elt tg iter tg2 iter2:Expr}{ifs ifs2:List Expr}{scope:Scope}{pos:Pos}{it acc:Value}{env:Env}
  (h0:codeAny (model prog w) A (.compLoop (.ListComp elt [⟨tg,iter,ifs,0⟩,⟨tg2,iter2,ifs2,0⟩] scope pos) 1 it acc env) R s)
  (h:wpAny (model prog w) A (pyIter it) (fun it' s'=>codeAny (model prog w) A (.compLoop (.ListComp elt [⟨tg,iter,ifs,0⟩,⟨tg2,iter2,ifs2,0⟩] scope pos) 1 it' acc env) R s')
   (notedBy (model prog w) A env fun x s'=>R (.error x) s') s) :
  codeAny (model prog w) A (.compStart (.ListComp elt [⟨tg,iter,ifs,0⟩,⟨tg2,iter2,ifs2,0⟩] scope pos) 1 it acc env) R s:=by
 refine codeAny_of_tree ?_;show wpAny _ _ ((compStart (.ListComp elt [⟨tg,iter,ifs,0⟩,⟨tg2,iter2,ifs2,0⟩] scope pos) 1 it acc env).onRaise (fun x=>do noteFrame x env;standAt theWindowsPlace)) _ _ s
 refine wpAny_notedAt ?_;unfold compStart;show wpAny _ _ (ask>>=_) _ _ s
 refine wpAny_bind (wpAny_askSetting (wpAny_ite ?_))
 split
 ·first
   | exact wpAny_bind (wpAny_pure (wpAny_pure (And.intro rfl h0)))
   | exact wpAny_pure (And.intro rfl h0)
 ·first
   | exact wpAny_bind (wpAny_rule (wpAny_bind (wpAny_standAt (wpAny_bind (wpAny_mono h (fun it' s' h'=>wpAny_pure (And.intro rfl h')) fun _ _ x=>x)))))
   | (refine wpAny_bind (wpAny_rule ?_);show wpAny _ _ (standAt iter2.pos>>=_) _ _ s;exact wpAny_bind (wpAny_standAt (wpAny_bind (wpAny_mono h (fun it' s' h'=>wpAny_pure (And.intro rfl h')) fun _ _ x=>x))))
theorem A6{elt tg iter tg2 iter2:Expr}{ifs ifs2:List Expr}{scope:Scope}{pos:Pos}{it acc:Value}{env:Env}(I:Nat->Shared->Prop)(hs:∀ x,foldedSetIterable iter2 env x=pure x)
  (turn:∀ n s,I n s->wpAny (model prog w) A (pyNext it) (fun r s₁=>match r with
   | none=>R (.ok .next) s₁
   | some v=>wpAny (model prog w) A (letOwnedTupleGo tg it v) (fun _ s₀=>wpAny (model prog w) A (assign tg env v) (fun _ s₂ =>
     wpAny (model prog w) A (forIn ifs true fun c r=>if r=true then do let ok <- isTrue c env (eval c env);pure (ForInStep.yield ok) else pure (ForInStep.yield r)) (fun ok s₃ =>
      if ok=true then wpAny (model prog w) A (eval iter2 env) (fun x s₄ =>
       wpAny (model prog w) A (pyIter x) (fun it2 s₅=>codeAny (model prog w) A (.compStart (.ListComp elt [⟨tg,iter,ifs,0⟩,⟨tg2,iter2,ifs2,0⟩] scope pos) 1 it2 acc env) (fun r s₆=>r=.ok .next/\∃ m,m<n/\I m s₆) s₅) (fun _ _=>False) s₄) (fun _ _=>False) s₃
      else ∃ m,m<n/\I m s₃) (fun _ _=>False) s₂) (fun _ _=>False) s₀) (fun _ _=>False) s₁) (fun _ _=>False) s)
  (n:Nat) (h:I n s) :
  codeAny (model prog w) A (.compLoop (.ListComp elt [⟨tg,iter,ifs,0⟩,⟨tg2,iter2,ifs2,0⟩] scope pos) 0 it acc env) R s:=by
 have ff:∀ {E:Value->Shared->Prop} (x:Value) (s:Shared),False->E x s:=fun _ _ z=>z.elim
 refine codeAny_loop rfl I (fun n s hI=>?_) n h;show wpAny _ A ((compTurn (.ListComp elt [⟨tg,iter,ifs,0⟩,⟨tg2,iter2,ifs2,0⟩] scope pos) 0 it acc env).onRaise (fun x=>do noteFrame x env;theTreesLotGoes x)) _ _ s
 refine wpAny_noted ?_;rw[Sf];refine wpAny_bind (wpAny_standAt (wpAny_bind (wpAny_mono (turn n s hI) (fun r s₁ h₁=>?_) ff)))
 cases r with
 | none=>exact wpAny_pure h₁
 | some v =>
  refine wpAny_bind (wpAny_mono h₁ (fun _ s₀ h₀=>?_) ff);refine wpAny_bind (wpAny_mono h₀ (fun _ s₂ h₂=>wpAny_bind (wpAny_mono h₂ (fun ok s₃ h₃=>?_) ff)) ff)
  cases ok with
  | true =>
   simp only[if_true]at h₃ ⊢;refine wpAny_bind (wpAny_mono h₃ (fun x s₄ h₄=>?_) ff);refine wpAny_bind (wpAny_standAt (wpAny_bind (wpAny_of_eq (hs x) ?_)));refine wpAny_bind (wpAny_holding (wpAny_mono h₄ (fun it2 s₅ h₅=>?_) ff));refine wpAny_bind (wpAny_runOwn (codeAny_mono h₅ fun r s₆ ⟨hr,h₆⟩=>?_));subst hr;exact wpAny_pure ⟨rfl,h₆⟩
  | false =>
   simp only[Bool.false_eq_true,if_false]at h₃ ⊢;exact wpAny_pure ⟨rfl,h₃⟩
theorem Uf{elt tg iter tg2 iter2:Expr}{ifs ifs2:List Expr}{scope:Scope}{pos:Pos}{it acc:Value}{env:Env}{E:Value->Shared->Prop}(hE:∀ x s,E x s->False)(I:Nat->Shared->Prop)
  (turn:∀ n s,I n s->wpAny (model prog w) A (pyNext it) (fun r s₁=>match r with
   | none=>R (.ok .next) s₁
   | some v=>wpAny (model prog w) A (letOwnedTupleGo tg2 it v) (fun _ s₀=>wpAny (model prog w) A (assign tg2 env v) (fun _ s₂ =>
     wpAny (model prog w) A (forIn ifs2 true fun c r=>if r=true then do let ok <- isTrue c env (eval c env);pure (ForInStep.yield ok) else pure (ForInStep.yield r)) (fun ok s₃ =>
      if ok=true then wpAny (model prog w) A (eval elt env) (fun x s₄ =>
       wpAny (model prog w) A (call (.builtin "list.append") [acc,x]) (fun _ s₅=>∃ m,m<n/\I m s₅) E s₄) E s₃
      else ∃ m,m<n/\I m s₃) E s₂) E s₀) E s₁) E s)
  (n:Nat) (h:I n s) :
  codeAny (model prog w) A (.compLoop (.ListComp elt [⟨tg,iter,ifs,0⟩,⟨tg2,iter2,ifs2,0⟩] scope pos) 1 it acc env) R s:=by
 have ff:∀ {E':Value->Shared->Prop} (x:Value) (s:Shared),E x s->E' x s:=fun x s z=>(hE x s z).elim
 refine codeAny_loop rfl I (fun n s hI=>?_) n h;show wpAny _ A ((compTurn (.ListComp elt [⟨tg,iter,ifs,0⟩,⟨tg2,iter2,ifs2,0⟩] scope pos) 1 it acc env).onRaise (fun x=>do noteFrame x env;theTreesLotGoes x)) _ _ s
 refine wpAny_noted ?_;rw[CJ];refine wpAny_bind (wpAny_standAt (wpAny_bind (wpAny_mono (turn n s hI) (fun r s₁ h₁=>?_) ff)))
 cases r with
 | none=>exact wpAny_pure h₁
 | some v =>
  refine wpAny_bind (wpAny_mono h₁ (fun _ s₀ h₀=>?_) ff);refine wpAny_bind (wpAny_mono h₀ (fun _ s₂ h₂=>wpAny_bind (wpAny_mono h₂ (fun ok s₃ h₃=>?_) ff)) ff)
  cases ok with
  | true =>
   simp only[if_true]at h₃ ⊢;refine wpAny_bind (wpAny_bind (wpAny_mono h₃ (fun x s₄ h₄=>wpAny_bind (wpAny_mono h₄ (fun _ s₅ h₅=>wpAny_pure (wpAny_pure ⟨rfl,h₅⟩)) ff)) ff))
  | false =>
   simp only[Bool.false_eq_true,if_false]at h₃ ⊢;exact wpAny_pure ⟨rfl,h₃⟩
end
abbrev rL:=D->List PyData->aT->Mu->(List PyData->aT->Mu->Prop)->Prop
def bX(st:rL):List D->List PyData->aT->Mu->(List PyData->aT->Mu->Prop)->Prop
 | [],acc,d,m,Q=>Q acc d m
 | x::xs,acc,d,m,Q=>st x acc d m fun acc' d' m'=>bX st xs acc' d' m' Q
def stepI(g:DG)(t:DT)(f:DE):rL:=fun x acc d m Q=>g x d m fun d1 m1=>t d1 m1 fun b m2=>if b=true then f d1 m2 fun y m3=>∃ p,y=.dat p/\acc.length<sizeLine/\Q (acc++[p]) d1 m3 else Q acc d1 m2
def gD(g:DG)(t:DT)(fi2:DI)(st:rL):rL:=fun x acc d m Q=>g x d m fun d1 m1=>t d1 m1 fun b m2=>if b=true then fi2 d1 m2 fun ys m3=>bX st ys acc d1 m3 Q else Q acc d1 m2
@[simp] def rK(src:List (Option Nat))(fi:DI)(g:DG)(t:DT)(fi2:DI)(g2:DG)(t2:DT)(f:DE):DE:=fun d m Q=>fi d m fun xs m1=>bX (gD g t fi2 (stepI g2 t2 f)) xs [] (bH src d) m1 fun ps _ m2=>Q (.dat (.list ps)) m2
structure ExtW (K:PySem.W.Frag) (Z:Addr->Prop) (D:Addr) (m:Mu) (H:Hp) (m':Mu) (H':Hp):Prop where
 t:∀ a vs,SqT K H a vs->SqT K H' a vs
 l:∀ a vs,(m a=none/\¬ aG Z D a)->SqL K H a vs->m' a=none/\SqL K H' a vs
 z:∀ a,Z a->H' a=H a
 c:∀ a,(m a).isSome=true->(m' a).isSome=true
 fz:∀ a o u,H a=some (.frz o u)->H' a=some (.frz o u)
 fm:∀ a,qW (m a)=true->m' a=m a
section
variable {K:PySem.W.Frag}{Z:Addr->Prop}{m m1 m' m2:Mu}{H H1 H' H2:Hp}{D:Addr}{ys zs:List V}
theorem ExtW.refl:ExtW K Z D m H m H:=⟨fun _ _ h=>h,fun _ _ h1 h2=>⟨h1.1,h2⟩,fun _ _=>rfl,fun _ h=>h,fun _ _ _ h=>h,fun _ _=>rfl⟩
theorem ExtW.y(e:ExtW K Z D m H m' H'):ExtY K (aG Z D) m H m' H':=⟨e.t,e.l,e.fz⟩
theorem ExtW.trans(a:ExtW K Z D m H m' H')(b:ExtW K Z D m' H' m2 H2):ExtW K Z D m H m2 H2 :=
 ⟨fun x vs h=>b.t x vs (a.t x vs h),fun x vs h1 h2=>let ⟨q1,q2⟩:=a.l x vs h1 h2;b.l x vs ⟨q1,h1.2⟩ q2,fun x h=>(b.z x h).trans (a.z x h),fun x h=>b.c x (a.c x h),fun x o u h=>b.fz x o u (a.fz x o u h),fun x h=>by
  have q:=a.fm x h
  rw[b.fm x (by rw[q];exact h),q]⟩
theorem Ext.w(e:Ext K (aG Z D) m H m' H'):ExtW K Z D m H m' H':=⟨e.t,e.l,fun a h=>e.z a (.inl h),e.c,e.fz,e.fm⟩
theorem ExtW.put(hz:¬ Z D)(hD:H D=some (.lst ys)):ExtW K Z D m H m (aE H D (.lst zs)) :=
 ⟨pT hD,fun a vs h1 h2=>⟨h1.1,Ce (fun e=>h1.2 (.inr e)) h2⟩,fun a h=>by
  have ne:a≠D:=by rintro rfl;exact hz h
  rw[aV ne],fun _ h=>h,fun a o u h=>by
  rw[aV (by rintro rfl;rw[hD]at h;cases h)]
  exact h,fun _ _=>rfl⟩
theorem ExtW.rd{x:DL.D}{v:V}(e:ExtW K Z D m H m' H')(h:RD K (aG Z D) m H x v):RD K (aG Z D) m' H' x v:=by
 cases x with
 | dat p=>exact RP.tr e.t (fun a vs h1 h2=>let ⟨q1,q2⟩:=e.l a vs h1 h2;⟨⟨q1,h1.2⟩,q2⟩) p v h
 | cel a=>exact⟨h.1,e.c a h.2⟩
theorem E9(e:Ext K Z m1 H1 m H)(hD:H1 D=none)(hk:K.lookup D=none)(e2:ExtW K Z D m H m' H'):Ext K Z m1 H1 m' H' :=
 ⟨fun a vs h=>e2.t a vs (e.t a vs h),fun a vs h1 h2=>let ⟨q1,q2⟩:=e.l a vs h1 h2;e2.l a vs ⟨q1,fun z=>z.elim h1.2 (SqL.ne hD hk h2)⟩ q2,fun a h=>(e2.z a h).trans (e.z a h),fun a h=>e2.c a (e.c a h),fun a o u h=>e2.fz a o u (e.fz a o u h),fun a h=>by
  have q:=e.fm a h
  rw[e2.fm a (by rw[q];exact h),q]⟩
end
section
variable {Y:Cx}{tg iter tg2 iter2 elt:Expr}{ifs ifs2:List Expr}{scope:Scope}{fi2:DI}{g2:DG}{t2:DT}{f:DE}{pos:Pos}
theorem Ue(hc:Y.calm=true)(hx:∀ x s,Y.xe x s->False)(hi:PI Y tg2 iter2 (LI Y.K fi2))(hg:PG Y tg2 (LG Y.K g2))(ht:PF Y ifs2 (LT Y.K t2))(he:PE Y elt (LE Y.K f))
  {pins:List (Addr×Obj)} {s:Shared} {σ:L2.St} {H:Hp} {Z:Addr->Prop} {D:Addr} {acc:List PyData} {ys:List V} {d:aT} {m:Mu} {Q:List PyData->aT->Mu->Prop}
  (I:Inv Y pins σ H s) (hz:¬ Z D) (hD:H D=some (.lst ys)) (racc:RPs Y.K (aG Z D) m H acc ys) (ok:Ok Y.K (aG Z D) m H) (rs:RS Y.K (aG Z D) m H d σ) (h:fi2 d m fun xs m1=>bX (stepI g2 t2 f) xs acc d m1 Q) :
  wpAny (model Y.prog Y.w) Y.A (eval iter2 Y.env) (fun x s4=>wpAny (model Y.prog Y.w) Y.A (pyIter x) (fun it2 s5=>codeAny (model Y.prog Y.w) Y.A (.compStart (.ListComp elt [⟨tg,iter,ifs,0⟩,⟨tg2,iter2,ifs2,0⟩] scope pos) 1 it2 (.ref D) Y.env)
   (fun r s6=>r=.ok .next/\∃ σ' H' ys' acc' d' m',Inv Y pins σ' H' s6/\H' D=some (.lst ys')/\RPs Y.K (aG Z D) m' H' acc' ys'/\ExtW Y.K Z D m H m' H'/\Ok Y.K (aG Z D) m' H'/\RS Y.K (aG Z D) m' H' d' σ'/\Q acc' d' m') s5) Y.xe s4) Y.xe s:=by
 refine aI (hi pins s σ H (fun J H1=>∃ xs m1,Ext Y.K (aG Z D) m H m1 H1/\Ok Y.K (aG Z D) m1 H1/\mM Y.K (aG Z D) m1 H1 xs J/\bX (stepI g2 t2 f) xs acc d m1 Q) I
  ⟨aG Z D,d,m,_,ok,rs,h,fun xs m1 H1 J q e1 ok1 y1=>⟨xs,m1,e1,ok1,y1,q⟩⟩) fun xv s₁ h₁=>aI h₁ fun itv s₂ h₂=>?_
 obtain⟨it,fp,tn,J,H2,eit,I2,T,st2,f2,xs,m1,e1,ok1,yl,lp⟩:=h₂;subst eit;have hD2:H2 D=some (.lst ys):=(e1.z _ (.inr rfl)).trans hD
 have stat:∀ {H':Hp},(∀ b∈fp,H' b=none)->∀ b∈fp,cS Y pins H' b:=fun hn b hb=>⟨hn b hb,(f2 b hb).2⟩
 have loop:codeAny (model Y.prog Y.w) Y.A (.compLoop (.ListComp elt [⟨tg,iter,ifs,0⟩,⟨tg2,iter2,ifs2,0⟩] scope pos) 1 (.ref it) (.ref D) Y.env)
   (fun r s6=>r=.ok .next/\∃ σ' H' ys' acc' d' m',Inv Y pins σ' H' s6/\H' D=some (.lst ys')/\RPs Y.K (aG Z D) m' H' acc' ys'/\ExtW Y.K Z D m H m' H'/\Ok Y.K (aG Z D) m' H'/\RS Y.K (aG Z D) m' H' d' σ'/\Q acc' d' m') s₂:=by
  refine Uf hx (fun n s'=>∃ (i:Nat) (ys:List V) (acc:List PyData) (d':aT) (m':Mu) (σ':L2.St) (H':Hp),n=xs.length-i/\i<=xs.length/\Inv Y pins σ' H' s'/\tn i s'.heap/\(∀ b∈fp,H' b=none) /\
   H' D=some (.lst ys)/\RPs Y.K (aG Z D) m' H' acc ys/\ExtW Y.K Z D m1 H2 m' H'/\Ok Y.K (aG Z D) m' H'/\RS Y.K (aG Z D) m' H' d' σ' /\
   bX (stepI g2 t2 f) (xs.drop i) acc d' m' Q) ?_ xs.length ⟨0,ys,acc,d,m1,σ,H2,by simp,Nat.zero_le _,I2,st2,fun b hb=>(f2 b hb).1,hD2,RPs.ext e1 _ _ racc,ExtW.refl,ok1,rs.ext e1,by simpa using lp⟩
  rintro n s4 ⟨i,ys,acc,d',m',σ',H',rfl,hi',I5,st5,fr5,hDy,racc,eX,ok5,rs5,lp5⟩;obtain⟨y1,y2⟩:=yl m' H' eX.y
  by_cases hlt:i<xs.length
  ·rw[List.drop_eq_getElem_cons hlt]at lp5;obtain⟨go,yd⟩:=y1 i xs[i] (List.getElem?_eq_getElem hlt);refine aI (T.item Y rfl rfl rfl hc i pins s4 σ' H' Y.xe I5 (stat fr5) st5 go) fun r s5 hq0=>?_;obtain⟨u,hr,h5⟩:=hq0;subst hr;refine aI h5 fun _ s6 hq0=>?_;obtain⟨x,H6,I6,r6,yy,st6,fr6⟩:=hq0;have yy':=yd x H6 yy
   have e56:Ext Y.K (aG Z D) m' H' m' H6:=ok5.ext yy'.same
   have rv:=yy'.rd (fun d v h=>eX.rd h) ok5
   have hDy:=yy'.same _ _ hDy
   have racc:=RPs.ext e56 _ _ racc
   have eX:=eX.trans e56.w
   have rs5:=rs5.ext e56
   have ok5:=ok5.grow yy'.same
   have I6':=I6.pinned (stat fr6) (T.obj _ _ st6)
   have over:∀ {s7:Shared} {σ7:L2.St} {H7:Hp} {ys7:List V} {acc7:List PyData} {d7:aT} {m7:Mu},Inv Y (pins++kC fp s6.heap) σ7 H7 s7->H7 D=some (.lst ys7)->RPs Y.K (aG Z D) m7 H7 acc7 ys7 ->
     ExtW Y.K Z D m1 H2 m7 H7->Ok Y.K (aG Z D) m7 H7->RS Y.K (aG Z D) m7 H7 d7 σ7->(bX (stepI g2 t2 f) (xs.drop (i+1)) acc7 d7 m7 Q) ->
     ∃ n,n<xs.length-i/\∃ (i:Nat) (ys:List V) (acc:List PyData) (d':aT) (m':Mu) (σ':L2.St) (H':Hp),n=xs.length-i/\i<=xs.length/\Inv Y pins σ' H' s7/\tn i s7.heap/\(∀ b∈fp,H' b=none) /\
      H' D=some (.lst ys)/\RPs Y.K (aG Z D) m' H' acc ys/\ExtW Y.K Z D m1 H2 m' H'/\Ok Y.K (aG Z D) m' H'/\RS Y.K (aG Z D) m' H' d' σ' /\
      bX (stepI g2 t2 f) (xs.drop i) acc d' m' Q:=by
    intro s7 σ7 H7 ys7 acc7 d7 m7 I7 a1 a2 a3 a4 a5 a6;refine⟨xs.length-(i+1),by omega,i+1,ys7,acc7,d7,m7,σ7,H7,rfl,hlt,I7.unpinned,T.keep _ _ _ st6 fun b hb o e=>(I7.pin (b,o) (List.mem_append_right _ (List.mem_append_right _ (hU hb e)))).1,fun b hb=>?_,a1,a2,a3,a4,a5,a6⟩
    obtain⟨o,e,dd⟩:=T.obj _ _ st6 b hb;exact(I7.pin (b,o) (List.mem_append_right _ (List.mem_append_right _ (hU hb e)))).2.1
   refine aI (hg _ s6 σ' _ x u (fun σ7 H7=>∃ d7 m7,Ext Y.K (aG Z D) m' H6 m7 H7/\Ok Y.K (aG Z D) m7 H7/\RS Y.K (aG Z D) m7 H7 d7 σ7 /\
    t2 d7 m7 fun b m2=>if b=true then f d7 m2 fun y m3=>∃ p,y=.dat p/\acc.length<sizeLine/\bX (stepI g2 t2 f) (xs.drop (i+1)) (acc++[p]) d7 m3 Q else bX (stepI g2 t2 f) (xs.drop (i+1)) acc d7 m2 Q) I6' r6
    ⟨_,xs[i],d',m',_,ok5,rs5,rv,lp5,fun d7 m7 σ7 H7 q7 e7 ok7 rs7=>⟨d7,m7,e7,ok7,rs7,q7⟩⟩) fun _ s7 hq0=>?_
   obtain⟨σ7,H7,I7,d7,m7,e7,ok7,rs7,q7⟩:=hq0;refine aI (ht _ s7 σ7 H7 (fun b H8=>∃ m8,Ext Y.K (aG Z D) m7 H7 m8 H8/\Ok Y.K (aG Z D) m8 H8 /\
    if b=true then f d7 m8 fun y m3=>∃ p,y=.dat p/\acc.length<sizeLine/\bX (stepI g2 t2 f) (xs.drop (i+1)) (acc++[p]) d7 m3 Q else bX (stepI g2 t2 f) (xs.drop (i+1)) acc d7 m8 Q) I7
    ⟨_,d7,m7,_,ok7,rs7,q7,fun b m8 H8 q8 e8 ok8=>⟨m8,e8,ok8,q8⟩⟩) fun b s8 hq0=>?_
   obtain⟨H8,I8,m8,e8,ok8,q8⟩:=hq0;have e68:=e7.trans e8
   have hD8:H8 D=some (.lst ys):=(e68.z _ (.inr rfl)).trans hDy
   cases b with
   | false =>
    rw[if_neg Bool.false_ne_true]at q8;exact over I8 hD8 (RPs.ext e68 _ _ racc) (eX.trans e68.w) ok8 (rs7.ext e8) q8
   | true =>
    rw[if_pos rfl]at q8;refine aI (he _ s8 σ7 H8 (fun v H9=>∃ p m9,RP Y.K (aG Z D) m9 H9 p v/\Ext Y.K (aG Z D) m8 H8 m9 H9/\Ok Y.K (aG Z D) m9 H9/\acc.length<sizeLine/\bX (stepI g2 t2 f) (xs.drop (i+1)) (acc++[p]) d7 m9 Q) I8
     ⟨_,d7,m8,_,ok8,rs7.ext e8,q8,fun y m9 v H9 hq1 e9 ok9 r9=>by
      obtain⟨p,ey,hz,q9⟩:=hq1;subst ey;exact⟨p,m9,r9,e9,ok9,hz,q9⟩⟩) fun yv s9 hq0=>?_
    obtain⟨y,H9,I9,ry,p,m9,rp9,e9,ok9,hz9,q9⟩:=hq0;have e69:=e68.trans e9
    have hD9:H9 D=some (.lst ys):=(e69.z _ (.inr rfl)).trans hDy
    have racc9:=RPs.ext e69 _ _ racc
    have rs9:=(rs7.ext e8).ext e9
    refine aI (Ha _ s9 σ7 H9 (.ref D) [y] (.ref D) [yv] (fun v H10=>H10=aE H9 D (.lst (ys++[y]))) I9 rfl (.cons ry .nil) ⟨_,ys,y,rfl,rfl,hD9,by rw[racc9.length];exact hz9,rfl⟩) fun rv s10 hq0=>?_
    obtain⟨v10,H10,I10,_,e10⟩:=hq0;subst e10;refine over I10 bQ ?_ ((eX.trans e69.w).trans (ExtW.put hz hD9)) (Iv ok9 hD9) ⟨rs9.1,fun j z hj=>?_⟩ q9
    ·exact RPs.tr (pT hD9) tO _ _ (racc9.append (by simp only[RPs];exact⟨y,[],rfl,rp9,rfl⟩))
    ·obtain⟨v,a1,a2⟩:=rs9.2 j z hj;exact⟨v,a1,Lb hD9 a2⟩
  ·have e:i=xs.length:=by omega
   subst e;rw[List.drop_length]at lp5;refine aI (T.done Y rfl rfl rfl hc _ pins s4 σ' H' Y.xe I5 (stat fr5) st5 y2) fun r s5 hq0=>?_;obtain⟨hr,I6⟩:=hq0;subst hr;exact⟨rfl,σ',H',ys,acc,d',m',I6,hDy,racc,(e1.w).trans eX,ok5,rs5,lp5⟩
 exact H0 loop (T.self _ 0 _ _ _ st2 loop)
end
end DL
namespace DL
open PySem PySem.Spec PyProof.Rows L2
section
variable {X:Cx}{tg iter tg2 iter2 elt:Expr}{ifs ifs2:List Expr}{scope:Scope}{NC:List Str}{fi fi2:DI}{g g2:DG}{t t2:DT}{f:DE}{pos:Pos}
theorem Vh(src:List (Option Nat))(hc:X.calm=true)(hi:PI X tg iter (LI X.K fi))
  (hg:∀ cl C s2 H2 pins fp,PG (aQ X scope cl C NC s2 H2 pins fp) tg (LG X.K g)) (ht:∀ cl C s2 H2 pins fp,PF (aQ X scope cl C NC s2 H2 pins fp) ifs (LT X.K t)) (hi2:∀ cl C s2 H2 pins fp,PI (aQ X scope cl C NC s2 H2 pins fp) tg2 iter2 (LI X.K fi2)) (hg2:∀ cl C s2 H2 pins fp,PG (aQ X scope cl C NC s2 H2 pins fp) tg2 (LG X.K g2)) (ht2:∀ cl C s2 H2 pins fp,PF (aQ X scope cl C NC s2 H2 pins fp) ifs2 (LT X.K t2))
  (he:∀ cl C s2 H2 pins fp,PE (aQ X scope cl C NC s2 H2 pins fp) elt (LE X.K f)) (hs2:∀ cl C x,foldedSetIterable iter2 (compEnvC scope cl C X.env) x=pure x)
  (hkind:scope.kind=.function) (hcell:∀ y∈scope.names,y.2≠.cell) (hnames:∀ y∈scope.names,y.2=.local->scope.names.lookup y.1=some .local)
  (hfree:∀ x,(x,NameKind.free)∈scope.names->X.env.kindOf x=some .cell\/X.env.kindOf x=some .free) (hsrc:lX X scope NC src)
  (hs:∀ x,foldedSetIterable iter X.env x=pure x) {use:Option (Value->Sem Unit)} {QQ:Value->Shared->Prop} {pos':Pos} {pins:List (Addr×Obj)} {s:Shared} {σ:L2.St} {H:Hp} {Z:Addr->Prop} {d:aT} {m:Mu} {RL:List PyData->Mu->Prop}
  (I:Inv X pins σ H s) (ok:Ok X.K Z m H) (rs:RS X.K Z m H d σ) (h:fi d m fun xs m1=>bX (gD g t fi2 (stepI g2 t2 f)) xs [] (bH src d) m1 (fun ps _ m2=>RL ps m2))
  (fin:∀ (s5:Shared) (C D:Addr) (H':Hp) (m':Mu) (ps:List PyData),RL ps m'->Ext X.K Z m H m' H'->Ok X.K Z m' H'->RD X.K Z m' H' (.dat (.list ps)) (.ref D)->(∃ mm,s5.heap.Ns C mm)->Inv X pins σ H' s5->Off X pins H' C ->
   compPost (model X.prog X.w) X.A X.xe use QQ (.ref D) C (.ok .next) s5) :
  wpAny (model X.prog X.w) X.A (comprehension (.ListComp elt [⟨tg,iter,ifs,0⟩,⟨tg2,iter2,ifs2,0⟩] scope pos) scope X.env pos' (newList []) false (eval iter X.env) use) QQ X.xe s:=by
 obtain⟨cl,hclos,hcl1,hcl2⟩:=zA (scope:=scope) (env:=X.env) fun x hx=>I.ok.has x (hfree x hx);refine wpAny_comprehension_free (use:=use) rfl hs hclos hkind hnames ?_;refine aI (hi pins s σ H (fun J H1=>∃ xs m1,Ext X.K Z m H m1 H1/\Ok X.K Z m1 H1/\mM X.K Z m1 H1 xs J/\bX (gD g t fi2 (stepI g2 t2 f)) xs [] (bH src d) m1 (fun ps _ m2=>RL ps m2)) I
  ⟨Z,d,m,_,ok,rs,h,fun xs m1 H1 J q e1 ok1 y1=>⟨xs,m1,e1,ok1,y1,q⟩⟩) fun xv s₁ h₁=>aI h₁ fun itv s₂ h₂=>?_
 obtain⟨it,fp,tn,J,H2,eit,I2,T,st2,f2,xs,m1,e1,ok1,yl,lp⟩:=h₂;subst eit;refine wpAny_newObj_type (wpAny_newFunctionEnv hcell (by intro y hy;simp at hy) (fun h₁ hns₁ hsb₁=>?_) hkind)
 dsimp only at hns₁ hsb₁ ⊢
 generalize hH2:s₂.heap.push {cls:=.type "list",dict:=none,data:=.seq ([]:List Value).toArray}=HP at hns₁ hsb₁ ⊢
 have hC:HP.objs.size=s₂.heap.objs.size+1:=by rw[<- hH2,Heap.size_push]
 have leC:s₂.heap.objs.size<=HP.objs.size:=by rw[hC];exact Nat.le_succ _
 have old:∀ b o,s₂.heap.get? b=some o->h₁.get? b=some o:=fun b o e=>hsb₁.extBut b o (Nat.ne_of_lt (Nat.lt_of_lt_of_le (Heap.lt_size e) leC)) (Heap.get?_push_of_some _ (hH2▸Heap.get?_push_of_some _ e))
 have hacc:h₁.get? s₂.heap.objs.size=some {cls:=.type "list",data:=.seq ([]:List Value).toArray}:=hsb₁.extBut _ _ (by rw[hC];exact Nat.ne_of_lt (Nat.lt_succ_self _)) (Heap.get?_push_of_some _ (hH2▸Heap.get?_push_size _ rfl))
 have hD:H2 s₂.heap.objs.size=none:=I2.hok.fresh (Nat.le_refl _)
 have hkD:X.K.lookup s₂.heap.objs.size=none:=by
  cases e:X.K.lookup s₂.heap.objs.size with
  | none=>rfl
  | some o=>exact absurd (Heap.lt_size (I2.kIn _ o e)) (Nat.lt_irrefl _)
 have obf:∀ b∈fp,∃ o,s₂.heap.get? b=some o/\∀ v,o.data≠.cell v:=T.obj 0 _ st2
 have hσ:∀ (i:Nat) (x:Str) (v:V),NC[i]?=some x->(bH src σ)[i]?=some (some v)->iQ (relabel scope X.env) x->((relabel scope X.env).names.lookup x=some .cell\/(relabel scope X.env).names.lookup x=some .free)/\(X.env.kindOf x=some .cell\/X.env.kindOf x=some .free)/\∃ j:Nat,X.N[j]?=some x/\σ[j]?=some (some v):=fun i x v h1 h2 _=>by
  obtain⟨j,q1,q2⟩:=Ct h2;obtain⟨a1,a2,a3⟩:=hsrc.2 i x j h1 q1;exact⟨a3,hfree x a2,j,a1,q2⟩
 have I4:=fun tk=>Ld (cl:=cl) (NC:=NC) (σ':=bH src σ) (tk:=tk) I2 f2 obf hkind hcell hcl1 hcl2 (by unfold bH;rw[List.length_map];exact hsrc.1.symm) hσ hC hns₁ old hacc
 have st4:tn 0 h₁:=T.keep 0 _ _ st2 fun b _ o e=>old b o e
 -- the loop
 have loop:∀ s₃:Shared,s₃={s₂ with heap:=h₁,toks:=s₂.toks+([]:List (Str×Value)).length} ->
   codeAny (model X.prog X.w) X.A (.compLoop (.ListComp elt [⟨tg,iter,ifs,0⟩,⟨tg2,iter2,ifs2,0⟩] scope pos) 0 (.ref it) (.ref s₂.heap.objs.size) (compEnvC scope cl HP.objs.size X.env))
    (compPost (model X.prog X.w) X.A X.xe use QQ (.ref s₂.heap.objs.size) HP.objs.size) s₃:=by
  rintro s₃ rfl;refine A6 (hs:=fun x=>hs2 _ _ x) (fun n s'=>∃ (i:Nat) (ys:List V) (acc:List PyData) (d':aT) (m':Mu) (σ':L2.St) (H':Hp),n=xs.length-i/\i<=xs.length/\Inv (aQ X scope cl HP.objs.size NC s₂ H2 pins fp) [] σ' H' s'/\tn i s'.heap/\(∀ b∈fp,H' b=none) /\
   H' s₂.heap.objs.size=some (.lst ys)/\RPs X.K (aG Z s₂.heap.objs.size) m' H' acc ys/\Ext X.K Z m1 H2 m' H'/\Ok X.K (aG Z s₂.heap.objs.size) m' H'/\RS X.K (aG Z s₂.heap.objs.size) m' H' d' σ' /\
   bX (gD g t fi2 (stepI g2 t2 f)) (xs.drop i) acc d' m' (fun ps _ m2=>RL ps m2)) ?_ xs.length ?_
  rotate_left
  ·have rs1:RS X.K Z m1 H2 (bH src d) (bH src σ):=Av src (rs.ext e1)
   refine⟨0,[],[],bH src d,m1,bH src σ,_,by simp,Nat.zero_le _,I4 _,st4,fun b hb=>?_,bQ,by simp[RPs],ok1.ext (bT hD),Jz ok1 hD hkD,⟨rs1.1,fun i x hx=>?_⟩,by simpa using lp⟩
   ·obtain⟨o,ho,_⟩:=obf b hb;rw[aV (Nat.ne_of_lt (Heap.lt_size ho))];exact(f2 b hb).1
   ·obtain⟨v,q1,q2⟩:=rs1.2 i x hx;exact⟨v,q1,Jv hD hkD q2⟩
  rintro n s4 ⟨i,ys,acc,d',m',σ',H',rfl,hi',I5,st5,fr5,hDy,racc,eX,ok5,rs5,lp5⟩;have stat:∀ b∈fp,cS (aQ X scope cl HP.objs.size NC s₂ H2 pins fp) [] H' b:=fun b hb=>by
   obtain⟨g0,g1,g2,g3,g4,g5⟩:=f2 b hb;obtain⟨o,ho,_⟩:=obf b hb;refine⟨fr5 b hb,Nat.ne_of_lt (Nat.lt_of_lt_of_le (Heap.lt_size ho) leC),fun z=>?_,.inl hb,fun x c e=>g4 x c (hcl1 (x,c) (qT e)),fun p hp=>?_⟩
   ·rcases List.mem_cons.mp (I2.stkSub b z) with q | q
    ·exact g1 q
    ·exact g2 q
   ·rcases List.mem_append.mp hp with q | q
    ·exact g5 p q
    ·cases q
  obtain⟨y1,y2⟩:=yl m' H' eX.y
  by_cases hlt:i<xs.length
  ·rw[List.drop_eq_getElem_cons hlt]at lp5;obtain⟨go,yd⟩:=y1 i xs[i] (List.getElem?_eq_getElem hlt);refine aI (T.item (aQ X scope cl HP.objs.size NC s₂ H2 pins fp) rfl rfl rfl hc i [] s4 σ' H' (fun _ _=>False) I5 stat st5 go) fun r s5 hq0=>?_;obtain⟨u,hr,h5⟩:=hq0;subst hr;refine aI h5 fun _ s6 hq0=>?_;obtain⟨x,H6,I6,r6,yy,st6,fr6⟩:=hq0;have yy':=yd x H6 yy
   have e56:Ext X.K (aG Z s₂.heap.objs.size) m' H' m' H6:=ok5.ext yy'.same
   have rv:=yy'.rd (fun d v h=>Ab hD hkD eX h) ok5
   have hDy:=yy'.same _ _ hDy
   have racc:=RPs.ext e56 _ _ racc
   have eX:=jN eX hD hkD e56
   have rs5:=rs5.ext e56
   have ok5:=ok5.grow yy'.same
   have stat:∀ b∈fp,cS (aQ X scope cl HP.objs.size NC s₂ H2 pins fp) [] H6 b:=fun b hb=>⟨fr6 b hb,(stat b hb).2⟩
   have I6':=I6.pinned stat (T.obj _ _ st6)
   -- what stands when a turn is over
   have over:∀ {s7:Shared} {σ7:L2.St} {H7:Hp} {ys7:List V} {acc7:List PyData} {d7:aT} {m7:Mu},Inv (aQ X scope cl HP.objs.size NC s₂ H2 pins fp) ([]++kC fp s6.heap) σ7 H7 s7->H7 s₂.heap.objs.size=some (.lst ys7)->RPs X.K (aG Z s₂.heap.objs.size) m7 H7 acc7 ys7 ->
     Ext X.K Z m1 H2 m7 H7->Ok X.K (aG Z s₂.heap.objs.size) m7 H7->RS X.K (aG Z s₂.heap.objs.size) m7 H7 d7 σ7->(bX (gD g t fi2 (stepI g2 t2 f)) (xs.drop (i+1)) acc7 d7 m7 (fun ps _ m2=>RL ps m2)) ->
     ∃ n,n<xs.length-i/\∃ (i:Nat) (ys:List V) (acc:List PyData) (d':aT) (m':Mu) (σ':L2.St) (H':Hp),n=xs.length-i/\i<=xs.length/\Inv (aQ X scope cl HP.objs.size NC s₂ H2 pins fp) [] σ' H' s7/\tn i s7.heap/\(∀ b∈fp,H' b=none) /\
      H' s₂.heap.objs.size=some (.lst ys)/\RPs X.K (aG Z s₂.heap.objs.size) m' H' acc ys/\Ext X.K Z m1 H2 m' H'/\Ok X.K (aG Z s₂.heap.objs.size) m' H'/\RS X.K (aG Z s₂.heap.objs.size) m' H' d' σ' /\
      bX (gD g t fi2 (stepI g2 t2 f)) (xs.drop i) acc d' m' (fun ps _ m2=>RL ps m2):=by
    intro s7 σ7 H7 ys7 acc7 d7 m7 I7 a1 a2 a3 a4 a5 a6;refine⟨xs.length-(i+1),by omega,i+1,ys7,acc7,d7,m7,σ7,H7,rfl,hlt,I7.unpinned,T.keep _ _ _ st6 fun b hb o e=>(I7.pin (b,o) (List.mem_append_right _ (List.mem_append_right _ (hU hb e)))).1,fun b hb=>?_,a1,a2,a3,a4,a5,a6⟩
    obtain⟨o,e,dd⟩:=T.obj _ _ st6 b hb;exact(I7.pin (b,o) (List.mem_append_right _ (List.mem_append_right _ (hU hb e)))).2.1
   refine aI (hg cl _ s₂ H2 pins fp _ s6 σ' _ x u (fun σ7 H7=>∃ d7 m7,Ext X.K (aG Z s₂.heap.objs.size) m' H6 m7 H7/\Ok X.K (aG Z s₂.heap.objs.size) m7 H7/\RS X.K (aG Z s₂.heap.objs.size) m7 H7 d7 σ7 /\
    t d7 m7 fun b m2=>if b=true then fi2 d7 m2 fun zs m3=>bX (stepI g2 t2 f) zs acc d7 m3 (fun acc' d' m'=>bX (gD g t fi2 (stepI g2 t2 f)) (xs.drop (i+1)) acc' d' m' (fun ps _ m2=>RL ps m2)) else bX (gD g t fi2 (stepI g2 t2 f)) (xs.drop (i+1)) acc d7 m2 (fun ps _ m2=>RL ps m2)) I6' r6
    ⟨_,xs[i],d',m',_,ok5,rs5,rv,lp5,fun d7 m7 σ7 H7 q7 e7 ok7 rs7=>⟨d7,m7,e7,ok7,rs7,q7⟩⟩) fun _ s7 hq0=>?_
   obtain⟨σ7,H7,I7,d7,m7,e7,ok7,rs7,q7⟩:=hq0;refine aI (ht cl _ s₂ H2 pins fp _ s7 σ7 H7 (fun b H8=>∃ m8,Ext X.K (aG Z s₂.heap.objs.size) m7 H7 m8 H8/\Ok X.K (aG Z s₂.heap.objs.size) m8 H8 /\
    if b=true then fi2 d7 m8 fun zs m3=>bX (stepI g2 t2 f) zs acc d7 m3 (fun acc' d' m'=>bX (gD g t fi2 (stepI g2 t2 f)) (xs.drop (i+1)) acc' d' m' (fun ps _ m2=>RL ps m2)) else bX (gD g t fi2 (stepI g2 t2 f)) (xs.drop (i+1)) acc d7 m8 (fun ps _ m2=>RL ps m2)) I7
    ⟨_,d7,m7,_,ok7,rs7,q7,fun b m8 H8 q8 e8 ok8=>⟨m8,e8,ok8,q8⟩⟩) fun b s8 hq0=>?_
   obtain⟨H8,I8,m8,e8,ok8,q8⟩:=hq0;have e68:=e7.trans e8
   have hD8:H8 s₂.heap.objs.size=some (.lst ys):=(e68.z _ (.inr rfl)).trans hDy
   cases b with
   | false =>
    rw[if_neg Bool.false_ne_true]at q8;exact over I8 hD8 (RPs.ext e68 _ _ racc) (jN eX hD hkD e68) ok8 (rs7.ext e8) q8
   | true =>
    rw[if_pos rfl]at q8;rw[if_pos rfl];have nz:¬ Z s₂.heap.objs.size:=fun z=>(ok1.z _ z).2 hD
    have ic:=Ue (Y:=aQ X scope cl HP.objs.size NC s₂ H2 pins fp) (tg:=tg) (iter:=iter) (ifs:=ifs) (scope:=scope) (pos:=pos) hc (fun _ _ z=>z) (hi2 cl _ s₂ H2 pins fp) (hg2 cl _ s₂ H2 pins fp) (ht2 cl _ s₂ H2 pins fp) (he cl _ s₂ H2 pins fp) I8 nz hD8 (RPs.ext e68 _ _ racc) ok8 (rs7.ext e8) q8
    refine aI ic fun xv9 s9 h9=>aI h9 fun it9 s10 h10=>codeAny_mono h10 ?_;rintro r s11 ⟨hr,σ',H',ys',acc',d',m',I11,hD11,racc11,e11,ok11,rs11,q11⟩;exact⟨hr,over I11 hD11 racc11 (E9 (jN eX hD hkD e68) hD hkD e11) ok11 rs11 q11⟩
  ·have e:i=xs.length:=by omega
   subst e;rw[List.drop_length]at lp5;refine aI (T.done (aQ X scope cl HP.objs.size NC s₂ H2 pins fp) rfl rfl rfl hc _ [] s4 σ' H' (fun _ _=>False) I5 stat st5 y2) fun r s5 hq0=>?_;obtain⟨hr,I6⟩:=hq0;subst hr;have IX:=yT I2 f2 I6 leC (Heap.SameBut.refl _ _)
   have nz:¬ Z s₂.heap.objs.size:=fun z=>(ok1.z _ z).2 hD
   refine fin s5 HP.objs.size s₂.heap.objs.size H' m' acc lp5 (e1.trans eX) (zO ok5) ?_ ⟨_,I6.loc.choose_spec.1⟩ IX ⟨I6.free,Nat.ne_of_gt (Nat.lt_of_lt_of_le I2.lt leC),Nat.le_trans I2.sz leC,fun x c e=>?_,fun p hp=>?_⟩
   ·simp only[RD,RP];exact⟨_,ys,rfl,⟨(ok5.z _ (.inr rfl)).1,nz⟩,.inl (.inl hDy),RPs.tr (fun _ _ q=>q) (fun a vs q1 q2=>⟨⟨q1.1,fun z=>q1.2 (.inl z)⟩,q2⟩) _ _ racc⟩
   ·obtain⟨v,q⟩:=I2.cell x c e;exact Nat.ne_of_lt (Nat.lt_of_lt_of_le q.lt leC)
   ·exact Nat.ne_of_lt (Nat.lt_of_lt_of_le (Heap.lt_size (I2.pin p hp).1) leC)
 exact codeAny_compStart_list (loop _ rfl) (T.self _ 0 _ _ _ st4 (loop _ rfl))
theorem Sb(src:List (Option Nat))(hc:X.calm=true)(hi:PI X tg iter (LI X.K fi))
  (hg:∀ cl C s2 H2 pins fp,PG (aQ X scope cl C NC s2 H2 pins fp) tg (LG X.K g)) (ht:∀ cl C s2 H2 pins fp,PF (aQ X scope cl C NC s2 H2 pins fp) ifs (LT X.K t)) (hi2:∀ cl C s2 H2 pins fp,PI (aQ X scope cl C NC s2 H2 pins fp) tg2 iter2 (LI X.K fi2)) (hg2:∀ cl C s2 H2 pins fp,PG (aQ X scope cl C NC s2 H2 pins fp) tg2 (LG X.K g2)) (ht2:∀ cl C s2 H2 pins fp,PF (aQ X scope cl C NC s2 H2 pins fp) ifs2 (LT X.K t2))
  (he:∀ cl C s2 H2 pins fp,PE (aQ X scope cl C NC s2 H2 pins fp) elt (LE X.K f)) (hs2:∀ cl C x,foldedSetIterable iter2 (compEnvC scope cl C X.env) x=pure x)
  (hkind:scope.kind=.function) (hcell:∀ y∈scope.names,y.2≠.cell) (hnames:∀ y∈scope.names,y.2=.local->scope.names.lookup y.1=some .local)
  (hfree:∀ x,(x,NameKind.free)∈scope.names->X.env.kindOf x=some .cell\/X.env.kindOf x=some .free) (hsrc:lX X scope NC src)
  (hs:∀ x,foldedSetIterable iter X.env x=pure x:=by intro _;rfl) :
  PE X (.ListComp elt [⟨tg,iter,ifs,0⟩,⟨tg2,iter2,ifs2,0⟩] scope pos) (LE X.K (rK src fi g t fi2 g2 t2 f)):=by
 intro pins s σ H Q I h;obtain⟨Z,d,m,R,ok,rs,h,k⟩:=h;rw[eval_ListComp];refine Vh src hc hi hg ht hi2 hg2 ht2 he hs2 hkind hcell hnames hfree hsrc hs (use:=none) (QQ:=EP X pins σ Q) (RL:=fun ps m2=>R (.dat (.list ps)) m2) I ok rs h ?_;intro s5 C D H' m' ps q e ok' rd ⟨mm,hns⟩ I5 off;exact⟨mm,hns,fun h' hs'=>⟨.ref D,H',off.inv I5 hs',rfl,k _ m' _ H' q e ok' rd⟩⟩
theorem AB(NC:List Str)(src:List (Option Nat))(hc:X.calm=true)(hi:PI X tg iter (LI X.K fi))
  (hg:∀ cl C s2 H2 pins fp,PG (aQ X scope cl C NC s2 H2 pins fp) tg (LG X.K g)) (ht:∀ cl C s2 H2 pins fp,PF (aQ X scope cl C NC s2 H2 pins fp) ifs (LT X.K t))
  (hi2:∀ cl C s2 H2 pins fp,PI (aQ X scope cl C NC s2 H2 pins fp) tg2 iter2 (LI X.K fi2)) (hg2:∀ cl C s2 H2 pins fp,PG (aQ X scope cl C NC s2 H2 pins fp) tg2 (LG X.K g2)) (ht2:∀ cl C s2 H2 pins fp,PF (aQ X scope cl C NC s2 H2 pins fp) ifs2 (LT X.K t2))
  (he:∀ cl C s2 H2 pins fp,PE (aQ X scope cl C NC s2 H2 pins fp) elt (LE X.K f))
  (hkind:scope.kind=.function:=by rfl) (hB:chkB scope X.env=true:=by rfl) (hS:chkS X.N scope X.env NC src=true:=by rfl)
  (hs2:∀ cl C x,foldedSetIterable iter2 (compEnvC scope cl C X.env) x=pure x:=by intro _ _ _;rfl)
  (hs:∀ x,foldedSetIterable iter X.env x=pure x:=by intro _;rfl):PE X (.ListComp elt [⟨tg,iter,ifs,0⟩,⟨tg2,iter2,ifs2,0⟩] scope pos) (LE X.K (rK src fi g t fi2 g2 t2 f)) :=
 Sb (NC:=NC) src hc hi hg ht hi2 hg2 ht2 he hs2 hkind (chkB.ok hB).1 (chkB.ok hB).2.1 (chkB.ok hB).2.2 (chkS.ok hS) hs
end
end DL
namespace DL
open PySem PySem.Spec PyProof.Rows L2
section
variable {prog:Program}{w:World}{A:Around}{E:Value->Shared->Prop}{s:Shared}
theorem nK{it tq:Addr}{i:Nat}{its:Array Value}{x:Value}{Q:Value->Shared->Prop}(hit:s.heap.IsTupleIter it tq i)(ht:s.heap.IsTuple tq its)(hx:its[i]?=some x)
  (hQ:∀ h',h'.IsTupleIter it tq (i+1)->Heap.SameBut it s.heap h'->Q x {s with heap:=h'}):wpAny (model prog w) A (Builtin.SmallTypes.nextOf (.ref it)) Q E s:=by
 obtain⟨o,ho,hc,hd⟩:=id hit;obtain⟨ol,hol,_,nl,hdl⟩:=ht;unfold Builtin.SmallTypes.nextOf;refine wpAny_bind (wpAny_callSpecial?_slot (name:=Str.ofString "__next__") hit.typeIs F.slot_tuple_iterator_next (wpAny_call_entry F.slot_tuple_iterator_next hit.typeIs F.entry_tuple_iterator_next ?_ (F.args_tuple_iterator_next_1 _)));show wpAny _ _ (field (.ref it) 0>>=_) _ _ _;refine wpAny_bind (wpAny_field ho hd (x:=.ref tq) rfl ?_)
 show wpAny _ _ (if (Value.ref tq==Value.none)=true then _ else _) _ _ s
 rw[if_neg (show ¬ ((Value.ref tq==Value.none)=true) from Bool.false_ne_true)]
 show wpAny _ _ (field (.ref it) 1>>=_) _ _ _;refine wpAny_bind (wpAny_field ho hd (x:=.int i 0) rfl ?_)
 show wpAny _ _ (seqItems? (.ref tq)>>=_) _ _ s
 refine wpAny_bind (wpAny_seqItems hol hdl ?_);simp only[Int.toNat_natCast,hx];refine wpAny_bind (wpAny_setField ho hd (by simp) (wpAny_pure ⟨_,rfl,wpAny_pure (hQ _ ?_ (Heap.SameBut.update ..))⟩))
 refine⟨_,Heap.get?_update_self _ ho (Obj.isFreed_of_fields (Obj.data_mapFields hd _)),(Obj.cls_mapFields ..).trans hc,?_⟩;rw[Obj.data_mapFields hd]<;>simp[rawInt]
theorem xJ{it tq:Addr}{i:Nat}{its:Array Value}{Q:Value->Shared->Prop}(hh:A.handled=none)(hit:s.heap.IsTupleIter it tq i)(ht:s.heap.IsTuple tq its)(hx:its[i]?=none)
  (hE:∀ h' e,Heap.ExtBut it s.heap h'->(∃ o,h'.get? e=some o/\o.cls=.type "StopIteration")->E (.ref e) {s with heap:=h'}):wpAny (model prog w) A (Builtin.SmallTypes.nextOf (.ref it)) Q E s:=by
 obtain⟨o,ho,hc,hd⟩:=id hit;obtain⟨ol,hol,_,nl,hdl⟩:=ht;unfold Builtin.SmallTypes.nextOf;refine wpAny_bind (wpAny_callSpecial?_slot (name:=Str.ofString "__next__") hit.typeIs F.slot_tuple_iterator_next (wpAny_call_entry F.slot_tuple_iterator_next hit.typeIs F.entry_tuple_iterator_next ?_ (F.args_tuple_iterator_next_1 _)));show wpAny _ _ (field (.ref it) 0>>=_) _ _ _;refine wpAny_bind (wpAny_field ho hd (x:=.ref tq) rfl ?_)
 show wpAny _ _ (if (Value.ref tq==Value.none)=true then _ else _) _ _ s
 rw[if_neg (show ¬ ((Value.ref tq==Value.none)=true) from Bool.false_ne_true)]
 show wpAny _ _ (field (.ref it) 1>>=_) _ _ _;refine wpAny_bind (wpAny_field ho hd (x:=.int i 0) rfl ?_)
 show wpAny _ _ (seqItems? (.ref tq)>>=_) _ _ s
 refine wpAny_bind (wpAny_seqItems hol hdl ?_);simp only[Int.toNat_natCast,hx];refine wpAny_bind (wpAny_rule (wpAny_bind (wpAny_setField ho hd (by simp) ?_)));show wpAny _ _ (newExc (.type "StopIteration") []>>=_) _ _ _
 refine wpAny_bind ?_;simp only[newExc,newTuple];refine wpAny_bind (wpAny_newObj_type ?_ (by size_fits))
 refine wpAny_bind (m:=firstArgMember _ _) (wpAny_of_eq (a:=Value.none) (by first | rfl | (simp only[firstArgMember];rfl)) ?_);refine wpAny_newObj_type ?_ (by size_fits)
 simp only[raiseNew];refine wpAny_bind (wpAny_handled ?_)
 (first | rw[show A.in1.handled=none from hh] | rw[hh]);refine wpAny_bind (wpAny_pure (wpAny_throw ?_))
 exact hE _ _ (((Heap.SameBut.update ..).extBut.push _).push _) ⟨_,Heap.get?_push_size _ rfl,rfl⟩
structure Zst (h:Heap) (z TI TO i1 i2 t1 t2:Addr) (f0:Value) (k:Nat):Prop where
 z:IsZip h z TI TO f0
 ti:IsPair h TI (.ref i1) (.ref i2)
 to:∃ a b,IsPair h TO a b
 a:h.IsTupleIter i1 t1 k
 b:h.IsTupleIter i2 t2 k
theorem j9{z TI TO i1 i2 t1 t2:Addr}{k:Nat}{xs ys:Array Value}{x y:Value}{Q:Value->Shared->Prop}(D:ZipApart z TI TO i1 i2 t1 t2)(S:Zst s.heap z TI TO i1 i2 t1 t2 .none k)
  (g1:s.heap.IsTuple t1 xs) (g2:s.heap.IsTuple t2 ys) (hx:xs[k]?=some x) (hy:ys[k]?=some y)
  (hQ:∀ h',Zst h' z TI TO i1 i2 t1 t2 (rawInt s.heap.objs.size) (k+1)->IsPair h' s.heap.objs.size x y ->
   (∀ c o,c≠z->c≠TO->c≠i1->c≠i2->s.heap.get? c=some o->h'.get? c=some o)->Q (.ref s.heap.objs.size) {s with heap:=h'}) :
  wpAny (model prog w) A (Builtin.«zip.__next__» ⟨[.ref z],[]⟩) (fun fin s'=>∃ v,fin=.done (.ret v)/\Q v s') E s:=by
 obtain⟨hz,hTI,⟨a,b,hTO⟩,h1,h2⟩:=S;show wpAny _ _ (field (.ref z) 2>>=_) _ _ _;refine wpAny_bind (wpAny_field hz rfl (x:=.bool false) rfl ?_)
 show wpAny _ _ (field (.ref z) 3>>=_) _ _ _;refine wpAny_bind (wpAny_field hz rfl (x:=.ref TI) rfl (wpAny_bind (wpAny_seqItems hTI rfl ?_)))
 show wpAny _ _ (Builtin.SmallTypes.ownedTupleIsFree (.ref z)>>=_) _ _ _;refine wpAny_bind ?_
 unfold Builtin.SmallTypes.ownedTupleIsFree;refine wpAny_bind (wpAny_field hz rfl (x:=.none) rfl (wpAny_pure ?_));simp only[if_true];refine wpAny_bind (wpAny_rule (wpAny_bind (wpAny_field hz rfl (x:=.ref TO) rfl ?_)));refine wpAny_bind (wpAny_setField_rec hz (by simp) fun n1 z1 c1=>?_);replace z1:IsZip n1 z TI TO .ellipsis:=z1
 refine wpAny_bind ?_;simp only[List.zipIdx_cons,List.zipIdx_nil,List.forIn_cons,List.forIn_nil];refine wpAny_bind (wpAny_bind (wpAny_onRaise ?_));show wpAny _ _ (Builtin.SmallTypes.nextOf (.ref i1)>>=_) _ _ _
 refine wpAny_bind (nK (h1.at fun o e=>c1.extBut _ o D.i1z e) (g1.extBut c1.extBut D.l1z) hx fun n2 b2 c2=>wpAny_pure ?_);have p2:IsPair n2 TO a b:=c2.extBut _ _ D.TOi1 (c1.extBut _ _ D.TOz hTO)
 refine wpAny_bind (wpAny_seqItems p2 rfl (wpAny_bind (wpAny_updateSeq_pair p2 fun n3 p3 c3=>?_)));replace p3:IsPair n3 TO x b:=p3;refine wpAny_bind (wpAny_letGo (wpAny_pure (wpAny_bind (wpAny_bind (wpAny_onRaise ?_)))));show wpAny _ _ (Builtin.SmallTypes.nextOf (.ref i2)>>=_) _ _ _
 have up3:∀ c o,c≠z->c≠TO->c≠i1->s.heap.get? c=some o->n3.get? c=some o:=fun c o q1 q2 q3 e=>c3.extBut _ _ q2 (c2.extBut _ _ q3 (c1.extBut _ _ q1 e))
 have g23:n3.IsTuple t2 ys:=by
  obtain⟨o,ho,r⟩:=g2;exact⟨o,up3 _ _ D.l2z D.l2TO D.l2i1 ho,r⟩
 refine wpAny_bind (nK (h2.at fun o e=>up3 _ o D.i2z D.TOi2.symm D.i12.symm e) g23 hy fun n4 b4 c4=>wpAny_pure ?_);have p4:IsPair n4 TO x b:=c4.extBut _ _ D.TOi2 p3
 refine wpAny_bind (wpAny_seqItems p4 rfl (wpAny_bind (wpAny_updateSeq_pair p4 fun n5 p5 c5=>?_)));replace p5:IsPair n5 TO x y:=p5;refine wpAny_bind (wpAny_letGo (wpAny_pure (wpAny_pure (wpAny_bind (wpAny_seqItems p5 rfl (wpAny_bind (wpAny_newTuple ?_)))))));have size5:n5.objs.size=s.heap.objs.size:=by rw[c5.1,c4.1,c3.1,c2.1,c1.1]
 have z5:IsZip n5 z TI TO .ellipsis:=c5.extBut _ _ D.TOz.symm (c4.extBut _ _ D.i2z.symm (c3.extBut _ _ D.TOz.symm (c2.extBut _ _ D.i1z.symm z1)))
 have up5:∀ c o,c≠z->c≠TO->c≠i1->c≠i2->s.heap.get? c=some o->n5.get? c=some o:=fun c o q1 q2 q3 q4 e=>c5.extBut _ _ q2 (c4.extBut _ _ q4 (up3 c o q1 q2 q3 e))
 have a5:n5.IsTupleIter i1 t1 (k+1):=b2.at fun o e=>c5.extBut _ _ D.TOi1.symm (c4.extBut _ _ D.i12 (c3.extBut _ _ D.TOi1.symm e))
 have b5:n5.IsTupleIter i2 t2 (k+1):=b4.at fun o e=>c5.extBut _ _ D.TOi2.symm e
 have zlt:z<n5.objs.size:=Heap.lt_size z5
 show wpAny _ _ (Builtin.SmallTypes.ownedTupleHandOut (.ref z) (.ref n5.objs.size)>>=_) _ _ _;refine wpAny_bind ?_
 unfold Builtin.SmallTypes.ownedTupleHandOut;have z6:IsZip (n5.push {cls:=.type "tuple",data:=.seq #[x,y]}) z TI TO .ellipsis:=Heap.get?_push_of_some _ z5
 refine wpAny_bind (wpAny_setField_rec z6 (by simp) fun n7 z7 c7=>?_);replace z7:IsZip n7 z TI TO (rawInt n5.objs.size):=z7
 refine wpAny_setField_rec z7 (by simp) fun n8 z8 c8=>?_;replace z8:IsZip n8 z TI TO (rawInt n5.objs.size):=z8
 have up8:∀ c o,c≠z->n5.get? c=some o->n8.get? c=some o:=fun c o q e=>c8.extBut _ _ q (c7.extBut _ _ q (Heap.get?_push_of_some _ e))
 have new8:IsPair n8 n5.objs.size x y:=c8.extBut _ _ (Nat.ne_of_gt zlt) (c7.extBut _ _ (Nat.ne_of_gt zlt) (Heap.get?_push_size _ rfl))
 rw[size5]at z8 new8;refine wpAny_pure ⟨_,rfl,?_⟩;show Q (.ref n5.objs.size) _
 rw[size5];exact hQ n8 ⟨z8,up8 _ _ D.TIz (up5 _ _ D.TIz D.TITO D.TIi1 D.TIi2 hTI),⟨x,y,up8 _ _ D.TOz p5⟩,a5.at fun o e=>up8 _ o D.i1z e,b5.at fun o e=>up8 _ o D.i2z e⟩ new8 fun c o q1 q2 q3 q4 e=>up8 c o q1 (up5 c o q1 q2 q3 q4 e)
theorem R3{z TI TO i1 i2 t1 t2:Addr}{k:Nat}{xs ys:Array Value}{Q:Fin->Shared->Prop}(hh:A.handled=none)(D:ZipApart z TI TO i1 i2 t1 t2)(S:Zst s.heap z TI TO i1 i2 t1 t2 .none k)
  (g1:s.heap.IsTuple t1 xs) (g2:s.heap.IsTuple t2 ys) (hend:xs[k]?=none\/ys[k]?=none)
  (hE:∀ h' e,(∀ c o,c≠z->c≠TO->c≠i1->c≠i2->s.heap.get? c=some o->h'.get? c=some o)->(∃ o,h'.get? e=some o/\o.cls=.type "StopIteration")->E (.ref e) {s with heap:=h'}) :
  wpAny (model prog w) A (Builtin.«zip.__next__» ⟨[.ref z],[]⟩) Q E s:=by
 obtain⟨hz,hTI,⟨a,b,hTO⟩,h1,h2⟩:=S;show wpAny _ _ (field (.ref z) 2>>=_) _ _ _;refine wpAny_bind (wpAny_field hz rfl (x:=.bool false) rfl ?_)
 show wpAny _ _ (field (.ref z) 3>>=_) _ _ _;refine wpAny_bind (wpAny_field hz rfl (x:=.ref TI) rfl (wpAny_bind (wpAny_seqItems hTI rfl ?_)))
 show wpAny _ _ (Builtin.SmallTypes.ownedTupleIsFree (.ref z)>>=_) _ _ _;refine wpAny_bind ?_
 unfold Builtin.SmallTypes.ownedTupleIsFree;refine wpAny_bind (wpAny_field hz rfl (x:=.none) rfl (wpAny_pure ?_));simp only[if_true];refine wpAny_bind (wpAny_rule (wpAny_bind (wpAny_field hz rfl (x:=.ref TO) rfl ?_)));refine wpAny_bind (wpAny_setField_rec hz (by simp) fun n1 z1 c1=>?_);replace z1:IsZip n1 z TI TO .ellipsis:=z1
 refine wpAny_bind ?_;simp only[List.zipIdx_cons,List.zipIdx_nil,List.forIn_cons,List.forIn_nil];refine wpAny_bind (wpAny_bind (wpAny_onRaise ?_));show wpAny _ _ (Builtin.SmallTypes.nextOf (.ref i1)>>=_) _ _ _
 have apart:∀ (n:Heap) (e:Addr) (oe:Obj),IsZip n z TI TO .ellipsis->n.get? e=some oe->oe.cls=.type "StopIteration"->e≠z:=fun n e oe q q1 q2 q3=>by
  subst q3;rw[q]at q1
  cases q1
  simp at q2
 cases hx:xs[k]? with
 | none =>
  refine wpAny_bind (xJ hh (h1.at fun o e=>c1.extBut _ o D.i1z e) (g1.extBut c1.extBut D.l1z) hx fun n2 e c2 he=>?_);obtain⟨oe,q1,q2⟩:=he;have z2:IsZip n2 z TI TO .ellipsis:=c2 _ _ D.i1z.symm z1
  exact wpAny_setField_rec z2 (by simp) fun n3 _ c3=>hE n3 e (fun c o r1 _ r3 _ q=>c3.extBut _ _ r1 (c2 _ _ r3 (c1.extBut _ _ r1 q))) ⟨oe,c3.extBut _ _ (apart _ _ _ z2 q1 q2) q1,q2⟩
 | some x =>
  have hy:ys[k]?=none:=by
   rcases hend with h | h
   ·rw[hx]at h;cases h
   ·exact h
  refine wpAny_bind (nK (h1.at fun o e=>c1.extBut _ o D.i1z e) (g1.extBut c1.extBut D.l1z) hx fun n2 b2 c2=>wpAny_pure ?_);have p2:IsPair n2 TO a b:=c2.extBut _ _ D.TOi1 (c1.extBut _ _ D.TOz hTO)
  refine wpAny_bind (wpAny_seqItems p2 rfl (wpAny_bind (wpAny_updateSeq_pair p2 fun n3 p3 c3=>?_)));refine wpAny_bind (wpAny_letGo (wpAny_pure (wpAny_bind (wpAny_bind (wpAny_onRaise ?_)))));show wpAny _ _ (Builtin.SmallTypes.nextOf (.ref i2)>>=_) _ _ _
  have up3:∀ c o,c≠z->c≠TO->c≠i1->s.heap.get? c=some o->n3.get? c=some o:=fun c o q1 q2 q3 e=>c3.extBut _ _ q2 (c2.extBut _ _ q3 (c1.extBut _ _ q1 e))
  have g23:n3.IsTuple t2 ys:=by
   obtain⟨o,ho,r⟩:=g2;exact⟨o,up3 _ _ D.l2z D.l2TO D.l2i1 ho,r⟩
  refine wpAny_bind (xJ hh (h2.at fun o e=>up3 _ o D.i2z D.TOi2.symm D.i12.symm e) g23 hy fun n4 e c4 he=>?_);obtain⟨oe,q1,q2⟩:=he;have z4:IsZip n4 z TI TO .ellipsis:=c4 _ _ D.i2z.symm (c3.extBut _ _ D.TOz.symm (c2.extBut _ _ D.i1z.symm z1))
  exact wpAny_setField_rec z4 (by simp) fun n5 _ c5=>hE n5 e (fun c o r1 r2 r3 r4 q=>c5.extBut _ _ r1 (c4 _ _ r4 (up3 c o r1 r2 r3 q))) ⟨oe,c5.extBut _ _ (apart _ _ _ z4 q1 q2) q1,q2⟩
end
end DL
namespace DL
open PySem PySem.Spec PyProof.Rows L2
section
variable {X:Cx}{pins:List (Addr×Obj)}{σ:L2.St}{H:Hp}{s:Shared}{h':Heap}
theorem nQ{t':Nat}{ch:List Addr}(I:Inv X pins σ H s)(k:∀ b o,b∉ch->s.heap.get? b=some o->h'.get? b=some o)(hf:∀ b∈ch,cS X pins H b):Inv X pins σ H {s with heap:=h',toks:=t'}:=by
 have nit:∀ b u,H b=some u->b∉ch:=fun b u e z=>by rw[(hf b z).1]at e;cases e
 refine I.step (g':=s.gens) (d':=s.drawn) (ch:=ch) (fun b hb=>?_) (fun b o _ _ hc e _=>k b o hc e) (fun b o _ _ hc e _=>⟨o.slots,k b o hc e⟩) (fun _ _ _ _ n=>n) (fun b o hc e=>⟨o,k b o hc e⟩) (fun _ _ e=>e) (fun _ _ _ e=>e) (fun b ps e=>⟨#[],by rw[e];simp⟩) (fun m hm=>?_) (fun b u e=>?_) I.bare
 ·obtain⟨_,f1,_,f3,f4,f5⟩:=hf b hb;exact⟨f3,f1,f4,f5⟩
 ·obtain⟨o,es,ep,ho,r⟩:=hm;exact⟨o,es,ep,k _ o (fun z=>(hf _ z).2.1 rfl) ho,r⟩
 ·refine(I.hok b u e).stay (fun c v hc q=>k c v ?_ q) (fun _ q=>q) (fun _ _ q=>q) fun _ _ _ q=>q;rcases hc with z | z
  ·rw[z];exact nit b u e
  ·exact nit c _ z
end
section
variable {prog:Program}{w:World}{A:Around}{E:Value->Shared->Prop}{s:Shared}
abbrev wI(h:Heap)(t1:Addr):Heap:=h.push {cls:=.type "tuple_iterator",data:=.fields #[.ref t1,.int 0 0]}
abbrev tW(h:Heap)(t1 t2:Addr):Heap:=(wI h t1).push {cls:=.type "tuple_iterator",data:=.fields #[.ref t2,.int 0 0]}
abbrev xM(h:Heap)(t1 t2:Addr):Heap:=(tW h t1 t2).push {cls:=.type "tuple",data:=.seq #[.ref h.objs.size,.ref (wI h t1).objs.size]}
abbrev xN(h:Heap)(t1 t2:Addr):Heap:=(xM h t1 t2).push {cls:=.type "tuple",data:=.seq #[.none,.none]}
abbrev oH(h:Heap)(t1 t2:Addr):Heap:=(xN h t1 t2).push {cls:=.type "zip",data:=.fields #[.none,.bool false,.bool false,.ref (tW h t1 t2).objs.size,.ref (xM h t1 t2).objs.size]}
theorem Je{h:Heap}{t:Addr}{xs:Array Value}(g:h.IsTuple t xs)(o:Obj):(h.push o).IsTuple t xs:=by
 obtain⟨u,hu,r⟩:=g;exact⟨u,Heap.get?_push_of_some _ hu,r⟩
theorem BF(t1 t2:Addr)(xs ys:Array Value):Meets (Builtin.«zip.__new__» ⟨[.type "zip",.ref t1,.ref t2],[]⟩) (fun _ R s=>s.heap.IsTuple t1 xs/\s.heap.IsTuple t2 ys /\
  R (.ok (.ret (.ref (xN s.heap t1 t2).objs.size))) {s with heap:=oH s.heap t1 t2}):=.of_wp fun prog w A R s hs=>by
 obtain⟨hp,g,d,tk,os⟩:=s;obtain⟨hl1,hl2,h⟩:=hs;have hsub:=sub_zip
 have u1:Heap.IsTuple (Shared.heap ⟨hp,g,d,tk,os⟩) t1 xs:=hl1
 have u2:Heap.IsTuple (Shared.heap ⟨hp.push {cls:=.type "tuple_iterator",data:=.fields #[.ref t1,.int 0 0]},g,d,tk,os⟩) t2 ys:=Je hl2 _
 wp_walk using wpAny_pyIter_tuple u1,wpAny_pyIter_tuple u2
 exact⟨_,rfl,h⟩
theorem Vi{t1 t2:Addr}{xs ys:Array Value}{Q:Value->Shared->Prop}(g1:s.heap.IsTuple t1 xs)(g2:s.heap.IsTuple t2 ys)
  (h:∀ h' n,n=s.heap.objs.size->Zst h' (n+4) (n+2) (n+3) n (n+1) t1 t2 .none 0->(∀ c o,s.heap.get? c=some o->h'.get? c=some o)->Q (.ref (n+4)) {s with heap:=h'}):wpAny (model prog w) A (call (.type "zip") [.ref t1,.ref t2]) Q E s:=by
 refine callType_new F.called_zip (by decide) (F.typeCall_zip_2 _ _) (F.newCall_zip_2 _ _) (fun obj=>F.args_object_init_3 obj _ _) F.entry_zip_new (BF t1 t2 xs ys) ⟨g1,g2,?_⟩
 have z1:(wI s.heap t1).objs.size=s.heap.objs.size+1:=Heap.size_push ..
 have z2:(tW s.heap t1 t2).objs.size=s.heap.objs.size+2:=by rw[Heap.size_push,z1]
 have z3:(xM s.heap t1 t2).objs.size=s.heap.objs.size+3:=by rw[Heap.size_push,z2]
 have z4:(xN s.heap t1 t2).objs.size=s.heap.objs.size+4:=by rw[Heap.size_push,z3]
 have a5:(oH s.heap t1 t2).get? (xN s.heap t1 t2).objs.size=some _:=Heap.get?_push_size _ rfl
 have a4:(oH s.heap t1 t2).get? (xM s.heap t1 t2).objs.size=some _:=Heap.get?_push_of_some _ (Heap.get?_push_size _ rfl)
 have a3:(oH s.heap t1 t2).get? (tW s.heap t1 t2).objs.size=some _:=Heap.get?_push_of_some _ (Heap.get?_push_of_some _ (Heap.get?_push_size _ rfl))
 have a2:(oH s.heap t1 t2).get? (wI s.heap t1).objs.size=some _:=Heap.get?_push_of_some _ (Heap.get?_push_of_some _ (Heap.get?_push_of_some _ (Heap.get?_push_size _ rfl)))
 have a1:(oH s.heap t1 t2).get? s.heap.objs.size=some _:=Heap.get?_push_of_some _ (Heap.get?_push_of_some _ (Heap.get?_push_of_some _ (Heap.get?_push_of_some _ (Heap.get?_push_size _ rfl))))
 show _/\_
 rw[z2,z3,z4]at a5;rw[z1,z2]at a3;rw[z3]at a4;rw[z1]at a2;rw[z4];exact⟨⟨_,a5,rfl⟩,h _ _ rfl ⟨a5,a3,⟨_,_,a4⟩,⟨_,a1,rfl,rfl⟩,⟨_,a2,rfl,rfl⟩⟩ fun c o x=>Heap.get?_push_of_some _ (Heap.get?_push_of_some _ (Heap.get?_push_of_some _ (Heap.get?_push_of_some _ (Heap.get?_push_of_some _ x))))⟩
end
def Tk(K:PySem.W.Frag)(t1 t2:Addr)(n:Nat):It :=
 ⟨fun i H=>i<n/\∃ xs ys,SqT K H t1 xs/\SqT K H t2 ys/\n=min xs.length ys.length,fun i H v H'=>∃ p x y,v=.ref p/\H p=none/\H'=aE H p (.tup [x,y])/\∀ xs ys,SqT K H t1 xs->SqT K H t2 ys->xs[i]?=some x/\ys[i]?=some y,
  fun i H=>i=n/\∃ xs ys,SqT K H t1 xs/\SqT K H t2 ys/\n=min xs.length ys.length⟩
theorem Wy{P:Program}{w:World}{K:PySem.W.Frag}{elts:List Expr}{j:Nat}{pos:Pos}{z TI TO i1 i2 t1 t2:Addr}{n:Nat}(D:ZipApart z TI TO i1 i2 t1 t2) :
  Turn P w K (.Tuple elts j pos) (Tk K t1 t2 n) [z,TI,TO,i1,i2] z (fun i h=>Zst h z TI TO i1 i2 t1 t2 .none i) where
 mem:=by simp
 obj:=fun i h st b hb=>by
  obtain⟨h1,h2,⟨a,c,h3⟩,⟨o4,e4,_,d4⟩,⟨o5,e5,_,d5⟩⟩:=st;simp only[List.mem_cons,List.not_mem_nil,or_false]at hb;rcases hb with rfl | rfl | rfl | rfl | rfl
  ·exact⟨_,h1,fun v q=>nomatch q⟩
  ·exact⟨_,h2,fun v q=>nomatch q⟩
  ·exact⟨_,h3,fun v q=>nomatch q⟩
  ·exact⟨_,e4,fun v q=>by rw[d4]at q;cases q⟩
  ·exact⟨_,e5,fun v q=>by rw[d5]at q;cases q⟩
 keep:=fun i h h' st k=>by
  obtain⟨h1,h2,⟨a,c,h3⟩,h4,h5⟩:=st;exact⟨k z (by simp) _ h1,k TI (by simp) _ h2,⟨a,c,k TO (by simp) _ h3⟩,h4.at fun o e=>k i1 (by simp) o e,h5.at fun o e=>k i2 (by simp) o e⟩
 item:=by
  intro X hP hw hK hc i pins s σ H E I hf st hg;subst hP hw hK;obtain⟨hi,xs,ys,q1,q2,hn⟩:=hg;obtain⟨its1,r1,p1,l1⟩:=I.tuple q1;obtain⟨its2,r2,p2,l2⟩:=I.tuple q2;have e1:xs[i]?=some (xs[i]'(by omega)):=List.getElem?_eq_getElem (by omega)
  have e2:ys[i]?=some (ys[i]'(by omega)):=List.getElem?_eq_getElem (by omega)
  obtain⟨u1,hu1,ru1⟩:=r1.get e1;obtain⟨u2,hu2,ru2⟩:=r2.get e2;have hT:s.TypeIs (.ref z) "zip":=⟨_,st.z,rfl⟩
  have hp:H s.heap.objs.size=none:=I.hok.fresh (Nat.le_refl _)
  unfold pyNext;refine wpAny_bind (wpAny_attempt (wpAny_callSpecial?_slot (name:=Str.ofString "__next__") hT F.slot_zip_next (wpAny_call_entry F.slot_zip_next hT F.entry_zip_next (j9 D st (show s.heap.IsTuple t1 its1.toArray from p1) (show s.heap.IsTuple t2 its2.toArray from p2) (by simpa using hu1) (by simpa using hu2) fun h' st' np k=>wpAny_pure ?_) (F.args_zip_next_1 _))))
  refine⟨_,rfl,?_⟩;refine wpAny_letOwnedTupleGo_zip (s:={s with heap:=h'}) st'.z fun h2 z2 c2=>?_;have I1:Inv X pins σ (aE H s.heap.objs.size (.tup [_,_])) {s with heap:=s.heap.push {cls:=.type "tuple",data:=.seq #[u1,u2]}} :=
   I.laid (t':=s.toks) (fun b o e=>Heap.get?_push_of_some _ e) (Nat.le_refl _) (show ObjOk X.prog X.w _ _ _ (.tup [_,_]) from⟨⟨by show 2<=sizeLine;rw[sizeLine_eq];decide,NoD.new _ _ _⟩,[u1,u2],.cons ru1 (.cons ru2 .nil),IsTup.new _ _⟩)
  have lt:∀ {c o},s.heap.get? c=some o->c≠s.heap.objs.size:=fun e=>Nat.ne_of_lt (Heap.lt_size e)
  have zne:s.heap.objs.size≠z:=fun e=>lt st.z e.symm
  have hf':∀ b∈[z,TI,TO,i1,i2],cS X pins (aE H s.heap.objs.size (.tup [xs[i]'(by omega),ys[i]'(by omega)])) b:=fun b hb=>by
   obtain⟨f0,f1,f2,f3,f4,f5⟩:=hf b hb;refine⟨?_,f1,f2,f3,f4,f5⟩;rw[aV]
   ·exact f0
   ·obtain⟨h1,h2,⟨a,c,h3⟩,⟨o4,e4,_⟩,⟨o5,e5,_⟩⟩:=st;simp only[List.mem_cons,List.not_mem_nil,or_false]at hb;rcases hb with rfl | rfl | rfl | rfl | rfl
    ·exact lt h1
    ·exact lt h2
    ·exact lt h3
    ·exact lt e4
    ·exact lt e5
  have kk:∀ b o,b∉[z,TI,TO,i1,i2]->(s.heap.push {cls:=.type "tuple",data:=.seq #[u1,u2]}).get? b=some o->h2.get? b=some o:=fun b o hb e=>by
   simp only[List.mem_cons,List.not_mem_nil,or_false,not_or]at hb;obtain⟨n1,n2,n3,n4,n5⟩:=hb;refine c2.extBut _ _ n1 ?_;rcases Heap.get?_push_cases e with⟨rfl,rfl⟩ | e
   ·exact np
   ·exact k b o n1 n3 n4 n5 e
  have I2:=nQ (s:={s with heap:=s.heap.push {cls:=.type "tuple",data:=.seq #[u1,u2]}}) (h':=h2) (t':=s.toks) (ch:=[z,TI,TO,i1,i2]) I1 kk hf'
  refine⟨.ref s.heap.objs.size,aE H s.heap.objs.size (.tup [xs[i]'(by omega),ys[i]'(by omega)]),I2,rfl,⟨_,_,_,rfl,hp,rfl,fun xs' ys' g1 g2=>?_⟩,?_,fun b hb=>(hf' b hb).1⟩
  ·rw[I.tuple_inj g1 q1,I.tuple_inj g2 q2];exact⟨e1,e2⟩
  ·obtain⟨h1,h2',⟨a,c,h3⟩,h4,h5⟩:=st';exact⟨z2,c2.extBut _ _ D.TIz h2',⟨a,c,c2.extBut _ _ D.TOz h3⟩,h4.at fun o e=>c2.extBut _ _ D.i1z e,h5.at fun o e=>c2.extBut _ _ D.i2z e⟩
 done:=by
  intro X hP hw hK hc i pins s σ H E I hf st hg;subst hP hw hK;obtain⟨hi,xs,ys,q1,q2,hn⟩:=hg;obtain⟨its1,r1,p1,l1⟩:=I.tuple q1;obtain⟨its2,r2,p2,l2⟩:=I.tuple q2;have m1:=r1.length
  have m2:=r2.length
  have hT:s.TypeIs (.ref z) "zip":=⟨_,st.z,rfl⟩
  unfold pyNext;refine wpAny_bind (wpAny_attempt (wpAny_callSpecial?_slot (name:=Str.ofString "__next__") hT F.slot_zip_next (wpAny_call_entry F.slot_zip_next hT F.entry_zip_next (R3 (I.ok.hd hc) D st (show s.heap.IsTuple t1 its1.toArray from p1) (show s.heap.IsTuple t2 its2.toArray from p2) ?_ fun h' e k he=>?_) (F.args_zip_next_1 _))))
  ·by_cases c:xs.length<=ys.length
   ·left
    simp;omega
   ·right
    simp;omega
  ·obtain⟨o,ho,hce⟩:=he;refine wpAny_bind (wpAny_isInstance (T:="StopIteration") (b:=true) ⟨o,ho,hce⟩ isSubtype_stop ?_);refine wpAny_pure ⟨rfl,nQ (t':=s.toks) (ch:=[z,TI,TO,i1,i2]) I (fun b o hb e=>?_) hf⟩;simp only[List.mem_cons,List.not_mem_nil,or_false,not_or]at hb;exact k b o hb.1 hb.2.2.1 hb.2.2.2.1 hb.2.2.2.2 e
 self:=fun _ _ _ _ _ st h=>wpAny_pyIter_zip st.z h
theorem Cy(n a1 a2:Nat)(h1:a1<n)(h2:a2<n):ZipApart (n+4) (n+2) (n+3) n (n+1) a1 a2:=by
 constructor<;>exact fun e=>absurd (show(_:Nat)=_ from e) (by omega)
theorem Ex:bootBuiltins "zip"=some (.type "zip"):=by decide +kernel
@[simp] def xP(f g:DE):DI:=fun d m Q=>f d m fun x m1=>g d m1 fun y m2=>∃ ps qs,x=.dat (.tuple ps)/\y=.dat (.tuple qs)/\Q ((ps.zip qs).map fun z=>.dat (.tuple [z.1,z.2])) m2
section
variable {X:Cx}{a b:Expr}{elts:List Expr}{j:Nat}{f g:DE}{pos p p2:Pos}
theorem t8(hg:Gl X "zip")(hm:X.mg "zip"=none)(ha:PE X a (LE X.K f))(hb:PE X b (LE X.K g))(hs:starEach [a,b] X.env=[(false,eval a X.env),(false,eval b X.env)]:=by rfl)(hs2:starEach [b] X.env=[(false,eval b X.env)]:=by rfl) :
  PI X (.Tuple elts j p2) (.Call (.Name "zip" p) [a,b] [] pos) (LI X.K (xP f g)):=by
 intro pins s σ H R I h;obtain⟨Z,d,m,ZZ,ok,rs,h,k⟩:=h;have hA:=lC (X:=X) ha (lC hb wM (by rw[hs2];rfl)) (by rw[hs,hs2]) pos pins s σ H (fun vs H1=>∃ a1 a2 xs ys ps qs m1,vs=[.ref a1,.ref a2]/\SqT X.K H1 a1 xs/\SqT X.K H1 a2 ys/\RPs X.K Z m1 H1 ps xs/\RPs X.K Z m1 H1 qs ys /\
   ZZ ((ps.zip qs).map fun z=>.dat (.tuple [z.1,z.2])) m1/\Ext X.K Z m H m1 H1/\Ok X.K Z m1 H1) I ⟨Z,d,m,fun ds m1=>match ds with | [x,y]=>∃ ps qs,x=.dat (.tuple ps)/\y=.dat (.tuple qs)/\ZZ ((ps.zip qs).map fun z=>.dat (.tuple [z.1,z.2])) m1 | _=>False,ok,rs,h,fun xs m1 vs H1 q e1 ok1 rd=>?_⟩
 ·refine Call_ (kW I hg hm Ex (PyProof.Rows.callWith_type1 (aI hA fun us s1 ⟨vs,H1,I1,r1,q1⟩=>?_) (by rw[hs,hs2]) (by rw[hs2];rfl)))
  obtain⟨a1,a2,xs,ys,ps,qs,m1,e,h1,h2,rp,rq,q,e1,ok1⟩:=q1;subst e;obtain⟨u1,u2,rfl,ru1,ru2⟩:=xY r1
  cases ru1
  cases ru2
  obtain⟨its1,rv1,pt1,l1⟩:=I1.tuple h1;obtain⟨its2,rv2,pt2,l2⟩:=I1.tuple h2;refine Vi (show s1.heap.IsTuple a1 its1.toArray from pt1) (show s1.heap.IsTuple a2 its2.toArray from pt2) fun h' n hn st kp=>?_
  have D:ZipApart (n+4) (n+2) (n+3) n (n+1) a1 a2:=Cy n a1 a2 (by obtain⟨o,ho,_⟩:=pt1;rw[hn];exact Heap.lt_size ho) (by obtain⟨o,ho,_⟩:=pt2;rw[hn];exact Heap.lt_size ho)
  refine wpAny_pyIter_zip (s:={s1 with heap:=h'}) st.z ?_;refine⟨n+4,[n+4,n+2,n+3,n,n+1],_,_,H1,rfl,I1.kept (t':=s1.toks) kp,Wy (n:=min xs.length ys.length) D,st,fun c hc=>?_,k _ m1 H1 _ q e1 ok1 ?_⟩
  ·have hle:s1.heap.objs.size<=c:=by
    simp only[List.mem_cons,List.not_mem_nil,or_false]at hc;subst hn;rcases hc with rfl | rfl | rfl | rfl | rfl
    ·exact Nat.le_add_right _ 4
    ·exact Nat.le_add_right _ 2
    ·exact Nat.le_add_right _ 3
    ·exact Nat.le_refl _
    ·exact Nat.le_add_right _ 1
   exact I1.fpOk hle (I1.hok.fresh hle)
  ·intro m2 H2 e2;have q1:=e2.t a1 xs h1
   have q2:=e2.t a2 ys h2
   have lp:=rp.length
   have lq:=rq.length
   refine⟨fun i x hx=>?_,?_,xs,ys,q1,q2,rfl⟩
   ·rw[List.getElem?_map]at hx
    cases ez:(ps.zip qs)[i]? with
    | none=>rw[ez]at hx;cases hx
    | some z =>
     rw[ez]at hx
     cases hx
     obtain⟨z1,z2⟩:=z;obtain⟨ea,eb⟩:=List.getElem?_zip_eq_some.mp ez;obtain⟨v1,hv1,rv1'⟩:=rp.get ea;obtain⟨v2,hv2,rv2'⟩:=rq.get eb;have b1:=(List.getElem?_eq_some_iff.mp hv1).1
     have b2:=(List.getElem?_eq_some_iff.mp hv2).1
     refine⟨⟨by omega,xs,ys,q1,q2,rfl⟩,fun v H3 ⟨pp,x',y',ev,hp,eH,al⟩=>?_⟩
     obtain⟨w1,w2⟩:=al xs ys q1 q2;rw[hv1]at w1;rw[hv2]at w2
     cases w1
     cases w2
     refine .inr ⟨pp,[z1,z2],[_,_],rfl,ev,hp,eH,?_⟩;simp only[RPs];exact⟨_,_,rfl,rv1',_,_,rfl,rv2',rfl⟩
   ·show((ps.zip qs).map _).length=min xs.length ys.length
    rw[List.length_map,List.length_zip,lp,lq]
 ·match xs,q,rd with
  | [],q,_=>exact q.elim
  | [_],q,_=>exact q.elim
  | _::_::_::_,q,_=>exact q.elim
  | [x,y],q,rd =>
  obtain⟨ps,qs,rfl,rfl,q⟩:=q;obtain⟨v,w,rfl,g1,g2⟩:=rd.two;simp only[RD,RP]at g1 g2;obtain⟨a1,xs,rfl,h1,h2⟩:=g1;obtain⟨a2,ys,rfl,h3,h4⟩:=g2;exact⟨a1,a2,xs,ys,ps,qs,m1,rfl,h1,h3,h2,h4,q,e1,ok1⟩
end
end DL
namespace DL
open PySem PySem.Spec PyProof.Rows L2
section
variable {X:Cx}{a e o:Expr}{es:List Expr}{f g:DE}{ga:DA}{pos p p1 p2:Pos}
theorem V3:bootBuiltins "sorted"=some (.builtin "sorted"):=by decide +kernel
theorem i7:bootBuiltins "all"=some (.builtin "all"):=by decide +kernel
@[simp] def wN:DC
 | [.dat (.list ps)],m,Q=>∃ bs:List Bool,ps=bs.map .bool/\Q (.dat (.bool (bs.all id))) m
 | _,_,_=>False
theorem On{K:PySem.W.Frag}{Z:Addr->Prop}{m:Mu}{H:Hp}:∀ {bs:List Bool} {vs:List V},RPs K Z m H (bs.map PyData.bool) vs->vs=bs.map V.bl
 | [],vs,h=>by simpa[RPs] using h
 | z::zs,vs,h=>by
  simp only[List.map_cons,RPs]at h;obtain⟨v,r,rfl,h1,h2⟩:=h;simp only[RP]at h1;subst h1;rw[On h2];rfl
theorem Mz:∀ {bs:List Bool} {us:List Value},Vals (bs.map V.bl) us->us=bs.map Value.bool
 | [],_,.nil=>rfl
 | b::bs,_,.cons r t=>by
  cases r
  rw[Mz t];rfl
theorem U1(bs:List Bool):(List.range bs.length).all (fun i=>(bs[i]?).getD true)=bs.all id:=by
 rw[Bool.eq_iff_iff,List.all_eq_true,List.all_eq_true]
 constructor
 ·intro h b hb;obtain⟨i,hi,rfl⟩:=List.mem_iff_getElem.mp hb;have:=h i (List.mem_range.mpr hi)
  simpa[List.getElem?_eq_getElem hi] using this
 ·intro h i hi;have hi':=List.mem_range.mp hi
  rw[List.getElem?_eq_getElem hi'];exact h _ (List.getElem_mem hi')
theorem Pt(hc:X.calm=true):CallD X (.builtin "all") wN:=by
 intro pins s σ H Z m xs ds us R Q I ok rv rd h k;unfold wN at h
 split at h
 ·obtain⟨v,rfl,r1⟩:=rd.one;obtain⟨bs,rfl,hh⟩:=h;simp only[RD,RP]at r1;obtain⟨a,vs,rfl,_,h1,h2⟩:=r1
  cases On h2
  obtain⟨u,rfl,ru⟩:=jL rv
  cases ru
  obtain⟨its,r',pl,hz⟩:=I.list h1
  cases Mz r'
  have ne:a≠s.heap.objs.size:=by
   obtain⟨o,ho,_⟩:=pl.isList;exact Nat.ne_of_lt (Heap.lt_size ho)
  refine call_all_walk (wpAny_pyIter_list pl.isList ?_);refine⟨s.heap.objs.size,_,_,_,_,_,fun i=>(bs[i]?).getD true,rfl,Walks.list (A:=X.A.in1) (show X.A.in1.handled=none from I.ok.hd hc) s.heap.objs.size a ne (bs.map Value.bool).toArray,⟨⟨_,Heap.get?_push_size _ rfl,rfl,rfl⟩,pl.isList.at fun o e=>Heap.get?_push_of_some _ e⟩,?_,?_⟩
  ·intro i v s' Q' E' hv hQ;have hv':(bs.map Value.bool)[i]?=some v:=by simpa using hv
   rw[List.getElem?_map]at hv'
   cases eb:bs[i]? with
   | none=>rw[eb]at hv';cases hv'
   | some b =>
    have hQ':Q' ((bs[i]?).getD true) s':=hQ
    rw[eb]at hv' hQ'
    cases hv'
    exact wpAny_truthy_bool hQ'
  ·intro h' tk kp;have e:((bs.map Value.bool).toArray.size)=bs.length:=by simp
   rw[e,U1];refine⟨.bl _,H,I.kept fun b o q=>kp b o ?_ (Heap.get?_push_of_some _ q),rfl,k _ m _ H hh Ext.refl ok .ofBl⟩;intro hb;have:b=s.heap.objs.size:=by simpa using hb
   exact absurd (Heap.lt_size q) (by rw[this];exact Nat.lt_irrefl _)
 ·exact h.elim
theorem y3(x:Str)(l u:Option (Int×Tok)):(slicePicked x l u none).length<=x.length:=by
 unfold slicePicked Builtin.Str.strSliceIndices sliceRange;simp only[List.length_map,List.length_range,Option.map_none,Option.getD_none];have h1:(1:Int) > 0:=by decide
 simp only[h1,if_true]
 cases l<;>cases u<;>simp only[Option.map_none,Option.map_some]<;>repeat' split<;>omega
theorem Ie{α β:Type}(f:α->Option β):∀ xs:List α,(xs.filterMap f).length<=xs.length
 | []=>Nat.le_refl _
 | x::xs=>by
  rw[List.filterMap_cons];have:=Ie f xs
  cases f x with
  | none=>exact Nat.le_succ_of_le this
  | some y=>exact Nat.succ_le_succ this
def i4:V->Option Int->Option Int->Hp->VK->Prop:=fun x lo hi H Q=>∃ z:Str,x=.str z/\z.length<=sizeLine/\∀ y:Str,y.length<=z.length->Q (.str y) H
theorem Ia{v:Value}{lo:Option Int}(h:IsPart v lo):∃ l,v=partValue l:=by
 cases h with
 | none=>exact⟨none,rfl⟩
 | int i t=>exact⟨some (i,t),rfl⟩
theorem M8:SlR X i4:=by
 intro pins s σ H x v vl vu lo hi sl Q I rx hs pl pu h;obtain⟨z,rfl,hz,q⟩:=h;obtain⟨t,rfl⟩:=rx;obtain⟨l,rfl⟩:=Ia pl;obtain⟨u,rfl⟩:=Ia pu;refine⟨"str",_,PySem.F.slot_str_getitem.lookup,typeIs_str s z t,?_⟩;refine wpAny_getItem_str_slice (l:=l) (u:=u) (st:=none) hs rfl ?_;unfold sliceMade
 split
 ·exact⟨.str z,H,I,⟨_,rfl⟩,q z (Nat.le_refl _)⟩
 ·have hl:(⟨((slicePicked z l u none).filterMap (z.cps[·]?)).toArray⟩:Str).length<=z.length:=by
   show((slicePicked z l u none).filterMap (z.cps[·]?)).toArray.size<=z.length
   rw[List.size_toArray];exact Nat.le_trans (Ie _ _) (y3 z l u)
  exact⟨Nat.le_trans hl hz,.str _,H,I.tok _,⟨_,rfl⟩,q _ hl⟩
@[simp] def fN(f:DE)(lo hi:DO):DE:=fun d m Q=>f d m fun x m1=>lo d m1 fun l m2=>hi d m2 fun u m3 =>
 (∃ xs,x=.dat (.tuple xs)/\Q (.dat (.tuple (gH xs l u))) m3)\/(∃ xs,x=.dat (.list xs)/\Q (.dat (.list (gH xs l u))) m3)\/(∃ z:Str,x=.dat (.str z)/\z.length<=sizeLine/\∀ y:Str,y.length<=z.length->Q (.dat (.str y)) m3)
theorem i6{lo hi:Option Expr}{tl th:DO}(ha:PE X a (LE X.K f))(hl:PO X lo (LO X.K tl))(hu:PO X hi (LO X.K th)):PE X (.Subscript a (.Slice lo hi none p2) pos) (LE X.K (fN f tl th)) :=
 PE.imp (Qs (J1.or (J2.or (Oz.or M8))) ha hl hu) fun s H Q h=>by
  obtain⟨Z,d,m,R,ok,rs,h,k⟩:=h;refine⟨Z,d,m,_,ok,rs,h,fun x m1 v H1 q e1 ok1 rx=>⟨Z,d,m1,_,ok1,rs.ext e1,q,fun l m2 H2 q2 e2 ok2=>⟨Z,d,m2,_,ok2,(rs.ext e1).ext e2,q2,fun u m3 H3 q3 e3 ok3=>?_⟩⟩⟩;have e13:=e1.trans (e2.trans e3)
  have rx3:=rx.ext (e2.trans e3)
  rcases q3 with⟨xs,rfl,q4⟩ | ⟨xs,rfl,q4⟩ | ⟨z,rfl,hz,q4⟩
  ·simp only[RD,RP]at rx3;obtain⟨a,vs,rfl,h1,h2⟩:=rx3
   by_cases hw:HT.sIx vs.length 0 l=0/\HT.sIx vs.length vs.length u=vs.length
   ·refine .inr (.inl ⟨a,vs,rfl,h1,hw,k _ m3 _ H3 q4 e13 ok3 ?_⟩);rw[h2.length]at hw;rw[p7 xs hw];simp only[RD,RP];exact⟨a,vs,rfl,h1,h2⟩
   ·refine .inl ⟨a,vs,rfl,h1,hw,fun p hp=>?_⟩;have sm:Same H3 (aE H3 p (.tup (iD vs l u))):=bT hp
    refine k _ m3 _ _ q4 (e13.trans (ok3.ext sm)) (ok3.grow sm) ?_;simp only[RD,RP];exact⟨p,_,rfl,.inl (.inl bQ),RPs.ext (ok3.ext sm) _ _ h2.cut⟩
  ·simp only[RD,RP]at rx3;obtain⟨a,vs,rfl,h0,h1,h2⟩:=rx3;refine .inr (.inr (.inl ⟨a,vs,rfl,h1,fun p hp=>?_⟩));have sm:Same H3 (aE H3 p (.lst (iD vs l u))):=bT hp
   refine k _ m3 _ _ q4 (e13.trans (ok3.ext sm)) (ok3.grow sm) ?_;simp only[RD,RP];exact⟨p,_,rfl,eU ok3 hp,.inl (.inl bQ),RPs.ext (ok3.ext sm) _ _ h2.cut⟩
  ·cases rx3.str
   exact .inr (.inr (.inr ⟨z,rfl,hz,fun y hy=>k _ m3 _ H3 (q4 y hy) e13 ok3 .ofStr⟩))
end
end DL
namespace DL
open PySem PySem.Spec PyProof.Rows L2
def cR{κ:Type}[DecidableEq κ](kvs:List (κ×PyData))(k:κ):Option PyData:=(kvs.find? fun kv=>decide (kv.1=k)).map (·.2)
def jT{κ:Type}[DecidableEq κ](kvs:List (κ×PyData))(k:κ)(p:PyData):List (κ×PyData) :=
 if (kvs.any fun kv=>decide (kv.1=k))=true then kvs.map (fun kv=>if kv.1=k then (kv.1,p) else kv) else kvs++[(k,p)]
section
variable {κ:Type}[DecidableEq κ]{K:PySem.W.Frag}{Z:Addr->Prop}{m:Mu}{H:Hp}
theorem RKV.length:∀ {kvs:List (κ×PyData)} {vs:List (κ×V)},RKV K Z m H kvs vs->vs.length=kvs.length
 | [],_,h=>by cases (show _=[] from h);rfl
 | _::_,_,⟨v,r,h1,_,h3⟩=>by subst h1;rw[List.length_cons,List.length_cons,RKV.length h3]
theorem RKV.val{k:κ}{p:PyData}:∀ {kvs:List (κ×PyData)} {vs:List (κ×V)},RKV K Z m H kvs vs->cR kvs k=some p->∃ v,bP vs k=some v/\RP K Z m H p v
 | [],_,_,e=>by simp[cR]at e
 | (j,q)::xs,_,⟨v,r,h1,h2,h3⟩,e=>by
  subst h1;unfold cR at e;unfold bP
  by_cases c:j=k
  ·simp[List.find?_cons,c]at e ⊢;exact e▸h2
  ·simp[List.find?_cons,c]at e ⊢;have:=RKV.val (k:=k) (p:=p) h3 (by unfold cR;simpa using e)
   unfold bP at this;simpa using this
theorem RKV.any{k:κ}:∀ {kvs:List (κ×PyData)} {vs:List (κ×V)},RKV K Z m H kvs vs->(vs.any fun kv=>decide (kv.1=k))=(kvs.any fun kv=>decide (kv.1=k))
 | [],_,h=>by cases (show _=[] from h);rfl
 | _::_,_,⟨v,r,h1,_,h3⟩=>by subst h1;rw[List.any_cons,List.any_cons,RKV.any h3]
theorem RKV.repl{k:κ}{p:PyData}{v:V}(hp:RP K Z m H p v):∀ {kvs:List (κ×PyData)} {vs:List (κ×V)},RKV K Z m H kvs vs->RKV K Z m H (kvs.map fun kv=>if kv.1=k then (kv.1,p) else kv) (vs.map fun kv=>if kv.1=k then (kv.1,v) else kv)
 | [],_,h=>by cases (show _=[] from h);exact(rfl:([]:List (κ×V))=[])
 | (j,q)::xs,_,⟨w,r,h1,h2,h3⟩=>by
  subst h1;rw[List.map_cons,List.map_cons]
  by_cases c:j=k
  ·rw[if_pos c,if_pos c];exact⟨v,_,rfl,hp,RKV.repl hp h3⟩
  ·rw[if_neg c,if_neg c];exact⟨w,_,rfl,h2,RKV.repl hp h3⟩
theorem RKV.snoc{k:κ}{p:PyData}{v:V}(hp:RP K Z m H p v):∀ {kvs:List (κ×PyData)} {vs:List (κ×V)},RKV K Z m H kvs vs->RKV K Z m H (kvs++[(k,p)]) (vs++[(k,v)])
 | [],_,h=>by cases (show _=[] from h);exact⟨v,[],rfl,hp,rfl⟩
 | _::_,_,⟨w,r,h1,h2,h3⟩=>by subst h1;exact⟨w,_,rfl,h2,RKV.snoc hp h3⟩
theorem RKV.put{k:κ}{p:PyData}{v:V}{kvs:List (κ×PyData)}{vs:List (κ×V)}(h:RKV K Z m H kvs vs)(hp:RP K Z m H p v):RKV K Z m H (jT kvs k p) (bS vs k v):=by
 unfold jT bS;rw[h.any]
 split
 ·exact h.repl hp
 ·exact h.snoc hp
end
@[simp] def kN:D->Option aJ
 | .dat (.str z)=>some (.inr z)
 | .dat (.int i)=>some (.inl i)
 | _=>none
theorem RD.key{K:PySem.W.Frag}{Z:Addr->Prop}{m:Mu}{H:Hp}{x:D}{v:V}{k:aJ}(h:RD K Z m H x v)(e:kN x=some k):v=kV k:=by
 unfold kN at e
 split at e
 ·cases e;cases h.str;rfl
 ·cases e;cases h.int;rfl
 ·cases e
section
variable {X:Cx}{o i e:Expr}{fo fi f:DE}{pos tpos:Pos}
@[simp] def Ah:DE:=fun _ m Q=>∀ a,m a=none->Q (.cel a) (bC m a (.d []))
theorem Yb:PE X (.Dict [] [] pos) (LE X.K Ah):=by
 intro pins s σ H Q I h;obtain⟨Z,d,m,R,ok,rs,h,k⟩:=h;have hp:H s.heap.objs.size=none:=I.hok.fresh (Nat.le_refl _)
 have hk:X.K.lookup s.heap.objs.size=none:=by
  cases e:X.K.lookup s.heap.objs.size with
  | none=>rfl
  | some o=>exact absurd (Heap.lt_size (I.kIn _ o e)) (Nat.lt_irrefl _)
 refine wpAny_Dict_empty ⟨.ref s.heap.objs.size,_,I.laid (a:=s.heap.objs.size) (o:=.dK []) (t':=s.toks) (fun _ _ q=>Heap.get?_push_of_some _ q) (Nat.le_refl _) (Ny s.heap I.big),rfl,?_⟩;exact k _ _ _ _ (h _ (eU ok hp).1) (Ext.cell ok hp hk) (ok.cell hp hk (show RKV _ _ _ _ _ _ from rfl)) ⟨rfl,by rw[bZ];rfl⟩
@[simp] def lU(fo fi f:DE):DS:=fun E d m=>f d m fun x m1=>fo d m1 fun o m2=>fi d m2 fun y m3=>∃ c k kvs p,o=.cel c/\kN y=some k/\x=.dat p/\m3 c=some (.d kvs)/\kvs.length<sizeLine/\E.nx d (bC m3 c (.d (jT kvs k p)))
theorem Rh(hu:X.A.units+100<cLine)(he:PE X e (LE X.K f))(ho:PE X o (LE X.K fo))(hi:PE X i (LE X.K fi))(hs:swapsWith e (some (.Subscript o i tpos)) pos.line X.env=pure false:=by rfl) :
  PS X (.Assign [.Subscript o i tpos] e pos) (LS X.K (lU fo fi f)):=PS.imp (BY (by omega) ho hi he hs) fun E s H h=>by
 obtain⟨Z,d,m,R,ok,rs,h,k,_⟩:=h;refine⟨Z,d,m,_,ok,rs,h,fun x m1 v H1 q e1 ok1 r1=>⟨Z,d,m1,_,ok1,rs.ext e1,q,fun o m2 w H2 q2 e2 ok2 r2=>⟨Z,d,m2,_,ok2,(rs.ext e1).ext e2,q2,fun y m3 z H3 q3 e3 ok3 r3=>?_⟩⟩⟩;obtain⟨c,ky,kvs,p,rfl,hk,rfl,hm,hl,q⟩:=q3
 cases r3.key hk
 obtain⟨rfl,_⟩:=r2.ext e3;obtain⟨vs,g1,g2⟩:=ok3.d hm;have r1':=r1.ext (e2.trans e3)
 refine⟨c,_,rfl,.inl ⟨vs,ky,g1,rfl,by rw[g2.length];exact hl,rfl⟩,?_⟩
 have e4:Ext X.K Z m3 H3 (bC m3 c (.d (jT kvs ky p))) (aE H3 c (.dK (bS vs ky v))):=Ext.put ok3 hm g1
 exact k d _ s _ q (e1.trans (e2.trans (e3.trans e4))) (ok3.put hm g1 (show RKV _ _ _ _ _ _ from g2.put r1')) ((rs.ext e1).ext (e2.trans (e3.trans e4)))
@[simp] def eF(fo fi:DE):DE:=fun d m Q=>fo d m fun o m1=>fi d m1 fun y m2=>∃ c k kvs p,o=.cel c/\kN y=some k/\m2 c=some (.d kvs)/\cR kvs k=some p/\Q (.dat p) m2
theorem BB(hu:X.A.units+100<cLine)(ho:PE X o (LE X.K fo))(hi:PE X i (LE X.K fi))(hs:kF i:=by exact fun _ _=>rfl):PE X (.Subscript o i pos) (LE X.K (eF fo fi)) :=
 PE.imp (S7 (by omega) ho hi hs) fun s H Q h=>by
  obtain⟨Z,d,m,R,ok,rs,h,k⟩:=h;refine⟨Z,d,m,_,ok,rs,h,fun o m1 v H1 q e1 ok1 r1=>⟨Z,d,m1,_,ok1,rs.ext e1,q,fun y m2 w H2 q2 e2 ok2 r2=>?_⟩⟩;obtain⟨c,ky,kvs,p,rfl,hk,hm,hv,q⟩:=q2
  cases r2.key hk
  obtain⟨rfl,_⟩:=r1.ext e2;obtain⟨vs,g1,g2⟩:=ok2.d hm;obtain⟨v,hv',rv⟩:=g2.val hv;exact⟨c,v,rfl,.inl ⟨vs,ky,.inl g1,rfl,hv'.symm⟩,k _ m2 _ H2 q (e1.trans e2) ok2 rv⟩
end
end DL
namespace DL
open PySem PySem.Spec PyProof.Rows L2
def KEnt(w:World):List DictEntry->List (Str×V)->Prop
 | [],[]=>True
 | e::es,(z,v)::kvs=>e.hash=PyData.keyHash w.params z/\(∃ t,e.key=.str z t)/\RelV v e.val/\KEnt w es kvs
 | _,_=>False
def KDt(K:PySem.W.Frag)(w:World)(a:Addr)(kvs:List (Str×V)):Prop :=
 ∃ (o:Obj) (es:Array DictEntry) (ep:Nat),K.lookup a=some o/\o.cls=.type "dict"/\o.dict=none/\o.slots=#[]/\o.data=.dict es ep/\KEnt w es.toList kvs/\(kvs.map (·.1)).Nodup/\(a==sysModules)=false
def KD(K:PySem.W.Frag)(w:World)(a:Addr)(kvs:List (Str×PyData)):Prop:=∃ vs:List (Str×V),KDt K w a vs/\∀ (Z:Addr->Prop) (m:Mu) (H:Hp),RKV K Z m H kvs vs
def kO{α:Type}(kvs:List (Str×α)):List (aJ×α):=kvs.map fun kv=>(.inr kv.1,kv.2)
theorem KEnt.out{P:Program}{w:World}:∀ {es:List DictEntry} {kvs:List (Str×V)},KEnt w es kvs->∃ vs:List (Str×Value),KV (kO kvs) (kO vs)/\Pairs (bM P w) es (kO vs)/\(∀ e∈es,∃ k,(bM P w).is k e.key=true/\e.hash=(bM P w).hash k)/\vs.map (·.1)=kvs.map (·.1)
 | [],[],_=>⟨[],.nil,.nil,by simp,rfl⟩
 | e::es,(z,v)::kvs,⟨h1,⟨t,h2⟩,h3,h4⟩=>by
  obtain⟨vs,q1,q2,q3,q4⟩:=KEnt.out (P:=P) h4;have hk:(bM P w).is (.inr z) e.key=true:=by
   rw[h2];exact decide_eq_true (rfl:z=z)
  refine⟨(z,e.val)::vs,.cons ⟨rfl,h3⟩ q1,.cons hk rfl q2,fun x hx=>?_,by simp[q4]⟩
  rcases List.mem_cons.mp hx with rfl | hx
  ·exact⟨_,hk,h1⟩
  ·exact q3 x hx
 | [],_::_,h=>h.elim
 | _::_,[],h=>h.elim
theorem KDt.dictOf{K:PySem.W.Frag}{P:Program}{w:World}{a:Addr}{kvs:List (Str×V)}{h:Heap}(q:KDt K w a kvs)(hK:K.In h):∃ vs:List (aJ×Value),KV (kO kvs) vs/\h.DictOf (bM P w) a vs:=by
 obtain⟨o,es,ep,h1,h2,h3,h4,h5,h6,h7,_⟩:=q;obtain⟨vs,q1,q2,q3,q4⟩:=KEnt.out (P:=P) h6;refine⟨_,q1,o,es,ep,hK _ _ h1,⟨h2,h3,h4⟩,h5,fun e he=>q3 e (by simpa using he),q2,?_⟩
 have e:(kO vs).map (·.1)=(kvs.map (·.1)).map Sum.inr:=by
  rw[<- q4];simp[kO,Function.comp_def]
 rw[e];exact List.Pairwise.map _ (fun a b hab h=>hab (Sum.inr.inj h)) h7
theorem Lf{z:Str}:∀ kvs:List (Str×V),bP (kO kvs) (.inr z)=bP kvs z
 | []=>rfl
 | (y,v)::kvs=>by
  have ih:=Lf (z:=z) kvs
  unfold bP kO at *
  by_cases c:y=z
  ·simp[List.find?_cons,c]
  ·simp only[List.map_cons,List.find?_cons,c,decide_false,Sum.inr.injEq];exact ih
theorem RKV.val_none{κ:Type}[DecidableEq κ]{K:PySem.W.Frag}{Z:Addr->Prop}{m:Mu}{H:Hp}{k:κ}:∀ {kvs:List (κ×PyData)} {vs:List (κ×V)},RKV K Z m H kvs vs->cR kvs k=none->bP vs k=none
 | [],_,h,_=>by cases (show _=[] from h);rfl
 | (j,q)::xs,_,⟨v,r,h1,h2,h3⟩,e=>by
  subst h1;unfold cR at e;unfold bP
  by_cases c:j=k
  ·simp[List.find?_cons,c]at e
  ·simp[List.find?_cons,c]at e ⊢;have:=RKV.val_none (k:=k) h3 (by unfold cR;simpa using e)
   unfold bP at this;simpa using this
theorem eT{K:PySem.W.Frag}{Z:Addr->Prop}{m:Mu}{H:Hp}{a:Addr}{is:List Int}(h:SqT K H a (is.map V.int)):RP K Z m H (.tuple (is.map PyData.int)) (.ref a):=by
 simp only[RP];exact⟨a,_,rfl,h,Bk is⟩
section
variable {X:Cx}{i e g:Expr}{fi f fg:DE}{p pos apos cpos:Pos}
@[simp] def iV(kvs:List (Str×PyData))(fi:DE):DE:=fun d m Q=>fi d m fun y m1=>∃ (z:Str) (q:PyData),y=.dat (.str z)/\cR kvs z=some q/\Q (.dat q) m1
theorem U3{x:Str}{c:Addr}{kvs:List (Str×PyData)}(hg:Gl X x)(hm:X.mg x=some (.ref c))(hk:KD X.K X.w c kvs)(hi:PE X i (LE X.K fi))(hd:(x==("__debug__" : Str))=false:=by decide)(hs:kF i:=by exact fun _ _=>rfl) :
  PE X (.Subscript (.Name x p) i pos) (LE X.K (iV kvs fi)):=by
 intro pins s σ H Q I h;obtain⟨Z,d,m,R,ok,rs,h,k⟩:=h;obtain⟨vs,kd,rk⟩:=hk;refine yF PySem.F.slot_dict_getitem.lookup hs (aI (wC (v:=.ref c) hg hm rfl hd pins s σ H (fun x H1=>x=.ref c/\H1=H) I ⟨rfl,rfl⟩) fun u s1 ⟨x,H1,I1,rx,ex,eH⟩=>?_);subst ex;subst eH;obtain rfl:u=Value.ref c:=rx;refine aI (hi pins s1 σ _ (fun v H2=>∃ (z:Str) (w:V),v=.str z/\bP vs z=some w/\Q w H2) I1 ⟨Z,d,m,_,ok,rs,h,fun y m1 v H1 ⟨z,q,ey,hv,hq⟩ e1 ok1 r1=>?_⟩) fun iv s2 ⟨y,H2,I2,ry,z,w,ey,hw,q2⟩=>?_
 ·subst ey
  cases r1.str
  obtain⟨w,hw,rw'⟩:=(rk Z m1 H1).val hv;exact⟨z,w,rfl,hw,k _ m1 _ H1 hq e1 ok1 rw'⟩
 ·subst ey;obtain⟨ws,rel,dd⟩:=kd.dictOf (P:=X.prog) I2.kIn;obtain⟨w',hw',rw'⟩:=RelO.some_of (v:=w) (o:=valueAt ws (.inr z)) (by rw[<- hw,<- Lf];exact rel.val _)
  exact⟨dd.typeIs,wpAny_getItem_of (nU (k:=.inr z) ry) dd.mapOf hw' ⟨w,H2,I2.tok _,rw',q2⟩⟩
end
end DL
namespace DL
open PySem PySem.Spec PyProof.Rows L2
section
variable {prog:Program}{w:World}{κ:Type}[DecidableEq κ]{knd:KeyKind prog w κ}{A:Around}{E:Value->Shared->Prop}{s:Shared}
def Mw(acc:List (κ×Value))(r:List (κ×Value)):List (κ×Value):=r.foldl (fun acc kv=>stored acc kv.1 kv.2) acc
end
end DL
namespace DL
open PySem PySem.Spec PyProof.Rows L2
@[simp] def sK:List D->Option (List aJ)
 | []=>some []
 | x::xs=>match kN x,sK xs with
  | some k,some ks=>some (k::ks)
  | _,_=>none
theorem RDs.keys{K:PySem.W.Frag}{Z:Addr->Prop}{m:Mu}{H:Hp}:∀ {xs:List D} {vs:List V} {ks:List aJ},RDs K Z m H xs vs->sK xs=some ks->vs=ks.map kV
 | [],vs,ks,h,e=>by
  cases e
  exact h
 | x::xs,vs,ks,h,e=>by
  obtain⟨v,r,rfl,h1,h2⟩:=h;unfold sK at e
  cases e1:kN x with
  | none=>rw[e1]at e;cases e
  | some k =>
   cases e2:sK xs with
   | none=>rw[e1,e2]at e;cases e
   | some ks' =>
    rw[e1,e2]at e
    cases e
    rw[h1.key e1,RDs.keys h2 e2];rfl
end DL
namespace DL
open PySem PySem.Spec PyProof.Rows L2
def Mq(acc:List (aJ×PyData))(r:List (aJ×PyData)):List (aJ×PyData):=r.foldl (fun acc kv=>jT acc kv.1 kv.2) acc
def Eo(acc:List (aJ×V))(r:List (aJ×V)):List (aJ×V):=r.foldl (fun acc kv=>bS acc kv.1 kv.2) acc
theorem RKV.puts{K:PySem.W.Frag}{Z:Addr->Prop}{m:Mu}{H:Hp}:∀ {r:List (aJ×PyData)} {ws:List (aJ×V)} {acc:List (aJ×PyData)} {aw:List (aJ×V)},RKV K Z m H acc aw->RKV K Z m H r ws->RKV K Z m H (Mq acc r) (Eo aw ws)
 | [],ws,acc,aw,ha,hr=>by
  cases (show ws=[] from hr)
  exact ha
 | (k,p)::r,vs,acc,aw,ha,h=>by
  obtain⟨v,ws,rfl,h1,h2⟩:=h;exact RKV.puts (r:=r) (ws:=ws) (acc:=jT acc k p) (aw:=bS aw k v) (ha.put h1) h2
theorem KV.puts{ws:List (aJ×V)}{xs:List (aJ×Value)}(t:KV ws xs):∀ {aw:List (aJ×V)} {ax:List (aJ×Value)},KV aw ax->KV (Eo aw ws) (Mw ax xs):=by
 unfold KV at t
 induction t with
 | nil=>exact fun ha=>ha
 | @cons p q ps qs h t ih =>
  intro aw ax ha;obtain⟨e,h⟩:=h;have:=ih (KV.put ha p.1 h)
  show KV (Eo (bS aw p.1 p.2) ps) (Mw (stored ax q.1 q.2) qs)
  rw[<- e];exact this
end DL
namespace DL
open PySem PySem.Spec PyProof.Rows L2
def KTEnt(K:PySem.W.Frag)(w:World):List DictEntry->List (List Str×Addr×V)->Prop
 | [],[]=>True
 | e::es,(zs,a,v)::xs=>e.hash=reduceHash (Builtin.Tuple.tupleHashOf (zs.map (PyData.keyHash w.params)))/\e.key=.ref a/\RelV v e.val/\KT K a zs/\KTEnt K w es xs
 | _,_=>False
def KTDt(K:PySem.W.Frag)(w:World)(c:Addr)(xs:List (List Str×Addr×V)):Prop :=
 ∃ (o:Obj) (es:Array DictEntry) (ep:Nat),K.lookup c=some o/\o.cls=.type "dict"/\o.dict=none/\o.slots=#[]/\o.data=.dict es ep/\KTEnt K w es.toList xs/\(xs.map (·.1)).Nodup/\(c==sysModules)=false
def uS(K:PySem.W.Frag)(w:World)(c:Addr)(kvs:List (List Str×PyData)):Prop:=∃ xs:List (List Str×Addr×V),KTDt K w c xs/\∀ (Z:Addr->Prop) (m:Mu) (H:Hp),RKV K Z m H kvs (xs.map fun x=>(x.1,x.2.2))
theorem Vt(zs:List Str):(zs.map (Sum.inr:Str->aJ)).map kV=zs.map V.str:=by
 rw[List.map_map];rfl
section
variable {X:Cx}{pins:List (Addr×Obj)}{σ:L2.St}{H:Hp}{s:Shared}
theorem Iq{a:Addr}{zs:List Str}(I:Inv X pins σ H s)(h:SqT X.K H a (zs.map V.str)):(tupleKind (bM X.prog X.w)).is s.heap (zs.map Sum.inr) a:=by
 obtain⟨its,r,⟨o,h1,h2,n,h3⟩,_⟩:=I.tuple h;rw[<- Vt]at r;exact⟨o,its.toArray,n,h1,h2,h3,by simpa using Dv r⟩
theorem KTEnt.out(I:Inv X pins σ H s):∀ {es:List DictEntry} {xs:List (List Str×Addr×V)},KTEnt X.K X.w es xs->∃ ys:List (List aJ×Addr×Value),es=ys.map (entryOfKey (tupleKind (bM X.prog X.w)))/\(∀ y∈ys,(tupleKind (bM X.prog X.w)).is s.heap y.1 y.2.1)/\ys.map (·.1)=xs.map (fun x=>x.1.map Sum.inr) /\
  ∀ zs:List Str,RelO (bP (xs.map fun x=>(x.1,x.2.2)) zs) ((atKey ys (zs.map Sum.inr)).map (·.2))
 | [],[],_=>⟨[],rfl,by simp,rfl,fun _=>True.intro⟩
 | e::es,(zs,a,v)::xs,⟨h1,h2,h3,h4,h5⟩=>by
  obtain⟨ys,q1,q2,q3,q4⟩:=KTEnt.out I h5;refine⟨(zs.map Sum.inr,a,e.val)::ys,?_,fun y hy=>?_,by simp[q3],fun z=>?_⟩
  ·rw[List.map_cons,<- q1]
   congr 1
   obtain⟨eh,ek,ev⟩:=e;simp only at h1 h2;subst h1 h2;unfold entryOfKey
   congr 1
   show _=reduceHash (Builtin.Tuple.tupleHashOf ((zs.map Sum.inr).map (bM X.prog X.w).hash))
   rw[List.map_map];rfl
  ·rcases List.mem_cons.mp hy with rfl | hy
   ·exact Iq I h4.sq
   ·exact q2 y hy
  ·by_cases c:zs=z
   ·subst c;unfold bP atKey;simp only[List.map_cons,List.find?_cons,decide_true,Option.map_some];exact h3
   ·have c':¬ zs.map (Sum.inr:Str->aJ)=z.map Sum.inr:=fun h=>c ((List.map_inj_right (fun _ _ q=>Sum.inr.inj q)).mp h)
    have:=q4 z
    unfold bP atKey at this ⊢;simp only[List.map_cons,List.find?_cons,decide_eq_false c,decide_eq_false c'];exact this
 | [],_::_,h=>h.elim
 | _::_,[],h=>h.elim
theorem KTDt.out{c:Addr}{xs:List (List Str×Addr×V)}(I:Inv X pins σ H s)(q:KTDt X.K X.w c xs):(c==sysModules)=false/\∃ ys:List (List aJ×Addr×Value),s.heap.DictOfH (tupleKind (bM X.prog X.w)) c ys /\
  ∀ zs:List Str,RelO (bP (xs.map fun x=>(x.1,x.2.2)) zs) ((atKey ys (zs.map Sum.inr)).map (·.2)):=by
 obtain⟨o,es,ep,h1,h2,h3,h4,h5,h6,h7,h8⟩:=q;obtain⟨ys,q1,q2,q3,q4⟩:=KTEnt.out I h6;refine⟨h8,ys,⟨o,es,ep,I.kIn _ _ h1,⟨h2,h3,h4⟩,h5,q1,q2,?_⟩,q4⟩;rw[q3];have e:xs.map (fun x=>x.1.map (Sum.inr:Str->aJ))=(xs.map (·.1)).map (fun z=>z.map Sum.inr):=by simp
 rw[e];exact List.Pairwise.map _ (fun a b hab h=>hab ((List.map_inj_right (fun _ _ q=>Sum.inr.inj q)).mp h)) h7
end
theorem KT.rp{K:PySem.W.Frag}{a:Addr}{zs:List Str}{Z:Addr->Prop}{m:Mu}{H:Hp}(h:KT K a zs):RP K Z m H (.tuple (zs.map PyData.str)) (.ref a):=by
 simp only[RP];exact⟨a,_,rfl,h.sq,Ef zs⟩
section
variable {X:Cx}{e g:Expr}{fi fg:DE}{p apos cpos:Pos}
@[simp] def vF(kvs:List (List Str×PyData))(fi fg:DE):DE:=fun d m Q=>fi d m fun y m1=>∃ zs:List Str,y=.dat (.tuple (zs.map .str))/\fg d m1 fun x m2=>Q (match cR kvs zs with | some q=>.dat q | none=>x) m2
theorem Rr{x:Str}{c:Addr}{kvs:List (List Str×PyData)}(hu:X.A.units+100<cLine)(hg:Gl X x)(hm:X.mg x=some (.ref c))(hk:uS X.K X.w c kvs)(he:PE X e (LE X.K fi))(hf:PE X g (LE X.K fg))(hd:(x==("__debug__" : Str))=false:=by decide)
  (hbase:attributeBase (.Name x p) "get" X.env (eval (.Name x p) X.env)=eval (.Name x p) X.env:=by rfl)
  (hfew:((backTo cpos (starEach [e,g] X.env)).all (fun x=>!x.1)&&(backToKw cpos (keywordEach [] X.env)).all (fun x=>x.1.isSome)&&decide (([e,g]:List Expr).length+([]:List Keyword).length+(if ([]:List Keyword).isEmpty then 0 else 1)<30))=true:=by rfl)
  (hline:(apos.endLine==cpos.line)=true:=by rfl) (hs:backTo cpos (starEach [e,g] X.env)=[(false,eval e X.env),(false,eval g X.env)]:=by rfl) :
  PE X (.Call (.Attribute (.Name x p) "get" apos) [e,g] [] cpos) (LE X.K (vF kvs fi fg)):=by
 intro pins s σ H Q I h;obtain⟨Z,d,m,R,ok,rs,h,k⟩:=h;obtain⟨xs,kd,rk⟩:=hk;refine wpAny_Call_method hbase hfew hline PySem.F.plainAttrs_dict PySem.F.slot_dict_get PySem.F.type_dict_get (aI (wC (v:=.ref c) hg hm rfl hd pins s σ H (fun x H1=>x=.ref c/\H1=H) I ⟨rfl,rfl⟩) fun u s1 ⟨x,H1,I1,rx,ex,eH⟩=>?_);subst ex;subst eH;obtain rfl:u=Value.ref c:=rx;obtain⟨_,ws1,dd1,_⟩:=kd.out I1;refine⟨dd1.typeIs,fun b q=>?_,?_⟩
 ·cases q
  obtain⟨ob,_,_,h1,h2,_⟩:=dd1;exact⟨ob,h1,h2.2.1⟩
 rw[hs];refine Calls.callWith_builtin rfl (Calls.evalArgs_plain (Calls.spliced_cons (aI (he pins s1 σ _ (fun v H2=>∃ (zs:List Str) (b:Addr),v=.ref b/\LE X.K fg σ H2 fun v2 H3=>SqT X.K H3 b (zs.map V.str)/\Q ((bP (xs.map fun x=>(x.1,x.2.2)) zs).getD v2) H3) I1 ⟨Z,d,m,_,ok,rs,h,fun y m1 v H1 ⟨zs,ey,hq⟩ e1 ok1 r1=>?_⟩) fun iv s2 ⟨y,H2,I2,ry,zs,b,ey,q2⟩ =>
  Calls.spliced_cons (aI (hf pins s2 σ H2 _ I2 q2) fun fv s3 ⟨v2,H3,I3,rz,sq,q3⟩=>Calls.spliced_nil ?_))))
 ·subst ey;have r1':=r1
  simp only[RD,RP]at r1';obtain⟨b,vs,rfl,_,_⟩:=r1';refine⟨zs,b,rfl,Z,d,m1,_,ok1,rs.ext e1,hq,fun x m2 v2 H2 hq2 e2 ok2 r2=>⟨?_,?_⟩⟩
  ·have r3:=r1.ext e2
   simp only[RD,RP]at r3;obtain⟨b',vs',e',h1,h2⟩:=r3
   cases e'
   cases pY h2
   exact h1
  ·cases hv:cR kvs zs with
   | none =>
    rw[hv]at hq2;rw[(rk Z m2 H2).val_none hv];exact k _ m2 _ H2 hq2 (e1.trans e2) ok2 r2
   | some q =>
    rw[hv]at hq2;obtain⟨w,hw,rw'⟩:=(rk Z m2 H2).val hv;rw[hw];exact k _ m2 _ H2 hq2 (e1.trans e2) ok2 rw'
 ·subst ey
  cases (show iv=Value.ref b from ry)
  obtain⟨sy,ys,dd,rel⟩:=kd.out I3;exact call_meetsIn PySem.F.slot_dict_get dd.typeIs PySem.F.entry_dict_get (PySem.F.args_dict_get_3 _ _ _) (meetsH_dict_get_default (tupleKind (bM X.prog X.w)) c b sy fv) ⟨tupleKind_room_in1 (by omega),zs.map Sum.inr,ys,Iq I3 sq,dd,⟨_,H3,I3.tok _,(rel zs).getD rz,q3⟩⟩
end
end DL
namespace DL
open PySem PySem.Spec PyProof.Rows L2
section
variable {prog:Program}{w:World}{A:Around}{E:Value->Shared->Prop}{s:Shared}
structure Zsl (h:Heap) (z TI TO i1 i2 t1 t2:Addr) (f0:Value) (k:Nat):Prop where
 z:IsZip h z TI TO f0
 ti:IsPair h TI (.ref i1) (.ref i2)
 to:∃ a b,IsPair h TO a b
 a:h.IsListIter i1 t1 k
 b:h.IsTupleIter i2 t2 k
theorem Z0{z TI TO i1 i2 t1 t2:Addr}{k:Nat}{xs ys:Array Value}{x y:Value}{Q:Value->Shared->Prop}(D:ZipApart z TI TO i1 i2 t1 t2)(S:Zsl s.heap z TI TO i1 i2 t1 t2 .none k)
  (g1:s.heap.IsList t1 xs) (g2:s.heap.IsTuple t2 ys) (hx:xs[k]?=some x) (hy:ys[k]?=some y)
  (hQ:∀ h',Zsl h' z TI TO i1 i2 t1 t2 (rawInt s.heap.objs.size) (k+1)->IsPair h' s.heap.objs.size x y ->
   (∀ c o,c≠z->c≠TO->c≠i1->c≠i2->s.heap.get? c=some o->h'.get? c=some o)->Q (.ref s.heap.objs.size) {s with heap:=h'}) :
  wpAny (model prog w) A (Builtin.«zip.__next__» ⟨[.ref z],[]⟩) (fun fin s'=>∃ v,fin=.done (.ret v)/\Q v s') E s:=by
 obtain⟨hz,hTI,⟨a,b,hTO⟩,h1,h2⟩:=S;show wpAny _ _ (field (.ref z) 2>>=_) _ _ _;refine wpAny_bind (wpAny_field hz rfl (x:=.bool false) rfl ?_)
 show wpAny _ _ (field (.ref z) 3>>=_) _ _ _;refine wpAny_bind (wpAny_field hz rfl (x:=.ref TI) rfl (wpAny_bind (wpAny_seqItems hTI rfl ?_)))
 show wpAny _ _ (Builtin.SmallTypes.ownedTupleIsFree (.ref z)>>=_) _ _ _;refine wpAny_bind ?_
 unfold Builtin.SmallTypes.ownedTupleIsFree;refine wpAny_bind (wpAny_field hz rfl (x:=.none) rfl (wpAny_pure ?_));simp only[if_true];refine wpAny_bind (wpAny_rule (wpAny_bind (wpAny_field hz rfl (x:=.ref TO) rfl ?_)));refine wpAny_bind (wpAny_setField_rec hz (by simp) fun n1 z1 c1=>?_);replace z1:IsZip n1 z TI TO .ellipsis:=z1
 refine wpAny_bind ?_;simp only[List.zipIdx_cons,List.zipIdx_nil,List.forIn_cons,List.forIn_nil];refine wpAny_bind (wpAny_bind (wpAny_onRaise ?_));show wpAny _ _ (Builtin.SmallTypes.nextOf (.ref i1)>>=_) _ _ _
 refine wpAny_bind (wpAny_nextOf_list_item (h1.at fun o e=>c1.extBut _ o D.i1z e) (g1.extBut c1.extBut D.l1z) hx fun n2 b2 c2=>wpAny_pure ?_);have p2:IsPair n2 TO a b:=c2.extBut _ _ D.TOi1 (c1.extBut _ _ D.TOz hTO)
 refine wpAny_bind (wpAny_seqItems p2 rfl (wpAny_bind (wpAny_updateSeq_pair p2 fun n3 p3 c3=>?_)));replace p3:IsPair n3 TO x b:=p3;refine wpAny_bind (wpAny_letGo (wpAny_pure (wpAny_bind (wpAny_bind (wpAny_onRaise ?_)))));show wpAny _ _ (Builtin.SmallTypes.nextOf (.ref i2)>>=_) _ _ _
 have up3:∀ c o,c≠z->c≠TO->c≠i1->s.heap.get? c=some o->n3.get? c=some o:=fun c o q1 q2 q3 e=>c3.extBut _ _ q2 (c2.extBut _ _ q3 (c1.extBut _ _ q1 e))
 have g23:n3.IsTuple t2 ys:=by
  obtain⟨o,ho,r⟩:=g2;exact⟨o,up3 _ _ D.l2z D.l2TO D.l2i1 ho,r⟩
 refine wpAny_bind (nK (h2.at fun o e=>up3 _ o D.i2z D.TOi2.symm D.i12.symm e) g23 hy fun n4 b4 c4=>wpAny_pure ?_);have p4:IsPair n4 TO x b:=c4.extBut _ _ D.TOi2 p3
 refine wpAny_bind (wpAny_seqItems p4 rfl (wpAny_bind (wpAny_updateSeq_pair p4 fun n5 p5 c5=>?_)));replace p5:IsPair n5 TO x y:=p5;refine wpAny_bind (wpAny_letGo (wpAny_pure (wpAny_pure (wpAny_bind (wpAny_seqItems p5 rfl (wpAny_bind (wpAny_newTuple ?_)))))));have size5:n5.objs.size=s.heap.objs.size:=by rw[c5.1,c4.1,c3.1,c2.1,c1.1]
 have z5:IsZip n5 z TI TO .ellipsis:=c5.extBut _ _ D.TOz.symm (c4.extBut _ _ D.i2z.symm (c3.extBut _ _ D.TOz.symm (c2.extBut _ _ D.i1z.symm z1)))
 have up5:∀ c o,c≠z->c≠TO->c≠i1->c≠i2->s.heap.get? c=some o->n5.get? c=some o:=fun c o q1 q2 q3 q4 e=>c5.extBut _ _ q2 (c4.extBut _ _ q4 (up3 c o q1 q2 q3 e))
 have a5:n5.IsListIter i1 t1 (k+1):=b2.at fun o e=>c5.extBut _ _ D.TOi1.symm (c4.extBut _ _ D.i12 (c3.extBut _ _ D.TOi1.symm e))
 have b5:n5.IsTupleIter i2 t2 (k+1):=b4.at fun o e=>c5.extBut _ _ D.TOi2.symm e
 have zlt:z<n5.objs.size:=Heap.lt_size z5
 show wpAny _ _ (Builtin.SmallTypes.ownedTupleHandOut (.ref z) (.ref n5.objs.size)>>=_) _ _ _;refine wpAny_bind ?_
 unfold Builtin.SmallTypes.ownedTupleHandOut;have z6:IsZip (n5.push {cls:=.type "tuple",data:=.seq #[x,y]}) z TI TO .ellipsis:=Heap.get?_push_of_some _ z5
 refine wpAny_bind (wpAny_setField_rec z6 (by simp) fun n7 z7 c7=>?_);replace z7:IsZip n7 z TI TO (rawInt n5.objs.size):=z7
 refine wpAny_setField_rec z7 (by simp) fun n8 z8 c8=>?_;replace z8:IsZip n8 z TI TO (rawInt n5.objs.size):=z8
 have up8:∀ c o,c≠z->n5.get? c=some o->n8.get? c=some o:=fun c o q e=>c8.extBut _ _ q (c7.extBut _ _ q (Heap.get?_push_of_some _ e))
 have new8:IsPair n8 n5.objs.size x y:=c8.extBut _ _ (Nat.ne_of_gt zlt) (c7.extBut _ _ (Nat.ne_of_gt zlt) (Heap.get?_push_size _ rfl))
 rw[size5]at z8 new8;refine wpAny_pure ⟨_,rfl,?_⟩;show Q (.ref n5.objs.size) _
 rw[size5];exact hQ n8 ⟨z8,up8 _ _ D.TIz (up5 _ _ D.TIz D.TITO D.TIi1 D.TIi2 hTI),⟨x,y,up8 _ _ D.TOz p5⟩,a5.at fun o e=>up8 _ o D.i1z e,b5.at fun o e=>up8 _ o D.i2z e⟩ new8 fun c o q1 q2 q3 q4 e=>up8 c o q1 (up5 c o q1 q2 q3 q4 e)
theorem F9{z TI TO i1 i2 t1 t2:Addr}{k:Nat}{xs ys:Array Value}{Q:Fin->Shared->Prop}(hh:A.handled=none)(D:ZipApart z TI TO i1 i2 t1 t2)(S:Zsl s.heap z TI TO i1 i2 t1 t2 .none k)
  (g1:s.heap.IsList t1 xs) (g2:s.heap.IsTuple t2 ys) (hend:xs[k]?=none\/ys[k]?=none)
  (hE:∀ h' e,(∀ c o,c≠z->c≠TO->c≠i1->c≠i2->s.heap.get? c=some o->h'.get? c=some o)->(∃ o,h'.get? e=some o/\o.cls=.type "StopIteration")->E (.ref e) {s with heap:=h'}) :
  wpAny (model prog w) A (Builtin.«zip.__next__» ⟨[.ref z],[]⟩) Q E s:=by
 obtain⟨hz,hTI,⟨a,b,hTO⟩,h1,h2⟩:=S;show wpAny _ _ (field (.ref z) 2>>=_) _ _ _;refine wpAny_bind (wpAny_field hz rfl (x:=.bool false) rfl ?_)
 show wpAny _ _ (field (.ref z) 3>>=_) _ _ _;refine wpAny_bind (wpAny_field hz rfl (x:=.ref TI) rfl (wpAny_bind (wpAny_seqItems hTI rfl ?_)))
 show wpAny _ _ (Builtin.SmallTypes.ownedTupleIsFree (.ref z)>>=_) _ _ _;refine wpAny_bind ?_
 unfold Builtin.SmallTypes.ownedTupleIsFree;refine wpAny_bind (wpAny_field hz rfl (x:=.none) rfl (wpAny_pure ?_));simp only[if_true];refine wpAny_bind (wpAny_rule (wpAny_bind (wpAny_field hz rfl (x:=.ref TO) rfl ?_)));refine wpAny_bind (wpAny_setField_rec hz (by simp) fun n1 z1 c1=>?_);replace z1:IsZip n1 z TI TO .ellipsis:=z1
 refine wpAny_bind ?_;simp only[List.zipIdx_cons,List.zipIdx_nil,List.forIn_cons,List.forIn_nil];refine wpAny_bind (wpAny_bind (wpAny_onRaise ?_));show wpAny _ _ (Builtin.SmallTypes.nextOf (.ref i1)>>=_) _ _ _
 have apart:∀ (n:Heap) (e:Addr) (oe:Obj),IsZip n z TI TO .ellipsis->n.get? e=some oe->oe.cls=.type "StopIteration"->e≠z:=fun n e oe q q1 q2 q3=>by
  subst q3;rw[q]at q1
  cases q1
  simp at q2
 cases hx:xs[k]? with
 | none =>
  refine wpAny_bind (wpAny_nextOf_list_end hh (h1.at fun o e=>c1.extBut _ o D.i1z e) (g1.extBut c1.extBut D.l1z) hx fun n2 e c2 he=>?_);obtain⟨oe,q1,q2⟩:=he;have z2:IsZip n2 z TI TO .ellipsis:=c2 _ _ D.i1z.symm z1
  exact wpAny_setField_rec z2 (by simp) fun n3 _ c3=>hE n3 e (fun c o r1 _ r3 _ q=>c3.extBut _ _ r1 (c2 _ _ r3 (c1.extBut _ _ r1 q))) ⟨oe,c3.extBut _ _ (apart _ _ _ z2 q1 q2) q1,q2⟩
 | some x =>
  have hy:ys[k]?=none:=by
   rcases hend with h | h
   ·rw[hx]at h;cases h
   ·exact h
  refine wpAny_bind (wpAny_nextOf_list_item (h1.at fun o e=>c1.extBut _ o D.i1z e) (g1.extBut c1.extBut D.l1z) hx fun n2 b2 c2=>wpAny_pure ?_);have p2:IsPair n2 TO a b:=c2.extBut _ _ D.TOi1 (c1.extBut _ _ D.TOz hTO)
  refine wpAny_bind (wpAny_seqItems p2 rfl (wpAny_bind (wpAny_updateSeq_pair p2 fun n3 p3 c3=>?_)));refine wpAny_bind (wpAny_letGo (wpAny_pure (wpAny_bind (wpAny_bind (wpAny_onRaise ?_)))));show wpAny _ _ (Builtin.SmallTypes.nextOf (.ref i2)>>=_) _ _ _
  have up3:∀ c o,c≠z->c≠TO->c≠i1->s.heap.get? c=some o->n3.get? c=some o:=fun c o q1 q2 q3 e=>c3.extBut _ _ q2 (c2.extBut _ _ q3 (c1.extBut _ _ q1 e))
  have g23:n3.IsTuple t2 ys:=by
   obtain⟨o,ho,r⟩:=g2;exact⟨o,up3 _ _ D.l2z D.l2TO D.l2i1 ho,r⟩
  refine wpAny_bind (xJ hh (h2.at fun o e=>up3 _ o D.i2z D.TOi2.symm D.i12.symm e) g23 hy fun n4 e c4 he=>?_);obtain⟨oe,q1,q2⟩:=he;have z4:IsZip n4 z TI TO .ellipsis:=c4 _ _ D.i2z.symm (c3.extBut _ _ D.TOz.symm (c2.extBut _ _ D.i1z.symm z1))
  exact wpAny_setField_rec z4 (by simp) fun n5 _ c5=>hE n5 e (fun c o r1 r2 r3 r4 q=>c5.extBut _ _ r1 (c4 _ _ r4 (up3 c o r1 r2 r3 q))) ⟨oe,c5.extBut _ _ (apart _ _ _ z4 q1 q2) q1,q2⟩
abbrev vC(h:Heap)(t1:Addr):Heap:=h.push {cls:=.type "list_iterator",data:=.fields #[.ref t1,.int 0 0]}
abbrev xK(h:Heap)(t1 t2:Addr):Heap:=(vC h t1).push {cls:=.type "tuple_iterator",data:=.fields #[.ref t2,.int 0 0]}
abbrev wA(h:Heap)(t1 t2:Addr):Heap:=(xK h t1 t2).push {cls:=.type "tuple",data:=.seq #[.ref h.objs.size,.ref (vC h t1).objs.size]}
abbrev uO(h:Heap)(t1 t2:Addr):Heap:=(wA h t1 t2).push {cls:=.type "tuple",data:=.seq #[.none,.none]}
abbrev qI(h:Heap)(t1 t2:Addr):Heap:=(uO h t1 t2).push {cls:=.type "zip",data:=.fields #[.none,.bool false,.bool false,.ref (xK h t1 t2).objs.size,.ref (wA h t1 t2).objs.size]}
theorem o9(t1 t2:Addr)(xs ys:Array Value):Meets (Builtin.«zip.__new__» ⟨[.type "zip",.ref t1,.ref t2],[]⟩) (fun _ R s=>s.heap.IsList t1 xs/\s.heap.IsTuple t2 ys /\
  R (.ok (.ret (.ref (uO s.heap t1 t2).objs.size))) {s with heap:=qI s.heap t1 t2}):=.of_wp fun prog w A R s hs=>by
 obtain⟨hp,g,d,tk,os⟩:=s;obtain⟨hl1,hl2,h⟩:=hs;have hsub:=sub_zip
 have u1:Heap.IsList (Shared.heap ⟨hp,g,d,tk,os⟩) t1 xs:=hl1
 have u2:Heap.IsTuple (Shared.heap ⟨hp.push {cls:=.type "list_iterator",data:=.fields #[.ref t1,.int 0 0]},g,d,tk,os⟩) t2 ys:=Je hl2 _
 wp_walk using wpAny_pyIter_list u1,wpAny_pyIter_tuple u2
 exact⟨_,rfl,h⟩
theorem C2{t1 t2:Addr}{xs ys:Array Value}{Q:Value->Shared->Prop}(g1:s.heap.IsList t1 xs)(g2:s.heap.IsTuple t2 ys)
  (h:∀ h' n,n=s.heap.objs.size->Zsl h' (n+4) (n+2) (n+3) n (n+1) t1 t2 .none 0->(∀ c o,s.heap.get? c=some o->h'.get? c=some o)->Q (.ref (n+4)) {s with heap:=h'}):wpAny (model prog w) A (call (.type "zip") [.ref t1,.ref t2]) Q E s:=by
 refine callType_new F.called_zip (by decide) (F.typeCall_zip_2 _ _) (F.newCall_zip_2 _ _) (fun obj=>F.args_object_init_3 obj _ _) F.entry_zip_new (o9 t1 t2 xs ys) ⟨g1,g2,?_⟩
 have z1:(vC s.heap t1).objs.size=s.heap.objs.size+1:=Heap.size_push ..
 have z2:(xK s.heap t1 t2).objs.size=s.heap.objs.size+2:=by rw[Heap.size_push,z1]
 have z3:(wA s.heap t1 t2).objs.size=s.heap.objs.size+3:=by rw[Heap.size_push,z2]
 have z4:(uO s.heap t1 t2).objs.size=s.heap.objs.size+4:=by rw[Heap.size_push,z3]
 have a5:(qI s.heap t1 t2).get? (uO s.heap t1 t2).objs.size=some _:=Heap.get?_push_size _ rfl
 have a4:(qI s.heap t1 t2).get? (wA s.heap t1 t2).objs.size=some _:=Heap.get?_push_of_some _ (Heap.get?_push_size _ rfl)
 have a3:(qI s.heap t1 t2).get? (xK s.heap t1 t2).objs.size=some _:=Heap.get?_push_of_some _ (Heap.get?_push_of_some _ (Heap.get?_push_size _ rfl))
 have a2:(qI s.heap t1 t2).get? (vC s.heap t1).objs.size=some _:=Heap.get?_push_of_some _ (Heap.get?_push_of_some _ (Heap.get?_push_of_some _ (Heap.get?_push_size _ rfl)))
 have a1:(qI s.heap t1 t2).get? s.heap.objs.size=some _:=Heap.get?_push_of_some _ (Heap.get?_push_of_some _ (Heap.get?_push_of_some _ (Heap.get?_push_of_some _ (Heap.get?_push_size _ rfl))))
 show _/\_
 rw[z2,z3,z4]at a5;rw[z1,z2]at a3;rw[z3]at a4;rw[z1]at a2;rw[z4];exact⟨⟨_,a5,rfl⟩,h _ _ rfl ⟨a5,a3,⟨_,_,a4⟩,⟨_,a1,rfl,rfl⟩,⟨_,a2,rfl,rfl⟩⟩ fun c o x=>Heap.get?_push_of_some _ (Heap.get?_push_of_some _ (Heap.get?_push_of_some _ (Heap.get?_push_of_some _ (Heap.get?_push_of_some _ x))))⟩
end
def sG(K:PySem.W.Frag)(t1 t2:Addr)(n:Nat):It :=
 ⟨fun i H=>i<n/\∃ xs ys,SqL K H t1 xs/\SqT K H t2 ys/\n=min xs.length ys.length,fun i H v H'=>∃ p x y,v=.ref p/\H p=none/\H'=aE H p (.tup [x,y])/\∀ xs ys,SqL K H t1 xs->SqT K H t2 ys->xs[i]?=some x/\ys[i]?=some y,
  fun i H=>i=n/\∃ xs ys,SqL K H t1 xs/\SqT K H t2 ys/\n=min xs.length ys.length⟩
theorem S9{P:Program}{w:World}{K:PySem.W.Frag}{elts:List Expr}{j:Nat}{pos:Pos}{z TI TO i1 i2 t1 t2:Addr}{n:Nat}(D:ZipApart z TI TO i1 i2 t1 t2) :
  Turn P w K (.Tuple elts j pos) (sG K t1 t2 n) [z,TI,TO,i1,i2] z (fun i h=>Zsl h z TI TO i1 i2 t1 t2 .none i) where
 mem:=by simp
 obj:=fun i h st b hb=>by
  obtain⟨h1,h2,⟨a,c,h3⟩,⟨o4,e4,_,d4⟩,⟨o5,e5,_,d5⟩⟩:=st;simp only[List.mem_cons,List.not_mem_nil,or_false]at hb;rcases hb with rfl | rfl | rfl | rfl | rfl
  ·exact⟨_,h1,fun v q=>nomatch q⟩
  ·exact⟨_,h2,fun v q=>nomatch q⟩
  ·exact⟨_,h3,fun v q=>nomatch q⟩
  ·exact⟨_,e4,fun v q=>by rw[d4]at q;cases q⟩
  ·exact⟨_,e5,fun v q=>by rw[d5]at q;cases q⟩
 keep:=fun i h h' st k=>by
  obtain⟨h1,h2,⟨a,c,h3⟩,h4,h5⟩:=st;exact⟨k z (by simp) _ h1,k TI (by simp) _ h2,⟨a,c,k TO (by simp) _ h3⟩,h4.at fun o e=>k i1 (by simp) o e,h5.at fun o e=>k i2 (by simp) o e⟩
 item:=by
  intro X hP hw hK hc i pins s σ H E I hf st hg;subst hP hw hK;obtain⟨hi,xs,ys,q1,q2,hn⟩:=hg;obtain⟨its1,r1,p1,l1⟩:=I.list q1;obtain⟨its2,r2,p2,l2⟩:=I.tuple q2;have e1:xs[i]?=some (xs[i]'(by omega)):=List.getElem?_eq_getElem (by omega)
  have e2:ys[i]?=some (ys[i]'(by omega)):=List.getElem?_eq_getElem (by omega)
  obtain⟨u1,hu1,ru1⟩:=r1.get e1;obtain⟨u2,hu2,ru2⟩:=r2.get e2;have hT:s.TypeIs (.ref z) "zip":=⟨_,st.z,rfl⟩
  have hp:H s.heap.objs.size=none:=I.hok.fresh (Nat.le_refl _)
  unfold pyNext;refine wpAny_bind (wpAny_attempt (wpAny_callSpecial?_slot (name:=Str.ofString "__next__") hT F.slot_zip_next (wpAny_call_entry F.slot_zip_next hT F.entry_zip_next (Z0 D st p1.isList (show s.heap.IsTuple t2 its2.toArray from p2) (by simpa using hu1) (by simpa using hu2) fun h' st' np k=>wpAny_pure ?_) (F.args_zip_next_1 _))))
  refine⟨_,rfl,?_⟩;refine wpAny_letOwnedTupleGo_zip (s:={s with heap:=h'}) st'.z fun h2 z2 c2=>?_;have I1:Inv X pins σ (aE H s.heap.objs.size (.tup [_,_])) {s with heap:=s.heap.push {cls:=.type "tuple",data:=.seq #[u1,u2]}} :=
   I.laid (t':=s.toks) (fun b o e=>Heap.get?_push_of_some _ e) (Nat.le_refl _) (show ObjOk X.prog X.w _ _ _ (.tup [_,_]) from⟨⟨by show 2<=sizeLine;rw[sizeLine_eq];decide,NoD.new _ _ _⟩,[u1,u2],.cons ru1 (.cons ru2 .nil),IsTup.new _ _⟩)
  have lt:∀ {c o},s.heap.get? c=some o->c≠s.heap.objs.size:=fun e=>Nat.ne_of_lt (Heap.lt_size e)
  have zne:s.heap.objs.size≠z:=fun e=>lt st.z e.symm
  have hf':∀ b∈[z,TI,TO,i1,i2],cS X pins (aE H s.heap.objs.size (.tup [xs[i]'(by omega),ys[i]'(by omega)])) b:=fun b hb=>by
   obtain⟨f0,f1,f2,f3,f4,f5⟩:=hf b hb;refine⟨?_,f1,f2,f3,f4,f5⟩;rw[aV]
   ·exact f0
   ·obtain⟨h1,h2,⟨a,c,h3⟩,⟨o4,e4,_⟩,⟨o5,e5,_⟩⟩:=st;simp only[List.mem_cons,List.not_mem_nil,or_false]at hb;rcases hb with rfl | rfl | rfl | rfl | rfl
    ·exact lt h1
    ·exact lt h2
    ·exact lt h3
    ·exact lt e4
    ·exact lt e5
  have kk:∀ b o,b∉[z,TI,TO,i1,i2]->(s.heap.push {cls:=.type "tuple",data:=.seq #[u1,u2]}).get? b=some o->h2.get? b=some o:=fun b o hb e=>by
   simp only[List.mem_cons,List.not_mem_nil,or_false,not_or]at hb;obtain⟨n1,n2,n3,n4,n5⟩:=hb;refine c2.extBut _ _ n1 ?_;rcases Heap.get?_push_cases e with⟨rfl,rfl⟩ | e
   ·exact np
   ·exact k b o n1 n3 n4 n5 e
  have I2:=nQ (s:={s with heap:=s.heap.push {cls:=.type "tuple",data:=.seq #[u1,u2]}}) (h':=h2) (t':=s.toks) (ch:=[z,TI,TO,i1,i2]) I1 kk hf'
  refine⟨.ref s.heap.objs.size,aE H s.heap.objs.size (.tup [xs[i]'(by omega),ys[i]'(by omega)]),I2,rfl,⟨_,_,_,rfl,hp,rfl,fun xs' ys' g1 g2=>?_⟩,?_,fun b hb=>(hf' b hb).1⟩
  ·rw[I.list_inj g1 q1,I.tuple_inj g2 q2];exact⟨e1,e2⟩
  ·obtain⟨h1,h2',⟨a,c,h3⟩,h4,h5⟩:=st';exact⟨z2,c2.extBut _ _ D.TIz h2',⟨a,c,c2.extBut _ _ D.TOz h3⟩,h4.at fun o e=>c2.extBut _ _ D.i1z e,h5.at fun o e=>c2.extBut _ _ D.i2z e⟩
 done:=by
  intro X hP hw hK hc i pins s σ H E I hf st hg;subst hP hw hK;obtain⟨hi,xs,ys,q1,q2,hn⟩:=hg;obtain⟨its1,r1,p1,l1⟩:=I.list q1;obtain⟨its2,r2,p2,l2⟩:=I.tuple q2;have m1:=r1.length
  have m2:=r2.length
  have hT:s.TypeIs (.ref z) "zip":=⟨_,st.z,rfl⟩
  unfold pyNext;refine wpAny_bind (wpAny_attempt (wpAny_callSpecial?_slot (name:=Str.ofString "__next__") hT F.slot_zip_next (wpAny_call_entry F.slot_zip_next hT F.entry_zip_next (F9 (I.ok.hd hc) D st p1.isList (show s.heap.IsTuple t2 its2.toArray from p2) ?_ fun h' e k he=>?_) (F.args_zip_next_1 _))))
  ·by_cases c:xs.length<=ys.length
   ·left
    simp;omega
   ·right
    simp;omega
  ·obtain⟨o,ho,hce⟩:=he;refine wpAny_bind (wpAny_isInstance (T:="StopIteration") (b:=true) ⟨o,ho,hce⟩ isSubtype_stop ?_);refine wpAny_pure ⟨rfl,nQ (t':=s.toks) (ch:=[z,TI,TO,i1,i2]) I (fun b o hb e=>?_) hf⟩;simp only[List.mem_cons,List.not_mem_nil,or_false,not_or]at hb;exact k b o hb.1 hb.2.2.1 hb.2.2.2.1 hb.2.2.2.2 e
 self:=fun _ _ _ _ _ st h=>wpAny_pyIter_zip st.z h
@[simp] def sM(f g:DE):DI:=fun d m Q=>f d m fun x m1=>g d m1 fun y m2=>∃ ps qs,x=.dat (.list ps)/\y=.dat (.tuple qs)/\Q ((ps.zip qs).map fun z=>.dat (.tuple [z.1,z.2])) m2
section
variable {X:Cx}{a b:Expr}{elts:List Expr}{j:Nat}{f g:DE}{pos p p2:Pos}
theorem Zj(hg:Gl X "zip")(hm:X.mg "zip"=none)(ha:PE X a (LE X.K f))(hb:PE X b (LE X.K g))(hs:starEach [a,b] X.env=[(false,eval a X.env),(false,eval b X.env)]:=by rfl)(hs2:starEach [b] X.env=[(false,eval b X.env)]:=by rfl) :
  PI X (.Tuple elts j p2) (.Call (.Name "zip" p) [a,b] [] pos) (LI X.K (sM f g)):=by
 intro pins s σ H R I h;obtain⟨Z,d,m,ZZ,ok,rs,h,k⟩:=h;have hA:=lC (X:=X) ha (lC hb wM (by rw[hs2];rfl)) (by rw[hs,hs2]) pos pins s σ H (fun vs H1=>∃ a1 a2 xs ys ps qs m1,vs=[.ref a1,.ref a2]/\(m1 a1=none/\¬ Z a1)/\SqL X.K H1 a1 xs/\SqT X.K H1 a2 ys/\RPs X.K Z m1 H1 ps xs/\RPs X.K Z m1 H1 qs ys /\
   ZZ ((ps.zip qs).map fun z=>.dat (.tuple [z.1,z.2])) m1/\Ext X.K Z m H m1 H1/\Ok X.K Z m1 H1) I ⟨Z,d,m,fun ds m1=>match ds with | [x,y]=>∃ ps qs,x=.dat (.list ps)/\y=.dat (.tuple qs)/\ZZ ((ps.zip qs).map fun z=>.dat (.tuple [z.1,z.2])) m1 | _=>False,ok,rs,h,fun xs m1 vs H1 q e1 ok1 rd=>?_⟩
 ·refine Call_ (kW I hg hm Ex (PyProof.Rows.callWith_type1 (aI hA fun us s1 ⟨vs,H1,I1,r1,q1⟩=>?_) (by rw[hs,hs2]) (by rw[hs2];rfl)))
  obtain⟨a1,a2,xs,ys,ps,qs,m1,e,h0,h1,h2,rp,rq,q,e1,ok1⟩:=q1;subst e;obtain⟨u1,u2,rfl,ru1,ru2⟩:=xY r1
  cases ru1
  cases ru2
  obtain⟨its1,rv1,pt1,l1⟩:=I1.list h1;obtain⟨its2,rv2,pt2,l2⟩:=I1.tuple h2;refine C2 pt1.isList (show s1.heap.IsTuple a2 its2.toArray from pt2) fun h' n hn st kp=>?_
  have D:ZipApart (n+4) (n+2) (n+3) n (n+1) a1 a2:=Cy n a1 a2 (by obtain⟨o,ho,_⟩:=pt1.isList;rw[hn];exact Heap.lt_size ho) (by obtain⟨o,ho,_⟩:=pt2;rw[hn];exact Heap.lt_size ho)
  refine wpAny_pyIter_zip (s:={s1 with heap:=h'}) st.z ?_;refine⟨n+4,[n+4,n+2,n+3,n,n+1],_,_,H1,rfl,I1.kept (t':=s1.toks) kp,S9 (n:=min xs.length ys.length) D,st,fun c hc=>?_,k _ m1 H1 _ q e1 ok1 ?_⟩
  ·have hle:s1.heap.objs.size<=c:=by
    simp only[List.mem_cons,List.not_mem_nil,or_false]at hc;subst hn;rcases hc with rfl | rfl | rfl | rfl | rfl
    ·exact Nat.le_add_right _ 4
    ·exact Nat.le_add_right _ 2
    ·exact Nat.le_add_right _ 3
    ·exact Nat.le_refl _
    ·exact Nat.le_add_right _ 1
   exact I1.fpOk hle (I1.hok.fresh hle)
  ·intro m2 H2 e2;obtain⟨_,q1⟩:=e2.l a1 xs h0 h1;have q2:=e2.t a2 ys h2
   have lp:=rp.length
   have lq:=rq.length
   refine⟨fun i x hx=>?_,?_,xs,ys,q1,q2,rfl⟩
   ·rw[List.getElem?_map]at hx
    cases ez:(ps.zip qs)[i]? with
    | none=>rw[ez]at hx;cases hx
    | some z =>
     rw[ez]at hx
     cases hx
     obtain⟨z1,z2⟩:=z;obtain⟨ea,eb⟩:=List.getElem?_zip_eq_some.mp ez;obtain⟨v1,hv1,rv1'⟩:=rp.get ea;obtain⟨v2,hv2,rv2'⟩:=rq.get eb;have b1:=(List.getElem?_eq_some_iff.mp hv1).1
     have b2:=(List.getElem?_eq_some_iff.mp hv2).1
     refine⟨⟨by omega,xs,ys,q1,q2,rfl⟩,fun v H3 ⟨pp,x',y',ev,hp,eH,al⟩=>?_⟩
     obtain⟨w1,w2⟩:=al xs ys q1 q2;rw[hv1]at w1;rw[hv2]at w2
     cases w1
     cases w2
     refine .inr ⟨pp,[z1,z2],[_,_],rfl,ev,hp,eH,?_⟩;simp only[RPs];exact⟨_,_,rfl,rv1',_,_,rfl,rv2',rfl⟩
   ·show((ps.zip qs).map _).length=min xs.length ys.length
    rw[List.length_map,List.length_zip,lp,lq]
 ·match xs,q,rd with
  | [],q,_=>exact q.elim
  | [_],q,_=>exact q.elim
  | _::_::_::_,q,_=>exact q.elim
  | [x,y],q,rd =>
  obtain⟨ps,qs,rfl,rfl,q⟩:=q;obtain⟨v,w,rfl,g1,g2⟩:=rd.two;simp only[RD,RP]at g1 g2;obtain⟨a1,xs,rfl,h0,h1,h2⟩:=g1;obtain⟨a2,ys,rfl,h3,h4⟩:=g2;exact⟨a1,a2,xs,ys,ps,qs,m1,rfl,h0,h1,h3,h2,h4,q,e1,ok1⟩
end
end DL
namespace DL
open PySem PySem.Spec PyProof.Rows L2
section
variable {K:PySem.W.Frag}{Z:Addr->Prop}{m m':Mu}{H:Hp}
def mX(m:Mu)(a:Addr):Mu:=fun b=>if b=a then none else m b
theorem Ft{a b:Addr}(h:m b=none):mX m a b=none:=by unfold mX;split<;>first | rfl | exact h
end
end DL
namespace DL
open PySem PySem.Spec PyProof.Rows L2
section
variable {X:Cx}{pins:List (Addr×Obj)}{σ:L2.St}
def PairsH(H:Hp)(xs ys:List V)(ps:List Addr):Prop:=∀ (j:Nat) (p:Addr),ps[j]?=some p->∃ x y,xs[j]?=some x/\ys[j]?=some y/\H p=some (.tup [x,y])
theorem PairsH.same{H H':Hp}{xs ys:List V}{ps:List Addr}(h:PairsH H xs ys ps)(e:Same H H'):PairsH H' xs ys ps:=fun j p q=>let ⟨x,y,h1,h2,h3⟩:=h j p q;⟨x,y,h1,h2,e _ _ h3⟩
theorem PairsH.snoc{H:Hp}{xs ys:List V}{ps:List Addr}{a:Addr}{x y:V}(h:PairsH H xs ys ps)(hx:xs[ps.length]?=some x)(hy:ys[ps.length]?=some y)(ha:H a=some (.tup [x,y])):PairsH H xs ys (ps++[a]):=fun j p q=>by
 rcases Nat.lt_or_ge j ps.length with c | c
 ·rw[List.getElem?_append_left c]at q;exact h j p q
 ·rw[List.getElem?_append_right c]at q;have:j-ps.length=0:=by
   rcases Nat.eq_zero_or_pos (j-ps.length) with z | z
   ·exact z
   ·rw[List.getElem?_eq_none (by simp;omega)]at q;cases q
  rw[this]at q
  cases q
  have e:j=ps.length:=by omega
  subst e;exact⟨x,y,hx,hy,ha⟩
end
end DL
namespace DL
open PySem PySem.Spec PyProof.Rows L2
section
variable {X:Cx}{o e:Expr}{f g:DE}
@[simp] def Mx:PyData->Bool
 | .none=>true
 | _=>false
@[simp] def tK:D2
 | .dat p,.dat .none,m,Q=>Q (.dat (.bool (!Mx p))) m
 | _,_,_,_=>False
theorem g7{K:PySem.W.Frag}{Z:Addr->Prop}{m:Mu}{H:Hp}{p:PyData}{x:V}(h:RP K Z m H p x):decide (x=.non)=Mx p:=by
 cases p with
 | none=>simp only[RP]at h;subst h;rfl
 | bool b=>simp only[RP]at h;subst h;rfl
 | int i=>simp only[RP]at h;subst h;rfl
 | str z=>simp only[RP]at h;subst h;rfl
 | tuple xs=>simp only[RP]at h;obtain⟨a,vs,rfl,_⟩:=h;rfl
 | list xs=>simp only[RP]at h;obtain⟨a,vs,rfl,_⟩:=h;rfl
 | dict _=>simp only[RP]at h
theorem Hy:cI X (compareOp .IsNot) tK:=by
 intro pins s σ H Z m x y dx dy v u R Q I ok rx ry r1 r2 h k;unfold tK at h
 split at h
 ·have e:y=.non:=by simpa only[RD,RP] using r2
  refine Tt pins s σ H _ _ v u Q I rx ry ⟨e,?_⟩;rw[g7 r1];exact k _ m _ H h Ext.refl ok .ofBl
 ·exact h.elim
theorem RPs.eraseIdx{K:PySem.W.Frag}{Z:Addr->Prop}{m:Mu}{H:Hp}{xs:List PyData}{vs:List V}(h:RPs K Z m H xs vs)(i:Nat):RPs K Z m H (xs.eraseIdx i) (vs.eraseIdx i):=by
 rw[List.eraseIdx_eq_take_drop_succ,List.eraseIdx_eq_take_drop_succ];exact(h.take _).append (h.drop _)
end
end DL
namespace DL
open PySem PySem.Spec PyProof.Rows L2
section
variable {K:PySem.W.Frag}{Z:Addr->Prop}{m m1:Mu}{H H1:Hp}
theorem Ok.off{a:Addr}(ok:Ok K Z m H):Ok K Z (mX m a) H :=
 ⟨fun b c h=>by
  unfold mX at h
  split at h
  ·cases h
  ·obtain⟨o,h1,h2⟩:=ok.g b c h;exact⟨o,h1,h2.lift fun p v q=>RP.tr (fun _ _ q=>q) (fun b ws q1 q2=>⟨⟨Ft q1.1,q1.2⟩,q2⟩) p v q⟩,fun b hz=>⟨Ft (ok.z b hz).1,(ok.z b hz).2⟩⟩
theorem Ext.off{a:Addr}(e:Ext K Z m H m1 H1)(h:m a=none):Ext K Z m H (mX m1 a) H1 :=
 ⟨e.t,fun b vs h1 h2=>let ⟨q1,q2⟩:=e.l b vs h1 h2;⟨Ft q1,q2⟩,e.z,fun b hb=>by
  unfold mX
  split
  ·rename_i q;rw[q,h]at hb;cases hb
  ·exact e.c b hb,e.fz,fun b hb=>by
  unfold mX
  split
  ·rename_i q;rw[q,h]at hb;cases hb
  ·exact e.fm b hb⟩
end
end DL
namespace DL
open PySem PySem.Spec PyProof.Rows L2
section
variable {X:Cx}{pos:Pos}
@[simp] def Ax:List (DE×DE)->aT->Mu->(List (aJ×PyData)->Mu->Prop)->Prop
 | [],_,m,Q=>Q [] m
 | (fk,fv)::r,d,m,Q=>fk d m fun x m1=>∃ k,kN x=some k/\fv d m1 fun y m2=>∃ p,y=.dat p/\Ax r d m2 fun kvs m3=>Q ((k,p)::kvs) m3
theorem Gr{K:PySem.W.Frag}{Z:Addr->Prop}:∀ {ps:List (DE×DE)} {d:aT} {m:Mu} {s:L2.St} {H:Hp} {R:List (aJ×PyData)->Mu->Prop} {Q:List (V×V)->Hp->Prop},Ok K Z m H->RS K Z m H d s->Ax ps d m R ->
  (∀ kvs m' vs H',R kvs m'->Ext K Z m H m' H'->Ok K Z m' H'->RKV K Z m' H' kvs vs->Q (vs.map fun kv=>(kV kv.1,kv.2)) H')->uZ (ps.map fun z=>(LE K z.1,LE K z.2)) s H Q
 | [],d,m,s,H,R,Q,ok,rs,h,k=>k [] m [] H h Ext.refl ok rfl
 | (fk,fv)::r,d,m,s,H,R,Q,ok,rs,h,k=>by
  refine⟨Z,d,m,_,ok,rs,h,fun x m1 v H1 q e1 ok1 r1=>?_⟩;obtain⟨ky,hk,q⟩:=q
  cases r1.key hk
  refine⟨Z,d,m1,_,ok1,rs.ext e1,q,fun y m2 w H2 q2 e2 ok2 r2=>?_⟩;obtain⟨p,rfl,q2⟩:=q2;refine Gr ok2 ((rs.ext e1).ext e2) q2 fun kvs m3 vs H3 q3 e3 ok3 rk=>?_;exact k ((ky,p)::kvs) m3 ((ky,w)::vs) H3 q3 (e1.trans (e2.trans e3)) ok3 ⟨w,vs,rfl,RP.ext e3 _ _ r2,rk⟩
@[simp] def yE(ps:List (DE×DE)):DE:=fun d m Q=>∀ p,m p=none->Ax ps d (bC m p (.d [])) fun kvs m2=>m2 p=some (.d [])/\kvs.length<=15/\Q (.cel p) (bC m2 p (.d (Mq [] kvs)))
def PD(X:Cx)(pos:Pos)(keys:List (Option Expr))(values:List Expr)(ps:List (DE×DE)):Prop:=wH X pos keys values (ps.map fun z=>(LE X.K z.1,LE X.K z.2))
theorem AU:PD X pos [] [] []:=BX
theorem Uv{k v:Expr}{ks:List (Option Expr)}{vs:List Expr}{fk fv:DE}{ps:List (DE×DE)}(hk:PE X k (LE X.K fk))(hv:PE X v (LE X.K fv))(hr:PD X pos ks vs ps):PD X pos (some k::ks) (v::vs) ((fk,fv)::ps):=AT hk hv hr
theorem W7{keys:List (Option Expr)}{values:List Expr}{ps:List (DE×DE)}(h:PD X pos keys values ps)(hall:keys.all (·.isSome)=true:=by rfl)(hl:keys.length=values.length:=by rfl)(h0:keys≠[]:=by exact List.cons_ne_nil _ _)
  (h15:keys.length<=15:=by decide):PE X (.Dict keys values pos) (LE X.K (yE ps)):=by
 intro pins s σ H Q I q;obtain⟨Z,d,m,R,ok,rs,hd,k⟩:=q;have hn:=I.hok.fresh (Nat.le_refl s.heap.objs.size)
 have hk:X.K.lookup s.heap.objs.size=none:=by
  cases e:X.K.lookup s.heap.objs.size with
  | none=>rfl
  | some o=>exact absurd (Heap.lt_size (I.kIn _ o e)) (Nat.lt_irrefl _)
 have e0:=Ext.cell (c:=.d []) (o:=.dK []) ok hn hk
 have I1:=I.laid (a:=s.heap.objs.size) (o:=.dK []) (h':=s.heap.push {cls:=.type "dict",data:=.dict #[]}) (t':=s.toks) (fun _ _ q=>Heap.get?_push_of_some _ q) (Nat.le_refl _) (Ny s.heap I.big)
 have run:uZ (ps.map fun z=>(LE X.K z.1,LE X.K z.2)) σ (aE H s.heap.objs.size (.dK [])) fun ps H2=>H2 s.heap.objs.size=some (.dK [])/\∃ kvs:List (aJ×V),ps=kvs.map (fun kv=>(kV kv.1,kv.2))/\kvs.length<=15/\Q (.ref s.heap.objs.size) (aE H2 s.heap.objs.size (.dK (rO [] kvs))):=by
  refine Gr (ok.cell (c:=.d []) (o:=.dK []) hn hk (show RKV (κ:=aJ) X.K Z m H [] [] from rfl)) (rs.ext e0) (hd _ (eU ok hn).1) fun kvs m2 vs H2 q2 e2 ok2 rk=>?_
  obtain⟨hm,hlen,q⟩:=q2;obtain⟨ws,g1,g2⟩:=ok2.d hm
  cases (show ws=[] from g2)
  exact⟨g1,vs,rfl,by rw[rk.length];exact hlen,k _ _ _ _ q (e0.trans (e2.trans (Ext.put ok2 hm g1))) (ok2.put hm g1 (show RKV _ _ _ _ _ _ from RKV.puts (acc:=[]) (aw:=[]) rfl rk)) ⟨rfl,by rw[bZ];rfl⟩⟩
 refine wpAny_Dict_walk (knd:=bM X.prog X.w) hall hl h0 h15 (aI (h pins _ σ _ _ I1 run) fun ws s2 ⟨ps,H2,I2,rel,e,kvs,ep,lk,q2⟩=>?_);subst ep;obtain⟨rs,c,rk⟩:=Jo (P:=X.prog) (w:=X.w) rel;obtain⟨z,hd,vs0,r0,dd⟩:=Kk I2.hok e
 cases r0
 refine⟨rs,c,dd,fun h' dd' hs=>⟨.ref s.heap.objs.size,_,?_,rfl,q2⟩⟩;have hz:(rO [] kvs).length<=sizeLine:=by
  have h1:=Gp kvs []
  rw[List.length_nil]at h1;rw[sizeLine_eq];omega
 have he:∃ q,h'.get? s.heap.objs.size=some q:=let ⟨q,_,_,hq,_⟩:=dd';⟨q,hq⟩
 exact vP I2 (by rw[e];exact True.intro) hs he (Oh hz hd (rk.merge .nil) dd')
@[simp] def Ai:D2
 | x,.cel c,m,Q=>∃ k kvs,kN x=some k/\m c=some (.d kvs)/\Q (.dat (.bool (cR kvs k).isSome)) m
 | _,_,_,_=>False
theorem Yz{K:PySem.W.Frag}{Z:Addr->Prop}{m:Mu}{H:Hp}{k:aJ}{kvs:List (aJ×PyData)}{vs:List (aJ×V)}(h:RKV K Z m H kvs vs):(bP vs k).isSome=(cR kvs k).isSome:=by
 cases e:cR kvs k with
 | none=>rw[h.val_none e];rfl
 | some p =>
  obtain⟨v,hv,_⟩:=h.val e;rw[hv];rfl
theorem d9(hu:X.A.units+100<cLine):cI X (compareOp .In) Ai:=by
 intro pins s σ H Z m x y dx dy v u R Q I ok rx ry r1 r2 h k;unfold Ai at h
 split at h
 ·obtain⟨ky,kvs,hk,hm,q⟩:=h
  cases r1.key hk
  obtain⟨rfl,_⟩:=r2;obtain⟨vs,g1,g2⟩:=ok.d hm;obtain rfl:=(show u=Value.ref _ from ry)
  refine y6 (by omega) I (.inl ⟨vs,ky,.inl g1,rfl,rfl⟩) rx fun s3 I3=>⟨.bl ((bP vs ky).isSome),H,I3,rfl,?_⟩
  rw[Yz g2];exact k _ m _ H q Ext.refl ok .ofBl
 ·exact h.elim
variable {o e:Expr}{f g:DE}
end
end DL
namespace DL
open PySem PySem.Spec PyProof.Rows L2
theorem Paired.at{α β:Type}{r:α->β->Prop}:∀ {xs:List α} {ys:List β} {i:Nat} {x:α},Paired r xs ys->xs[i]?=some x->∃ y,ys[i]?=some y/\r x y
 | _,_,_,_,.nil,e=>by simp at e
 | _,_,0,x,.cons h _,e=>by
  simp at e;subst e;exact⟨_,rfl,h⟩
 | _,_,i+1,x,.cons _ h,e=>by
  obtain⟨y,h1,h2⟩:=Paired.at (i:=i) h (by simpa using e)
  exact⟨y,by simpa using h1,h2⟩
theorem Paired.len{α β:Type}{r:α->β->Prop}:∀ {xs:List α} {ys:List β},Paired r xs ys->xs.length=ys.length
 | _,_,.nil=>rfl
 | _,_,.cons _ h=>by rw[List.length_cons,List.length_cons,Paired.len h]
section
variable {X:Cx}{o:Expr}{es:List Expr}{fo:DE}{fa:DA}{pos ipos:Pos}{j:Nat}
theorem Ok.ft{K:PySem.W.Frag}{Z:Addr->Prop}{m:Mu}{H:Hp}{a:Addr}{xs:List (List aJ×PyData)}(ok:Ok K Z m H)(h:m a=some (.ft xs)):∃ ob vs,H a=some (.frz ob (.dT vs))/\RKV K Z m H xs vs:=by
 obtain⟨o,h1,h2⟩:=ok.g a _ h
 cases o with
 | frz ob u=>cases u<;>first | exact⟨_,_,h1,h2⟩ | exact h2.elim
 | _=>exact h2.elim
end
end DL
namespace DL
open PySem PySem.Spec PyProof.Rows L2
def Kh(kas:List (aJ×Addr)):List (aJ×V):=kas.map fun x=>(x.1,V.ref x.2)
theorem Ok.dl{K:PySem.W.Frag}{Z:Addr->Prop}{m:Mu}{H:Hp}{a:Addr}{kas:List (aJ×Addr)}(ok:Ok K Z m H)(h:m a=some (.dl kas)):H a=some (.dK (Kh kas)):=by
 obtain⟨o,h1,h2⟩:=ok.g a _ h
 cases o<;>first | (cases (show _=Kh kas from h2);exact h1) | exact h2.elim
end DL
namespace DL
open PySem PySem.Spec PyProof.Rows L2
def gO(n lo st:Nat):Nat:=if lo<n then (n-lo-1) / st+1 else 0
def cC(n lo st:Nat):List Nat:=(List.range (gO n lo st)).map fun k=>lo+k*st
def pick{α:Type}(xs:List α)(is:List Nat):List α:=is.filterMap fun i=>xs[i]?
theorem Jh{α:Type}(xs:List α)(is:List Nat):(pick xs is).length<=is.length:=List.length_filterMap_le _ _
theorem Og(n lo st:Nat):gO n lo st<=n:=by
 unfold gO
 split
 ·have:=Nat.div_le_self (n-lo-1) st
  omega
 ·omega
theorem Vals.at{xs:List V}{us:List Value}:∀ {i:Nat} {x:V},Vals xs us->xs[i]?=some x->∃ u,us[i]?=some u/\RelV x u:=fun h e=>h.get e
theorem Vals.pick{xs:List V}{us:List Value}(h:Vals xs us):∀ is:List Nat,Vals (pick xs is) (DL.pick us is)
 | []=>.nil
 | i::is=>by
  have ih:=Vals.pick h is
  unfold DL.pick at ih ⊢;rw[List.filterMap_cons,List.filterMap_cons]
  cases e:xs[i]? with
  | none =>
   have:us[i]?=none:=by
    rw[List.getElem?_eq_none_iff]at e ⊢;rw[<- h.length];exact e
   rw[this];exact ih
  | some x =>
   obtain⟨u,hu,r⟩:=h.get e;rw[hu];exact .cons r ih
theorem RPs.pick{K:PySem.W.Frag}{Z:Addr->Prop}{m:Mu}{H:Hp}{xs:List PyData}{vs:List V}(h:RPs K Z m H xs vs):∀ is:List Nat,RPs K Z m H (pick xs is) (DL.pick vs is)
 | []=>by simp[DL.pick,RPs]
 | i::is=>by
  have ih:=RPs.pick h is
  unfold DL.pick at ih ⊢;rw[List.filterMap_cons,List.filterMap_cons]
  cases e:xs[i]? with
  | none =>
   have:vs[i]?=none:=by
    rw[List.getElem?_eq_none_iff]at e ⊢;rw[h.length];exact e
   rw[this];exact ih
  | some x =>
   obtain⟨u,hu,r⟩:=h.get e;rw[hu];simp only[RPs];exact⟨u,_,rfl,r,ih⟩
section
variable {prog:Program}{w:World}{A:Around}{E:Value->Shared->Prop}{s:Shared}
theorem Xo{n lo st:Nat}(hl:lo<=n)(hs:0<st):Builtin.Slice.sliceAdjust (some (lo:Int)) none (st:Int) (n:Int)=((lo:Int),(n:Int)):=by
 unfold Builtin.Slice.sliceAdjust;have h1:¬ ((st:Int)<0):=by omega
 have h2:¬ ((lo:Int)<0):=by omega
 simp only[h1,h2,if_false]
 congr 1
 omega
theorem L1{n lo st:Nat}(hl:lo<=n)(hs:0<st):Builtin.Slice.slicePlaces (lo:Int) (n:Int) (st:Int)=gO n lo st:=by
 unfold Builtin.Slice.slicePlaces gO;rw[if_pos (show(st:Int) > 0 by omega)]
 by_cases c:lo<n
 ·rw[if_pos (by omega),if_pos c]
  have e:((n:Int)-lo-1) / (st:Int)=(((n-lo-1) / st:Nat):Int):=by
   rw[show((n:Int)-lo-1)=((n-lo-1:Nat):Int) by omega]
   rfl
  rw[e];obtain⟨q,hq⟩:∃ q,(n-lo-1) / st=q:=⟨_,rfl⟩;rw[hq];omega
 ·rw[if_neg (by omega),if_neg c]
  rfl
theorem M5{sl:Addr}{t t2:Tok}{n lo st:Nat}{Q:Int×Int×Nat->Shared->Prop}(hs:s.heap.IsSliceOf sl (.int lo t) .none (.int st t2))(hl:lo<=n)(h0:0<st)
  (h:Q ((lo:Int),(st:Int),gO n lo st) s):wpAny (model prog w) A (Builtin.Slice.sliceApplied (.ref sl) (pure (n:Int))) Q E s:=by
 obtain⟨os,hos,hcs,hds⟩:=id hs;unfold Builtin.Slice.sliceApplied Builtin.Slice.sliceFields;refine wpAny_bind (wpAny_bind (wpAny_field hos hds (x:=.int lo t) rfl (wpAny_bind (wpAny_field hos hds (x:=.none) rfl (wpAny_bind (wpAny_field hos hds (x:=.int st t2) rfl (wpAny_pure ?_)))))));refine wpAny_bind (slicePart_int ?_);show wpAny _ _ (if ((st:Int)==0)=true then _ else _) _ _ s
 rw[if_neg (by rw[beq_iff_eq];omega)]
 refine wpAny_bind (slicePart_int (wpAny_bind (slicePart_none (wpAny_bind (wpAny_pure ?_)))));show wpAny _ _ (match Builtin.Slice.sliceAdjust (some (lo:Int)) none (st:Int) (n:Int) with | (lo',hi)=>pure (lo',(st:Int),Builtin.Slice.slicePlaces lo' hi (st:Int))) _ _ s
 rw[Xo hl h0];show wpAny _ _ (pure ((lo:Int),(st:Int),Builtin.Slice.slicePlaces (lo:Int) (n:Int) (st:Int))) _ _ s
 rw[L1 hl h0];exact wpAny_pure h
theorem Tb(xs:Array Value)(lo st:Nat):((List.range (gO xs.size lo st)).filterMap fun(k:Nat)=>xs[((lo:Int)+(k:Int)*(st:Int)).toNat]?)=pick xs.toList (cC xs.size lo st):=by
 unfold pick cC;rw[List.filterMap_map]
 congr 1
 funext k
 have e:((lo:Int)+(k:Int)*(st:Int)).toNat=lo+k*st:=by
  rw[show((lo:Int)+(k:Int)*(st:Int))=((lo+k*st:Nat):Int) by push_cast;rfl]
  rfl
 rw[e];show _=xs.toList[lo+k*st]?
 rw[Array.getElem?_toList]
theorem J7(n:Nat):cC n 0 1=List.range n:=by
 unfold cC gO
 cases n with
 | zero=>rfl
 | succ n=>simp
theorem v5{α:Type}:∀ xs:List α,pick xs (List.range xs.length)=xs:=fun xs=>by
 unfold pick;exact List.filterMap_getElem?_range_length xs
theorem Oq{t sl:Addr}{items:Array Value}{tk tk2:Tok}{lo st:Nat}{Q:Value->Shared->Prop}(ht:IsTup s.heap t items)(hs:s.heap.IsSliceOf sl (.int lo tk) .none (.int st tk2))(hl:lo<=items.size)(h0:0<st)
  (hw:lo=0->st=1->Q (.ref t) s)
  (h:¬ (lo=0/\st=1)->Q (.ref s.heap.objs.size) {s with heap:=s.heap.push {cls:=.type "tuple",data:=.seq (pick items.toList (cC items.size lo st)).toArray}})
  (hsz:items.size<=sizeLine):wpAny (model prog w) A (getItem (.ref t) (.ref sl)) Q E s:=by
 have htake:sizeOk (.seq (pick items.toList (cC items.size lo st)).toArray):=by
  show(pick items.toList (cC items.size lo st)).toArray.size<=sizeLine
  have q:=Jh items.toList (cC items.size lo st)
  have q2:=Og items.size lo st
  unfold cC at q;rw[List.length_map,List.length_range]at q;rw[List.size_toArray];unfold cC;omega
 obtain⟨os,hos,hcs,hds⟩:=id hs;have hTs:s.TypeIs (.ref sl) "slice":=⟨os,hos,hcs⟩
 unfold getItem
 try with_reducible refine wpAny_holding ?_
 first | refine wpAny_bind (wpAny_pure ?_) | skip
 refine wpAny_bind (wpAny_sequenceKey ht.typeIs (by decide) ?_)
 refine wpAny_bind (wpAny_callSpecial?_slot (name:=Str.ofString "__getitem__") ht.typeIs PyProof.Rows.slot_tuple_getitem
  (wpAny_call_entry PyProof.Rows.slot_tuple_getitem ht.typeIs entry_tuple_getitem ?_ (args_tuple_getitem _ _)))
 show wpAny _ _ (Builtin.Tuple.tupleItemsOf (.ref t)>>=_) _ _ s
 refine wpAny_bind (tupleItemsOf_ ht ?_);refine wpAny_bind (wpAny_typeOf hTs ?_);rw[if_pos (by decide)]
 refine wpAny_bind (M5 hs hl h0 ?_);show wpAny _ _ (if ((lo:Int)==0&&(st:Int)==1&&gO items.size lo st==items.size)=true then _ else _) _ _ s
 by_cases c:lo=0/\st=1
 ·obtain⟨rfl,rfl⟩:=c;have e:gO items.size 0 1=items.size:=by
   unfold gO
   by_cases q:0<items.size
   ·rw[if_pos q,Nat.div_one];omega
   ·rw[if_neg q];omega
  rw[if_pos (by rw[e];simp)]
  obtain⟨⟨cls,dd,data,sl'⟩,ho,hc,n,hd⟩:=id ht;simp only at hc hd;subst hc hd;show wpAny _ _ (Builtin.Tuple.tupleIsExact (.ref t)>>=_) _ _ _
  refine wpAny_bind ?_;unfold Builtin.Tuple.tupleIsExact;refine wpAny_bind (wpAny_typeOf ⟨_,ho,rfl⟩ (wpAny_pure ?_));show wpAny _ _ (if ((Value.type "tuple" == Value.type "tuple")=true) then _ else _) _ _ _
  rw[if_pos (by decide)]
  refine wpAny_bind (wpAny_rule ?_);exact wpAny_pure ⟨_,rfl,wpAny_pure (hw rfl rfl)⟩
 ·rw[if_neg (by
   intro q;rw[Bool.and_eq_true,Bool.and_eq_true,beq_iff_eq,beq_iff_eq]at q;exact c ⟨by omega,by omega⟩),Tb]
  have h:=h c
  first
   | exact wpAny_bind (m:=Builtin.Tuple.tupleExact _) (wpAny_newObj_type (wpAny_pure ⟨_,rfl,wpAny_pure h⟩) htake)
   | exact wpAny_bind (m:=Builtin.Tuple.tupleExact _) (wpAny_newObj_type (wpAny_bind (wpAny_pure (wpAny_pure ⟨_,rfl,wpAny_pure h⟩))) htake)
   | exact wpAny_bind (wpAny_bind (m:=Builtin.Tuple.tupleExact _) (wpAny_newObj_type (wpAny_pure (wpAny_pure ⟨_,rfl,wpAny_pure h⟩)) htake))
   | exact wpAny_bind (wpAny_bind (m:=Builtin.Tuple.tupleExact _) (wpAny_newObj_type (wpAny_pure ⟨_,rfl,wpAny_pure h⟩) htake))
end
section
variable {X:Cx}{a lo st:Expr}{f g h:DE}{pos p2:Pos}
@[simp] def vV(f g h:DE):DE:=fun d m Q=>f d m fun x m1=>g d m1 fun y m2=>h d m2 fun z m3=>∃ (xs:List PyData) (i j:Nat),x=.dat (.tuple xs)/\y=.dat (.int i)/\z=.dat (.int j)/\i<=xs.length/\0<j/\Q (.dat (.tuple (pick xs (cC xs.length i j)))) m3
theorem Yw(ha:PE X a (LE X.K f))(hl:PE X lo (LE X.K g))(hs:PE X st (LE X.K h)):PE X (.Subscript a (.Slice (some lo) none (some st) p2) pos) (LE X.K (vV f g h)):=by
 intro pins s σ H Q I hh;obtain⟨Z,d,m,R,ok,rs,hf,k⟩:=hh;refine Subscript_ (aI (ha pins s σ H (fun x H1=>∃ (dx:D) (m1:Mu),RD X.K Z m1 H1 dx x/\(g d m1 fun y m2=>h d m2 fun z m3=>∃ (xs:List PyData) (i j:Nat),dx=.dat (.tuple xs)/\y=.dat (.int i)/\z=.dat (.int j)/\i<=xs.length/\0<j/\R (.dat (.tuple (pick xs (cC xs.length i j)))) m3)/\Ext X.K Z m H m1 H1/\Ok X.K Z m1 H1) I
  ⟨Z,d,m,_,ok,rs,hf,fun x m1 v H1 q e1 ok1 rd=>⟨x,m1,rd,q,e1,ok1⟩⟩) fun v s1 ⟨x,H1,I1,r1,dx,m1,rd,q,e1,ok1⟩=>?_)
 refine wpAny_Slice ?_;rw[evalPart_some];refine aI (hl pins s1 σ H1 (fun y H2=>∃ (dy:D) (m2:Mu),RD X.K Z m2 H2 dy y/\(h d m2 fun z m3=>∃ (xs:List PyData) (i j:Nat),dx=.dat (.tuple xs)/\dy=.dat (.int i)/\z=.dat (.int j)/\i<=xs.length/\0<j/\R (.dat (.tuple (pick xs (cC xs.length i j)))) m3)/\Ext X.K Z m1 H1 m2 H2/\Ok X.K Z m2 H2) I1
  ⟨Z,d,m1,_,ok1,rs.ext e1,q,fun y m2 u H2 q e2 ok2 rd2=>⟨y,m2,rd2,q,e2,ok2⟩⟩) fun v2 s2 ⟨y,H2,I2,r2,dy,m2,rd2,q2,e2,ok2⟩=>?_
 rw[evalPart_none,evalPart_some];refine wpAny_pure ?_;refine aI (hs pins s2 σ H2 (fun z H3=>∃ (m3:Mu) (xs:List PyData) (i j:Nat),dx=.dat (.tuple xs)/\dy=.dat (.int i)/\z=.int j/\i<=xs.length/\0<j/\R (.dat (.tuple (pick xs (cC xs.length i j)))) m3/\Ext X.K Z m2 H2 m3 H3/\Ok X.K Z m3 H3) I2
  ⟨Z,d,m2,_,ok2,(rs.ext e1).ext e2,q2,fun z m3 u H3 ⟨xs,i,j,ex,ey,ez,hi,hj,q⟩ e3 ok3 rd3=>by subst ez;exact⟨m3,xs,i,j,ex,ey,rd3.int,hi,hj,q,e3,ok3⟩⟩) fun v3 s3 ⟨z,H3,I3,r3,m3,xs,i,j,ex,ey,ez,hi,hj,q3,e3,ok3⟩=>?_
 subst ex ey ez
 cases rd2.int
 obtain⟨t2,rfl⟩:=r2;obtain⟨t3,rfl⟩:=r3;have rd':=rd.ext (e2.trans e3)
 have rd0:=rd'
 simp only[RD,RP]at rd';obtain⟨a',vs,rfl,hq,hv⟩:=rd'
 cases r1
 have hvl:=hv.length
 have I4:Inv X pins σ H3 {s3 with heap:=s3.heap.push {cls:=.type "slice",data:=.fields #[.int i t2,.none,.int j t3]}}:=I3.kept (t':=s3.toks) fun b ob q=>Heap.get?_push_of_some _ q
 obtain⟨its,r,ht,hz⟩:=I4.tuple hq;have hlen:=r.length
 refine tail_any (ops:=[.ref a',.ref s3.heap.objs.size]) ht.typeIs PyProof.Rows.slot_tuple_getitem.lookup (Oq ht (Heap.IsSliceOf.new ..) (by rw[List.size_toArray];omega) hj (fun c1 c2=>?_) (fun c=>?_) (by rw[List.size_toArray];omega)) (by with_unfolding_all rfl)
 ·subst c1 c2;rw[J7,v5]at q3;exact⟨.ref a',H3,I4,rfl,k _ m3 _ _ q3 (e1.trans (e2.trans e3)) ok3 rd0⟩
 ·have zl:(pick vs (cC vs.length i j)).length<=sizeLine:=by
   have q1:=Jh vs (cC vs.length i j)
   have q2:=Og vs.length i j
   unfold cC at q1;rw[List.length_map,List.length_range]at q1;unfold cC;omega
  have pe:pick its.toArray.toList (cC its.toArray.size i j)=pick its (cC vs.length i j):=by rw[List.size_toArray,<- hlen]
  have hpk:RPs X.K Z m3 H3 (pick xs (cC xs.length i j)) (pick vs (cC vs.length i j)):=by
   rw[hvl];exact hv.pick _
  refine⟨.ref _,aE H3 _ (.tup (pick vs (cC vs.length i j))),I4.laid (t':=s3.toks) (fun b ob q=>Heap.get?_push_of_some _ q) (Nat.le_refl _) ?_,rfl,?_⟩
  ·rw[pe];exact⟨⟨zl,NoD.new _ _ _⟩,_,Vals.pick r _,IsTup.new _ _⟩
  ·have hp:=I4.hok.fresh (Nat.le_refl _)
   have sm:=bT (o:=.tup (pick vs (cC vs.length i j))) hp
   refine k _ m3 _ _ q3 (e1.trans (e2.trans (e3.trans (ok3.ext sm)))) (ok3.grow sm) ?_;simp only[RD,RP];refine⟨_,_,rfl,.inl (.inl bQ),?_⟩;exact RPs.ext (ok3.ext sm) _ _ hpk
end
end DL
namespace DL
open PySem PySem.Spec PyProof.Rows L2
def TSet(P:Program)(w:World)(h:Heap)(a:Addr)(zs:List Str):Prop :=
 ∃ o es ep t,h.get? a=some o/\o.ExactSet/\o.data=.set es ep t/\ElemsOf (bM P w) es.toList/\(∃ vs,StrsAre (es.toList.map (·.2)) vs/\vs.Perm zs)/\zs.Nodup/\es.size<scanBound/\t.fits es.size=true/\t.led=!w.params.followText "set-order"/\(zs≠[]->t.plain=false)
theorem StrsAre.snoc:∀ {l:List Value} {vs:List Str} (z:Str) (tk:Tok),StrsAre l vs->StrsAre (l++[.str z tk]) (vs++[z])
 | _,_,z,tk,.nil=>.cons z tk .nil
 | _,_,z,tk,.cons x t h=>.cons x t (StrsAre.snoc z tk h)
section
variable {P:Program}{w:World}{A:Around}{E:Value->Shared->Prop}{s:Shared}{a:Addr}{zs:List Str}{z:Str}{tk:Tok}
theorem TSet.len{h:Heap}(T:TSet P w h a zs):∃ o es ep t,h.get? a=some o/\o.data=.set es ep t/\es.size=zs.length:=by
 obtain⟨o,es,ep,t,h1,_,h3,_,⟨vs,h5,h6⟩,_⟩:=T;refine⟨o,es,ep,t,h1,h3,?_⟩;have q1:=congrArg List.length h5.strs
 have q2:=h6.length_eq
 simp at q1;omega
end
end DL
namespace DL
open PySem PySem.Spec PyProof.Rows L2
section
variable {P:Program}{w:World}{A:Around}{R:Result->Shared->Prop}{I:Addr}{fp wr:List Addr}{G:Array GenState->Array GenState->Prop}{n:Nat}{Pv:Nat->Value->Prop}{St:Nat->Shared->Prop}
theorem TSet.at{h h':Heap}{a:Addr}{zs:List Str}(T:TSet P w h a zs)(k:∀ o,h.get? a=some o->h'.get? a=some o):TSet P w h' a zs:=by
 obtain⟨o,es,ep,t,ho,rest⟩:=T;exact⟨o,es,ep,t,k o ho,rest⟩
end
end DL
namespace DL
open PySem PySem.Spec PyProof.Rows L2
theorem Jy:Manifest.owners.lookup (String.ofList "rotareti_tes".toList.reverse)=some Manifest.sig_set_iterator:=by kernel_rfl
theorem jF:Slot "set_iterator" "__next__" "set_iterator.__next__":=.of (owner:="set_iterator") (n:="__next__") (by rw[typeLookup_type,builtinLookup_eq_fast];kernel_rfl) (by decide +kernel) (by decide +kernel) (by decide +kernel) (by first | exact .inl (by decide +kernel) | exact .inr (by decide +kernel)) (by rw[isSubtype_type];kernel_rfl)
theorem yB:entryFor table "set_iterator.__next__"=some Builtin.«set_iterator.__next__»:=entryFor_of_tree (by kernel_rfl)
theorem Fu(a:Value):argsOk "set_iterator.__next__" ⟨[a],[]⟩:=by
 unfold argsOk;rw[signature?_of (id:="set_iterator.__next__") (n:="__txen__".toList) (o:="rotareti_tes".toList) (by kernel_rfl) Jy]
 kernel_rfl
theorem Fy:Slot "set_iterator" "__iter__" "set_iterator.__iter__":=.of (owner:="set_iterator") (n:="__iter__") (by rw[typeLookup_type,builtinLookup_eq_fast];kernel_rfl) (by decide +kernel) (by decide +kernel) (by decide +kernel) (by first | exact .inl (by decide +kernel) | exact .inr (by decide +kernel)) (by rw[isSubtype_type];kernel_rfl)
theorem Uk(a:Value):argsOk "set_iterator.__iter__" ⟨[a],[]⟩:=by
 unfold argsOk;rw[signature?_of (id:="set_iterator.__iter__") (n:="__reti__".toList) (o:="rotareti_tes".toList) (by kernel_rfl) Jy]
 kernel_rfl
theorem b9:entryFor table "set_iterator.__iter__"=some Builtin.«dict_keyiterator.__iter__»:=entryFor_alias (id':="dict_keyiterator.__iter__") (by kernel_rfl) (by first | rfl | decide +kernel | (unfold String.splitOn;simp +decide [String.splitOnAux])) (by decide +kernel) (by kernel_rfl)
theorem x9:entryFor table "set.__iter__"=some Builtin.«frozenset.__iter__»:=entryFor_alias (id':="frozenset.__iter__") (by kernel_rfl) rfl (by decide +kernel) (by kernel_rfl)
end DL
namespace DL
open PySem PySem.Spec PyProof.Rows L2
abbrev fW(first:Value)(i:Nat)(S:Addr)(n ep:Nat):Obj:={cls:=.type "set_iterator",dict:=none,data:=.fields #[first,.int i 0,.ref S,.int n 0,.int ep 0],slots:=#[]}
section
variable {P:Program}{w:World}{A:Around}{E:Value->Shared->Prop}{s:Shared}{I S T:Addr}{o:Obj}{es:Array (Int×Value)}{ep i:Nat}{t:SetTable}{cC:Array Value}
theorem qB{first:Value}{n:Nat}(h:s.heap.get? I=some (fW first i S n ep)):s.TypeIs (.ref I) "set_iterator":=⟨_,h,rfl⟩
theorem Gw{X:Fin->Shared->Prop}{Q:Option Value->Shared->Prop}(hh:A.handled=none)(h:∀ h',(∀ b ob,s.heap.get? b=some ob->h'.get? b=some ob)->Q none {s with heap:=h'}) :
  wpAny (model P w) A.in1 (newExc (.type "StopIteration") []>>=fun e=>raiseNew e) X (fun e s'=>wpAny (model P w) A (isInstance e (.type "StopIteration")>>=fun b=>if b=true then pure none else throw e) Q E s') s:=by
 refine wpAny_bind ?_;simp only[newExc,newTuple];refine wpAny_bind (wpAny_newObj_type ?_ (by size_fits))
 refine wpAny_bind (m:=firstArgMember _ _) (wpAny_of_eq (a:=Value.none) (by first | rfl | (simp only[firstArgMember];rfl)) (wpAny_newObj_type ?_ (by size_fits)))
 simp only[raiseNew];refine wpAny_bind (wpAny_handled ?_);rw[show A.in1.handled=none from hh]
 refine wpAny_bind (wpAny_pure (wpAny_throw ?_));refine wpAny_bind (wpAny_isInstance (T:="StopIteration") (b:=true) ⟨_,Heap.get?_push_size _ rfl,rfl⟩ isSubtype_stop (wpAny_pure (h _ fun b ob e=>?_)));exact Heap.get?_push_of_some _ (Heap.get?_push_of_some _ e)
theorem Z8{Q:Option Value->Shared->Prop}{x:Int×Value}(bt:w.params.followText "set-order"=true)(hI:s.heap.get? I=some (fW (.int 0 0) i S es.size ep))(hS:s.heap.get? S=some o)(hd:o.data=.set es ep t)(hf:t.fits es.size=true)
  (hx:(pickOrder (w.params.setOrder S ep) es)[i]?=some x) (hQ:∀ h',h'.get? I=some (fW (.int 0 0) (i+1) S es.size ep)->Heap.SameBut I s.heap h'->Q (some x.2) {s with heap:=h'}):wpAny (model P w) A (pyNext (.ref I)) Q E s:=by
 have ty:=qB hI
 unfold pyNext;refine wpAny_bind (wpAny_attempt (wpAny_callSpecial?_slot (name:=Str.ofString "__next__") ty jF (wpAny_call_entry jF ty yB ?_ (Fu _))));unfold Builtin.«set_iterator.__next__»;refine wpAny_bind (wpAny_pure (wpAny_bind (wpAny_fieldsOf hI rfl ?_)));show wpAny _ _ (setEntries S>>=_) _ _ s
 refine wpAny_bind (wpAny_setEntries_of hS hd hf ?_);rw[if_neg (by simp)]
 show wpAny _ _ (setNext S 0 i ep>>=_) _ _ s
 refine wpAny_bind ?_;unfold setNext;refine wpAny_bind (wpAny_setState_of hS hd hf ?_);dsimp only;unfold setsByText;refine wpAny_bind (wpAny_bind (wpAny_askSetting (wpAny_pure ?_)));show wpAny _ _ (if w.params.followText "set-order"=true then _ else _) _ _ s
 rw[if_pos bt,if_neg (by simp)]
 refine wpAny_bind ?_;unfold setWalk;refine wpAny_bind (wpAny_setState_of hS hd hf ?_);dsimp only;unfold setsByText;refine wpAny_bind (wpAny_bind (wpAny_askSetting (wpAny_pure ?_)));show wpAny _ _ (if w.params.followText "set-order"=true then _ else _) _ _ s
 rw[if_pos bt];refine wpAny_bind (wpAny_askSetting (wpAny_pure (wpAny_pure ?_)));show wpAny _ _ (match ((pickOrder (w.params.setOrder S ep) es)[i]?).map fun e=>(e.2,0) with | some (x,next)=>_ | none=>_) _ _ s
 rw[hx];refine wpAny_bind (wpAny_setField_rec hI (by simp) fun h1 e1 sb1=>?_)
 refine wpAny_bind (wpAny_setField_rec (s:={s with heap:=h1}) e1 (by simp) fun h2 e2 sb2=>?_)
 exact wpAny_pure ⟨_,rfl,wpAny_pure (hQ h2 e2 (sb1.trans sb2))⟩
theorem Wi{Q:Option Value->Shared->Prop}(hh:A.handled=none)(bt:w.params.followText "set-order"=true)(hI:s.heap.get? I=some (fW (.int 0 0) i S es.size ep))(hS:s.heap.get? S=some o)(hd:o.data=.set es ep t)(hf:t.fits es.size=true)
  (hx:(pickOrder (w.params.setOrder S ep) es)[i]?=none) (hQ:∀ h',(∀ b ob,b≠I->s.heap.get? b=some ob->h'.get? b=some ob)->Q none {s with heap:=h'}):wpAny (model P w) A (pyNext (.ref I)) Q E s:=by
 have ty:=qB hI
 unfold pyNext;refine wpAny_bind (wpAny_attempt (wpAny_callSpecial?_slot (name:=Str.ofString "__next__") ty jF (wpAny_call_entry jF ty yB ?_ (Fu _))));unfold Builtin.«set_iterator.__next__»;refine wpAny_bind (wpAny_pure (wpAny_bind (wpAny_fieldsOf hI rfl ?_)));show wpAny _ _ (setEntries S>>=_) _ _ s
 refine wpAny_bind (wpAny_setEntries_of hS hd hf ?_);rw[if_neg (by simp)]
 show wpAny _ _ (setNext S 0 i ep>>=_) _ _ s
 refine wpAny_bind ?_;unfold setNext;refine wpAny_bind (wpAny_setState_of hS hd hf ?_);dsimp only;unfold setsByText;refine wpAny_bind (wpAny_bind (wpAny_askSetting (wpAny_pure ?_)));show wpAny _ _ (if w.params.followText "set-order"=true then _ else _) _ _ s
 rw[if_pos bt,if_neg (by simp)]
 refine wpAny_bind ?_;unfold setWalk;refine wpAny_bind (wpAny_setState_of hS hd hf ?_);dsimp only;unfold setsByText;refine wpAny_bind (wpAny_bind (wpAny_askSetting (wpAny_pure ?_)));show wpAny _ _ (if w.params.followText "set-order"=true then _ else _) _ _ s
 rw[if_pos bt];refine wpAny_bind (wpAny_askSetting (wpAny_pure (wpAny_pure ?_)));show wpAny _ _ (match ((pickOrder (w.params.setOrder S ep) es)[i]?).map fun e=>(e.2,0) with | some (x,next)=>_ | none=>_) _ _ s
 rw[hx];refine wpAny_bind (wpAny_setField_rec hI (by simp) fun h1 e1 sb1=>?_)
 refine Gw (s:={s with heap:=h1}) hh fun h' k=>hQ h' fun b ob hb e=>k b ob ?_;rw[sb1.2 b hb];exact e
end
end DL
namespace DL
open PySem PySem.Spec PyProof.Rows L2
section
variable {P:Program}{w:World}{A:Around}{E:Value->Shared->Prop}{s:Shared}{I S T:Addr}{o:Obj}{es:Array (Int×Value)}{ep i slot:Nat}{t:SetTable}
theorem Ja{Q:Option Value->Shared->Prop}(hh:A.handled=none)(bt:w.params.followText "set-order"=false)(hI:s.heap.get? I=some (fW (.int slot 0) i S es.size ep))(hS:s.heap.get? S=some o)(hd:o.data=.set es ep t)(hf:t.fits es.size=true)(hl:t.led=true)(h1:(!t.plain&&decide (es.size > 1))=false)
  (hsome:∀ x j h',es[SetTable.below t.place slot]?=some x->t.place[SetTable.below t.place slot]?=some j->h'.get? I=some (fW (.int ((j+1:Nat):Int) 0) (i+1) S es.size ep)->Heap.SameBut I s.heap h'->Q (some x.2) {s with heap:=h'})
  (hnone:∀ h',es[SetTable.below t.place slot]?=none->(∀ b ob,b≠I->s.heap.get? b=some ob->h'.get? b=some ob)->Q none {s with heap:=h'}):wpAny (model P w) A (pyNext (.ref I)) Q E s:=by
 have ty:=qB hI
 have hpl:t.place.size=es.size:=by
  simp only[SetTable.fits,Bool.and_eq_true,beq_iff_eq]at hf;exact hf.1
 unfold pyNext;refine wpAny_bind (wpAny_attempt (wpAny_callSpecial?_slot (name:=Str.ofString "__next__") ty jF (wpAny_call_entry jF ty yB ?_ (Fu _))));unfold Builtin.«set_iterator.__next__»;refine wpAny_bind (wpAny_pure (wpAny_bind (wpAny_fieldsOf hI rfl ?_)));show wpAny _ _ (setEntries S>>=_) _ _ s
 refine wpAny_bind (wpAny_setEntries_of hS hd hf ?_);rw[if_neg (by simp)]
 show wpAny _ _ (setNext S slot i ep>>=_) _ _ s
 refine wpAny_bind ?_;unfold setNext;refine wpAny_bind (wpAny_setState_of hS hd hf ?_);dsimp only;unfold setsByText;refine wpAny_bind (wpAny_bind (wpAny_askSetting (wpAny_pure ?_)));show wpAny _ _ (if w.params.followText "set-order"=true then _ else _) _ _ s
 rw[bt,if_neg Bool.false_ne_true];show wpAny _ _ (if (!t.plain&&decide (es.size > 1))=true then _ else _) _ _ s
 rw[if_neg (by rw[h1];decide)]
 refine wpAny_bind ?_;show wpAny _ _ (if (!t.led && !es.isEmpty)=true then _ else _) _ _ s
 rw[hl,if_neg (by simp)]
 refine wpAny_pure (wpAny_pure ?_)
 cases e1:es[SetTable.below t.place slot]? with
 | none =>
  dsimp only;refine wpAny_bind (wpAny_setField_rec hI (by simp) fun h1 e1' sb1=>?_)
  refine Gw (s:={s with heap:=h1}) hh fun h' k=>hnone h' e1 fun b ob hb e=>k b ob ?_;rw[sb1.2 b hb];exact e
 | some x =>
  have lt:SetTable.below t.place slot<es.size:=(Array.getElem?_eq_some_iff.mp e1).1
  have e2:t.place[SetTable.below t.place slot]?=some (t.place[SetTable.below t.place slot]'(by omega)):=Array.getElem?_eq_getElem (by omega)
  rw[e2];dsimp only;refine wpAny_bind (wpAny_setField_rec hI (by simp) fun h1 e1' sb1=>?_)
  refine wpAny_bind (wpAny_setField_rec (s:={s with heap:=h1}) e1' (by simp) fun h2 e2' sb2=>?_)
  exact wpAny_pure ⟨_,rfl,wpAny_pure (hsome x _ h2 e1 e2 e2' (sb1.trans sb2))⟩
theorem Jc{first:Value}{n:Nat}{Q:Value->Shared->Prop}(hI:s.heap.get? I=some (fW first i S n ep))(h:Q (.ref I) s):wpAny (model P w) A (pyIter (.ref I)) Q E s:=by
 refine wpAny_pyIter_slot (qB hI) Fy (wpAny_call_entry Fy (qB hI) b9 ?_ (Uk _));show wpAny _ _ (ret (.ref I)) _ _ s
 exact wpAny_pure ⟨_,rfl,"set_iterator",_,qB hI,jF.lookup,h⟩
theorem N7(hh:A.handled=none)(bt:w.params.followText "set-order"=true)(ne1:S≠I)(hd:o.data=.set es ep t)(hf:t.fits es.size=true)(hn:(pickOrder (w.params.setOrder S ep) es).size=es.size) :
  Walks P w A I [I,S] [I] es.size (fun i v=>∃ x,(pickOrder (w.params.setOrder S ep) es)[i]?=some x/\v=x.2) (fun i h=>h.get? I=some (fW (.int 0 0) i S es.size ep)/\h.get? S=some o) where
 sub:=fun b hb=>by simp at hb;simp[hb]
 frame:=fun _ _ _ st hk=>⟨hk I (by simp) _ st.1,hk S (by simp) _ st.2⟩
 item:=fun i s Q E hi st hQ=>by
  have e1:(pickOrder (w.params.setOrder S ep) es)[i]?=some ((pickOrder (w.params.setOrder S ep) es)[i]'(by omega)):=Array.getElem?_eq_getElem (by omega)
  refine Z8 bt st.1 st.2 hd hf e1 fun h' g sb=>?_;exact hQ _ h' s.toks ⟨_,e1,rfl⟩ ⟨g,(sb.2 S ne1).trans st.2⟩ fun b ob hb e=>(sb.2 b (by simpa using hb)).trans e
 done:=fun s Q E st hQ=>Wi hh bt st.1 st.2 hd hf (Array.getElem?_eq_none (by omega)) fun h' k=>hQ h' s.toks fun b ob hb e=>k b ob (by simpa using hb) e
 self:=fun _ _ _ _ st hQ=>Jc st.1 hQ
theorem Zz(hh:A.handled=none)(bt:w.params.followText "set-order"=false)(ne1:S≠I)(hd:o.data=.set es ep t)(hf:t.fits es.size=true)(hl:t.led=true)(h1:(!t.plain&&decide (es.size > 1))=false)(hst:∀ i j:Nat,t.place[i]?=some j->SetTable.below t.place (j+1)=i+1) :
  Walks P w A I [I,S] [I] es.size (fun i v=>∃ x,es[i]?=some x/\v=x.2) (fun i h=>(∃ slot:Nat,h.get? I=some (fW (.int (slot:Int) 0) i S es.size ep)/\SetTable.below t.place slot=i)/\h.get? S=some o) where
 sub:=fun b hb=>by simp at hb;simp[hb]
 frame:=fun _ _ _ st hk=>⟨let ⟨slot,e,q⟩:=st.1;⟨slot,hk I (by simp) _ e,q⟩,hk S (by simp) _ st.2⟩
 item:=fun i s Q E hi st hQ=>by
  obtain⟨⟨slot,e,q⟩,hS⟩:=st;have hpl:t.place.size=es.size:=by
   simp only[SetTable.fits,Bool.and_eq_true,beq_iff_eq]at hf;exact hf.1
  refine Ja hh bt e hS hd hf hl h1 (fun x j h' g1 g2 g3 sb=>?_) fun h' g _=>?_
  ·rw[q]at g1 g2;exact hQ _ h' s.toks ⟨x,g1,rfl⟩ ⟨⟨j+1,g3,hst i j g2⟩,(sb.2 S ne1).trans hS⟩ fun b ob hb e=>(sb.2 b (by simpa using hb)).trans e
  ·rw[q,Array.getElem?_eq_getElem hi]at g
   cases g
 done:=fun s Q E st hQ=>by
  obtain⟨⟨slot,e,q⟩,hS⟩:=st;refine Ja hh bt e hS hd hf hl h1 (fun x j h' g1 g2 g3 sb=>?_) fun h' g k=>hQ h' s.toks fun b ob hb e=>k b ob (by simpa using hb) e
  rw[q,Array.getElem?_eq_none (Nat.le_refl _)]at g1
  cases g1
 self:=fun _ _ _ _ st hQ=>let ⟨⟨_,e,_⟩,_⟩:=st;Jc e hQ
end
end DL
namespace DL
open PySem PySem.Spec PyProof.Rows L2
theorem Bv{α:Type}:∀ {l:List α} {n:Nat} (h:n<l.length),(l[n]::l.eraseIdx n).Perm l
 | x::l,0,h=>List.Perm.refl _
 | x::l,n+1,h=>by
  have ih:=Bv (l:=l) (n:=n) (by simpa using h)
  rw[List.eraseIdx_cons_succ];exact(List.Perm.swap _ _ _).trans (ih.cons x)
theorem Lk{α:Type}(next:Nat->Nat):∀ (fuel k:Nat) (left:List α) (out:Array α),left.length=fuel->(pickOrder.go next fuel k left out).toList.Perm (out.toList++left)
 | 0,k,left,out,h=>by
  have:left=[]:=List.length_eq_zero_iff.mp h
  subst this;simp[pickOrder.go]
 | fuel+1,k,left,out,h=>by
  have lt:next k%left.length<left.length:=Nat.mod_lt _ (by omega)
  unfold pickOrder.go;rw[List.getElem?_eq_getElem lt];dsimp only;refine(Lk next fuel (k+1) _ _ (by rw[List.length_eraseIdx_of_lt lt];omega)).trans ?_
  rw[Array.toList_push,List.append_assoc];exact List.Perm.append_left _ (Bv lt)
theorem N6{α:Type}(next:Nat->Nat)(xs:Array α):(pickOrder next xs).toList.Perm xs.toList:=by
 unfold pickOrder;have:=Lk next xs.size 0 xs.toList #[] (by simp)
 simpa using this
section
variable {P:Program}{w:World}{A:Around}{E:Value->Shared->Prop}{s:Shared}{I S T:Addr}{o:Obj}{es:Array (Int×Value)}{ep i slot:Nat}{t:SetTable}
theorem Rx{src:Source}{n:Nat}{Q:Nat->Shared->Prop}(hn:n≠0)(h:∀ i d',i<n->Q i {s with drawn:=d'}):wpAny (model P w) A (choose src n) Q E s:=fun Γ p hΓ=>by
 unfold choose;rw[Sem.wp_choose];refine⟨hn,?_⟩;rw[Sem.wp_pure];exact h _ _ (Nat.mod_lt _ (by omega))
theorem Lm{α:Type}:∀ (n:Nat) (xs:List α) (s:Shared) (Q:List α->Shared->Prop),xs.length=n->(∀ ys d',ys.Perm xs->Q ys {s with drawn:=d'})->wpAny (model P w) A (drawOrder n xs) Q E s
 | 0,xs,s,Q,hl,h=>by
  have:xs=[]:=List.length_eq_zero_iff.mp hl
  subst this;unfold drawOrder;exact wpAny_pure (h [] s.drawn (List.Perm.refl _))
 | n+1,[],s,Q,hl,h=>by cases hl
 | n+1,x::xs,s,Q,hl,h=>by
  unfold drawOrder;refine wpAny_bind (Rx (by simp) fun i d' hi=>?_)
  rw[List.getElem?_eq_getElem hi];dsimp only;refine wpAny_bind (Lm n ((x::xs).eraseIdx i) _ _ (by rw[List.length_eraseIdx_of_lt hi];simp at hl ⊢;omega) fun ys d'' hp=>?_)
  refine wpAny_pure (h _ d'' ?_);exact(List.Perm.cons _ hp).trans (Bv hi)
theorem Uz{Q:Value->Shared->Prop}(hS:s.heap.get? S=some o)(hx:o.ExactSet)(hd:o.data=.set es ep t)(hf:t.fits es.size=true)(hz:es.size<=60)
  (hA:w.params.followText "set-order"=false->t.plain=false->1<es.size->∀ (ys:List Nat) (d':Drawn),ys.Perm (List.range es.size)->Q (.ref (s.heap.objs.size+1)) {s with drawn:=d',heap:=(s.heap.push {cls:=.type "tuple",data:=.seq (ys.map fun q:Nat=>Value.int q 0).toArray}).push (fW (.ref s.heap.objs.size) 0 S es.size ep)})
  (hB:w.params.followText "set-order"=true\/t.plain=true\/es.size<=1->Q (.ref s.heap.objs.size) {s with heap:=s.heap.push (fW (.int 0 0) 0 S es.size ep)}):wpAny (model P w) A (pyIter (.ref S)) Q E s:=by
 have hT:s.TypeIs (.ref S) "set":=⟨o,hS,hx.1⟩
 refine wpAny_pyIter_slot hT PySem.F.slot_set_iter (wpAny_call_entry PySem.F.slot_set_iter hT x9 ?_ (PySem.F.args_set_iter_1 _));unfold Builtin.«frozenset.__iter__» Builtin.Frozenset.slot0 slotArgs;simp only[List.isEmpty_nil,Bool.not_true,Bool.false_eq_true,↓reduceIte,bind_assoc,List.length_nil,bne_self_eq_false];unfold Builtin.Frozenset.addrOf Builtin.Frozenset.sizeOf;refine wpAny_bind (wpAny_pure ?_)
 try dsimp only
 refine wpAny_bind (wpAny_pure ?_);refine wpAny_bind (wpAny_bind (wpAny_setEntries_of hS hd hf (wpAny_pure ?_)));refine wpAny_bind ?_;unfold setDrawn setsByText;refine wpAny_bind (wpAny_setState_of hS hd hf ?_);dsimp only;refine wpAny_bind (wpAny_bind (wpAny_askSetting (wpAny_pure (wpAny_pure ?_))));show wpAny _ _ (if (!w.params.followText "set-order" && (!t.plain&&decide (es.size > 1)))=true then _ else _) _ _ s
 by_cases c:(!w.params.followText "set-order" && (!t.plain&&decide (es.size > 1)))=true
 ·rw[if_pos c];simp only[Bool.and_eq_true,Bool.not_eq_true',decide_eq_true_eq]at c;refine wpAny_bind (Lm _ _ _ _ (by simp) fun ys d' hp=>?_)
  have yl:ys.length=es.size:=by rw[hp.length_eq,List.length_range]
  refine wpAny_bind ?_;unfold newTuple;refine wpAny_newObj_type ?_ ?_
  ·refine wpAny_bind (wpAny_setEpoch_of (s:={s with drawn:=d',heap:=_}) (Heap.get?_push_of_some _ hS) hd hf ?_);refine wpAny_bind ?_;unfold newFields;refine wpAny_newObj_type (wpAny_pure ⟨_,rfl,"set_iterator",_,⟨_,Heap.get?_push_size _ rfl,rfl⟩,jF.lookup,?_⟩) ?_
   ·have:=hA c.1 c.2.1 c.2.2 ys d' hp
    rw[show s.heap.objs.size+1=(s.heap.push {cls:=.type "tuple",data:=.seq (ys.map fun q:Nat=>Value.int q 0).toArray}).objs.size by rw[Heap.size_push]]at this
    exact this
   ·size_fits
  ·show((ys.map fun i:Nat=>rawInt i).toArray).size<=sizeLine
   rw[List.size_toArray,List.length_map,yl,sizeLine_eq];omega
 ·rw[if_neg c];refine wpAny_bind (wpAny_pure (wpAny_bind (wpAny_setEpoch_of hS hd hf (wpAny_bind ?_))));unfold newFields;refine wpAny_newObj_type (wpAny_pure ⟨_,rfl,"set_iterator",_,⟨_,Heap.get?_push_size _ rfl,rfl⟩,jF.lookup,?_⟩) ?_
  ·refine hB ?_
   cases b1:w.params.followText "set-order" with
   | true=>exact .inl rfl
   | false =>
    cases b2:t.plain with
    | true=>exact .inr (.inl rfl)
    | false =>
     rw[b1,b2]at c;simp at c;exact .inr (.inr c)
  ·size_fits
end
end DL
namespace DL
open PySem PySem.Spec PyProof.Rows L2
section
variable {P:Program}{w:World}{A:Around}{E:Value->Shared->Prop}{s:Shared}{I S T:Addr}{o:Obj}{es:Array (Int×Value)}{ep i slot:Nat}{t:SetTable}
theorem Sa{Q:Bool->Shared->Prop}(hT:s.TypeIs (.ref S) "set")(h:Q false s):wpAny (model P w) A (Builtin.List.listLengthHint (.ref S)) Q E s:=by
 unfold Builtin.List.listLengthHint;refine wpAny_bind (wpAny_specialOf hT PySem.F.slot_set_len.lookup ?_);dsimp only;rw[show splitId "set.__len__"=some ("set","__len__") by decide +kernel]
 dsimp only;refine wpAny_bind (wpAny_isInstance (b:=true) hT sub_set_self ?_);rw[if_neg (by simp),if_pos (by decide +kernel)]
 refine wpAny_bind (wpAny_typeOf hT ?_);exact wpAny_pure h
theorem Mc{Pv:Nat->Value->Prop}{acc:Array Value}{n:Nat}{L:List Value}(h:ItemsOf Pv acc n)(hL:L.length=n)(hP:∀ j v,Pv j v->L[j]?=some v):acc.toList=L:=by
 refine List.ext_getElem? fun j=>?_;rw[Array.getElem?_toList]
 cases e:acc[j]? with
 | some v=>exact(hP j v (h.2 j v e)).symm
 | none =>
  have:=Array.getElem?_eq_none_iff.mp e
  rw[List.getElem?_eq_none (by rw[hL,<- h.1];exact this)]
end
end DL
namespace DL
open PySem PySem.Spec PyProof.Rows L2
section
variable {P:Program}{w:World}{A:Around}{E:Value->Shared->Prop}{s:Shared}{S:Addr}{zs:List Str}
theorem TSet.type{h:Heap}(T:TSet P w h S zs):∃ o,h.get? S=some o/\o.cls=.type "set":=let ⟨o,_,_,_,ho,hx,_⟩:=T;⟨o,ho,hx.1⟩
end
end DL
namespace DL
open PySem PySem.Spec PyProof.Rows L2
theorem u7{X:Cx}{pins:List (Addr×Obj)}{σ:L2.St}{H:Hp}{s s':Shared}(I:Inv X pins σ H s)(e1:s'.heap=s.heap)(e2:s'.gens=s.gens)(e3:s'.os=s.os):Inv X pins σ H s':=by
 obtain⟨h,g,d,tk,o⟩:=s;obtain⟨h',g',d',tk',o'⟩:=s';dsimp only at e1 e2 e3;subst e1;subst e2;subst e3;exact⟨I.ok,I.os,I.bare,I.base,I.loc,I.cell,I.free,I.freeC,I.pin,I.hok,I.len⟩
end DL
namespace DL
open PySem PySem.Spec PyProof.Rows L2
section
variable {K:PySem.W.Frag}{Z:Addr->Prop}{m:Mu}{H:Hp}
theorem RD.rw{x:D}{v:V}(h:RD K Z m H x v):RW K Z m H x v:=by
 cases x with
 | dat p=>exact h
 | cel a=>exact h.1
theorem RW.rd{x:D}{v:V}(h:RW K Z m H x v)(hc:∀ a,x=.cel a->(m a).isSome=true):RD K Z m H x v:=by
 cases x with
 | dat p=>exact h
 | cel a=>exact⟨h,hc a rfl⟩
theorem RKW.length{κ:Type}:∀ {fs:List (κ×D)} {vs:List (κ×V)},RKW K Z m H fs vs->vs.length=fs.length
 | [],_,h=>by cases (show _=[] from h);rfl
 | (_,_)::_,_,⟨v,r,h1,_,h3⟩=>by subst h1;rw[List.length_cons,List.length_cons,h3.length]
theorem RKW.look{f:Str}:∀ {fs:List (Str×D)} {vs:List (Str×V)},RKW K Z m H fs vs->(∀ x,fs.lookup f=some x->∃ v,vs.lookup f=some v/\RW K Z m H x v)/\(fs.lookup f=none->vs.lookup f=none)
 | [],_,h=>by cases (show _=[] from h);exact⟨fun x e=>(nomatch e),fun _=>rfl⟩
 | (g,y)::fs,_,⟨v,r,h1,h2,h3⟩=>by
  subst h1;obtain⟨i1,i2⟩:=h3.look (f:=f)
  by_cases e:f=g
  ·have b:(f==g)=true:=beq_iff_eq.mpr e
   simp only[List.lookup,b];exact⟨fun x q=>by cases q;exact⟨v,rfl,h2⟩,fun q=>(nomatch q)⟩
  ·have b:(f==g)=false:=beq_eq_false_iff_ne.mpr e
   simp only[List.lookup,b];exact⟨i1,i2⟩
def putO(f:Str)(v:D):List (Str×D)->List (Str×D)
 | []=>[(f,v)]
 | (g,x)::r=>if g=f then (g,v)::r else (g,x)::putO f v r
theorem RKW.putO{f:Str}{x:D}{v:V}(hx:RW K Z m H x v):∀ {fs:List (Str×D)} {vs:List (Str×V)},RKW K Z m H fs vs->RKW K Z m H (DL.putO f x fs) (cY f v vs)
 | [],_,h=>by cases (show _=[] from h);exact⟨v,[],rfl,hx,rfl⟩
 | (g,y)::fs,_,⟨w,r,h1,h2,h3⟩=>by
  subst h1;unfold DL.putO cY
  by_cases e:g=f
  ·rw[if_pos e,if_pos e];exact⟨v,r,rfl,hx,h3⟩
  ·rw[if_neg e,if_neg e];exact⟨w,_,rfl,h2,h3.putO hx⟩
theorem Ok.o{a:Addr}{N:Str}{fs:List (Str×D)}(ok:Ok K Z m H)(h:m a=some (.o N fs)):∃ C dx vs,H a=some (.ins C dx vs)/\PySem.W.nsIn K mainGlobals N=some (some (.ref C))/\RKW K Z m H fs vs:=by
 obtain⟨o,h1,h2⟩:=ok.g a _ h
 cases o<;>first | exact⟨_,_,_,h1,h2⟩ | exact h2.elim
end
section
variable {X:Cx}{o e:Expr}{es:List Expr}{fo fe:DE}{ga:DA}{pos pos' tpos apos p:Pos}{N f:Str}{C:Addr}
@[simp] def kB(N f:Str)(fo:DE):DE:=fun d m Q=>fo d m fun x m1=>∃ a fs y,x=.cel a/\m1 a=some (.o N fs)/\fs.lookup f=some y/\(∀ b,y=.cel b->(m1 b).isSome=true)/\Q y m1
theorem Ta(g:PySem.W.nsIn X.K mainGlobals N=some (some (.ref C)))(c:Cls X.K C)(n:NoAttr X.K C f)(ho:PE X o (LE X.K fo))(hb:attributeBase o f X.env (eval o X.env)=eval o X.env:=by rfl):PE X (.Attribute o f pos) (LE X.K (kB N f fo)) :=
 PE.imp (Rf ho hb) fun s H Q h=>by
  obtain⟨Z,d,m,R,ok,rs,h,k⟩:=h;refine⟨Z,d,m,_,ok,rs,h,fun x m1 v H1 q e1 ok1 rd=>?_⟩;obtain⟨a,fs,y,rfl,hm,hl,hc,q⟩:=q;obtain⟨C',dx,vs,h1,h2,h3⟩:=ok1.o hm;rw[g]at h2
  cases h2
  obtain⟨v',l1,l2⟩:=h3.look.1 _ hl;obtain⟨rfl,_⟩:=rd;exact⟨a,C,dx,vs,v',rfl,h1,c,n,l1,k y m1 v' H1 q e1 ok1 (l2.rd hc)⟩
@[simp] def uT(N f:Str)(fo fe:DE):DS:=fun E d m=>fe d m fun y m1=>fo d m1 fun x m2=>∃ a fs,x=.cel a/\m2 a=some (.o N fs)/\fs.length<1000/\E.nx d (bC m2 a (.o N (putO f y fs)))
theorem U7(g:PySem.W.nsIn X.K mainGlobals N=some (some (.ref C)))(c:Cls X.K C)(n:NoAttr X.K C f)(he:PE X e (LE X.K fe))(ho:PE X o (LE X.K fo))(hs:swapsWith e (some (.Attribute o f pos')) pos.line X.env=pure false:=by rfl) :
  PS X (.Assign [.Attribute o f pos'] e pos) (LS X.K (uT N f fo fe)):=PS.imp (CB ho he hs) fun E s H h=>by
 obtain⟨Z,d,m,R,ok,rs,h,k,_⟩:=h;refine⟨Z,d,m,_,ok,rs,h,fun y m1 v H1 q e1 ok1 r1=>⟨Z,d,m1,_,ok1,rs.ext e1,q,fun x m2 w H2 q2 e2 ok2 r2=>?_⟩⟩;obtain⟨a,fs,rfl,hm,hl,q⟩:=q2;obtain⟨C',dx,vs,h1,h2,h3⟩:=ok2.o hm;rw[g]at h2
 cases h2
 obtain⟨rfl,_⟩:=r2;refine⟨a,C,dx,vs,rfl,h1,c,n,by rw[h3.length];exact hl,?_⟩
 have e3:Ext X.K Z m2 H2 (bC m2 a (.o N (putO f y fs))) (aE H2 a (.ins C dx (cY f v vs))):=Ext.put ok2 hm h1
 exact k d _ s _ q (e1.trans (e2.trans e3)) (ok2.put hm h1 ⟨g,h3.putO (r1.ext e2).rw⟩) ((rs.ext e1).ext (e2.trans e3))
@[simp] def qJ(N mn:Str)(n:Nat)(sp:DC)(fo:DE)(ga:DA):DE:=fun d m Q=>fo d m fun x m1=>∃ a fs,x=.cel a/\m1 a=some (.o N fs)/\fs.lookup mn=none/\ga d m1 fun xs m2=>(x::xs).length=n/\sp (x::xs) m2 Q
theorem Ty{k n:Nat}{fa:Addr}{fd:FuncData}{ps:List Str}{sp:DC}(g:PySem.W.nsIn X.K mainGlobals N=some (some (.ref C)))(c:Cls X.K C)(hm:Meth X.K C f fa)(F:FnOk X.prog X.w X.K X.mg X.base aP k fa fd ps (LSp X.K n sp))(hr:Room k X.A)(hb:Binds X.K fd ps [])
  (hx:X.xe=fun _ _=>False) (ho:PE X o (LE X.K fo)) (ha:PA X (e::es) (LA X.K ga))
  (hst:starEach (e::es) X.env=(false,eval e X.env)::starEach es X.env:=by rfl) (hpl:(backTo pos (starEach es X.env)).any (·.1)=false:=by rfl) {pl:Sem Bool}
  (ht:eval (.Call (.Attribute o f apos) (e::es) [] pos) X.env=(do
   let ov <- eval o X.env
   standAt apos.atName
   let (f,first) <- holding [ov] (getMethod ov f pl)
   callWith pos f first (backTo pos (starEach (e::es) X.env)) (backToKw pos (keywordEach [] X.env))):=by rfl) :
  PE X (.Call (.Attribute o f apos) (e::es) [] pos) (LE X.K (qJ N f n sp fo ga)) :=
 PE.imp (Ou (pl:=pl) ho c hm F hr hb .nil (Ib (X:=X)) ha hst hpl ht) fun s H Q h=>by
  obtain⟨Z,d,m,R,ok,rs,h,k⟩:=h;refine⟨Z,d,m,_,ok,rs,h,fun x m1 v H1 q e1 ok1 rd=>?_⟩;obtain⟨a,fs,rfl,hm,hl,q⟩:=q;obtain⟨C',dx,vs,h1,h2,h3⟩:=ok1.o hm;rw[g]at h2
  cases h2
  obtain⟨rfl,hsome⟩:=rd;refine⟨a,dx,vs,rfl,h1,h3.look.2 hl,Z,d,m1,_,ok1,rs.ext e1,q,fun xs m2 ws H2 ⟨hl2,q2⟩ e2 ok2 rd2=>?_⟩;exact⟨Z,.cel a::xs,m2,R,ok2,⟨.ref a,ws,by simp,⟨rfl,e2.c _ hsome⟩,rd2⟩,hl2,q2,fun d' m' v' H' h1 h2 h3 h4=>k d' m' v' H' h1 (e1.trans (e2.trans h2)) h3 h4⟩
theorem Ve{k:Nat}{f:Addr}{fd:FuncData}{ps:List Str}{sp:Sp}{pins:List (Addr×Obj)}{σ:L2.St}{H:Hp}{s:Shared}{Q:VK}{us:List Value}{vs:List V}(M:Mk X.K C f)(F:FnOk X.prog X.w X.K X.mg X.base aP k f fd ps sp)(hr:Room (k+1) X.A)(hb:Binds X.K fd ps [])
  (I:Inv X pins σ H s) (r:Vals vs us)
  (h:∀ x dx,H x=none->H dx=none->dx≠x->X.K.lookup x=none->X.K.lookup dx=none->sp (.ref x::vs) (aE (aE H dx (.own x)) x (.ins C dx [])) (fun v H2=>v=.non/\Q (.ref x) H2) E0) :
  wpAny (model X.prog X.w) X.A (call (.ref C) us) (EP X pins σ Q) X.xe s:=by
 have hk:∀ a,s.heap.objs.size<=a->X.K.lookup a=none:=fun a ha=>by
  cases e:X.K.lookup a with
  | none=>rfl
  | some o=>exact absurd (Heap.lt_size (I.kIn _ o e)) (Nat.not_lt.mpr ha)
 have hq:=h (s.heap.objs.size+1) s.heap.objs.size (I.hok.fresh (Nat.le_succ _)) (I.hok.fresh (Nat.le_refl _)) (Nat.ne_of_lt (Nat.lt_succ_self _)) (hk _ (Nat.le_succ _)) (hk _ (Nat.le_refl _))
 have I2:=Inv.made (C:=C) I
 have r2:Vals (V.ref (s.heap.objs.size+1)::vs) (Value.ref (s.heap.objs.size+1)::us):=.cons rfl r
 have hl:(Value.ref (s.heap.objs.size+1)::us++[]).length=ps.length:=by
  have e:=r2.length
  rw[F.len _ _ _ _ hq]at e;rw[List.append_nil];exact e.symm
 have hb':=hb _ (Value.ref (s.heap.objs.size+1)::us) I2.kIn hl
 rw[List.append_nil]at hb';refine wpAny_call (AQ (f:=f) I.kIn M.makes M.init (beq_iff_eq.mp M.fn) (codeAny_mono (F.run _ X.stack _ _ ⟨Value.ref (s.heap.objs.size+1)::us,[]⟩ (Value.ref (s.heap.objs.size+1)::us) _ _ E0 (hr.make C us [])
  (I2.env0.make C us []) hb' r2 hq) fun r s' hq'=>?_))
 cases r with
 | error e=>exact False.elim hq'
 | ok fl =>
  cases fl with
  | ret u =>
   obtain⟨v,H',I3,rv,ev,q3⟩:=I2.after hq';subst ev;exact⟨rv,⟨V.ref (s.heap.objs.size+1),H',I3,rfl,q3⟩⟩
  | next=>exact False.elim hq'
  | brk=>exact False.elim hq'
  | cont=>exact False.elim hq'
@[simp] def tL(N:Str)(n:Nat)(sp:DC)(ga:DA):DE:=fun d m Q=>ga d m fun xs m1=>xs.length+1=n/\∀ a,m1 a=none->sp (.cel a::xs) (bC m1 a (.o N [])) fun v m2=>v=.dat .none/\Q (.cel a) m2
theorem make_core{k n:Nat}{fa:Addr}{fd:FuncData}{ps:List Str}{sp:DC}{pins:List (Addr×Obj)}{σ:L2.St}{H:Hp}{s:Shared}{Q:VK}{us:List Value}{vs:List V}{xs:List D}{Z:Addr->Prop}{m:Mu}{R:DK}
  (g:PySem.W.nsIn X.K mainGlobals N=some (some (.ref C))) (M:Mk X.K C fa) (F:FnOk X.prog X.w X.K X.mg X.base aP k fa fd ps (LSp X.K n sp)) (hr:Room (k+1) X.A) (hb:Binds X.K fd ps [])
  (I:Inv X pins σ H s) (r:Vals vs us) (ok:Ok X.K Z m H) (rd:RDs X.K Z m H xs vs) (hn:xs.length+1=n) (q:∀ a,m a=none->sp (.cel a::xs) (bC m a (.o N [])) fun v m2=>v=.dat .none/\R (.cel a) m2)
  (k:∀ x m' v H',R x m'->Ext X.K Z m H m' H'->Ok X.K Z m' H'->RD X.K Z m' H' x v->Q v H'):wpAny (model X.prog X.w) X.A (call (.ref C) us) (EP X pins σ Q) X.xe s:=by
 refine Ve M F hr hb I r fun x dx hx hdx ne kx kdx=>?_;have sm:Same H (aE H dx (.own x)):=bT hdx
 have ok1:=ok.grow sm
 have e1:=ok.ext sm
 have hx1:aE H dx (.own x) x=none:=by rw[aV (Ne.symm ne)];exact hx
 have e2:Ext X.K Z m (aE H dx (.own x)) (bC m x (.o N [])) (aE (aE H dx (.own x)) x (.ins C dx [])):=Ext.cell ok1 hx1 kx
 have ok2:Ok X.K Z (bC m x (.o N [])) (aE (aE H dx (.own x)) x (.ins C dx [])):=ok1.cell hx1 kx ⟨g,rfl⟩
 refine⟨Z,.cel x::xs,bC m x (.o N []),_,ok2,⟨.ref x,vs,rfl,⟨rfl,by rw[bZ];rfl⟩,rd.ext (e1.trans e2)⟩,by simpa using hn,q x (eU ok hx).1,fun d m' v' H' ⟨h1,h2⟩ e3 ok3 r3=>?_⟩
 subst h1;refine⟨by simpa only[RD,RP] using r3,k _ m' _ H' h2 (e1.trans (e2.trans e3)) ok3 ⟨rfl,e3.c _ (by rw[bZ];rfl)⟩⟩
theorem Pb{k n:Nat}{fa:Addr}{fd:FuncData}{ps:List Str}{sp:DC}(g:PySem.W.nsIn X.K mainGlobals N=some (some (.ref C)))(M:Mk X.K C fa)(hm:X.mg N=some (.ref C))(F:FnOk X.prog X.w X.K X.mg X.base aP k fa fd ps (LSp X.K n sp))(hr:Room (k+1) X.A)(hb:Binds X.K fd ps [])
  (hg:Gl X N:=by rfl) (hdb:(N==("__debug__" : Str))=false:=by decide):PE X (.Call (.Name N p) [] [] pos) (LE X.K (tL N n sp aN)):=by
 intro pins s σ H Q I h;obtain⟨Z,d,m,R,ok,rs,⟨q1,q2⟩,k⟩:=h;refine wpAny_Call_Name_kw (Fv I hg hm ?_ hdb);exact PySem.W.callWith_K0 I.kIn M.kp (make_core g M F hr hb I .nil ok (show RDs X.K Z m H [] [] from rfl) q1 q2 k)
end
end DL
namespace DL
open PySem PySem.Spec PyProof.Rows L2
section
variable {κ β:Type}[DecidableEq κ]
def cJ(kvs:List (κ×β))(k:κ):Option β:=(kvs.find? fun kv=>decide (kv.1=k)).map (·.2)
def fD(kvs:List (κ×β))(k:κ)(v:β):List (κ×β) :=
 if (kvs.any fun kv=>decide (kv.1=k))=true then kvs.map (fun kv=>if kv.1=k then (kv.1,v) else kv) else kvs++[(k,v)]
theorem hW{p:κ×β}{r:List (κ×β)}{k:κ}(e:p.1=k):cJ (p::r) k=some p.2:=by simp[cJ,List.find?_cons,e]
theorem hV{p:κ×β}{r:List (κ×β)}{k:κ}(e:¬ p.1=k):cJ (p::r) k=cJ r k:=by simp[cJ,List.find?_cons,e]
theorem Dn(k:κ):∀ kvs:List (κ×β),(kvs.any fun kv=>decide (kv.1=k))=(cJ kvs k).isSome
 | []=>rfl
 | p::r=>by
  rw[List.any_cons]
  by_cases e:p.1=k
  ·simp only[hW e,decide_eq_true e,Bool.true_or,Option.isSome_some]
  ·rw[hV e,decide_eq_false e,Bool.false_or];exact Dn k r
theorem Nj(k j:κ)(y:β):∀ kvs:List (κ×β),cJ (kvs.map fun kv=>if kv.1=k then (kv.1,y) else kv) j=(cJ kvs j).map fun x=>if j=k then y else x
 | []=>rfl
 | p::r=>by
  have ih:=Nj k j y r
  rw[List.map_cons]
  by_cases h:p.1=k
  ·rw[if_pos h]
   by_cases e:p.1=j
   ·rw[hW (p:=(p.1,y)) e,hW e,Option.map_some,if_pos (e.symm.trans h)]
   ·rw[hV (p:=(p.1,y)) e,hV e,ih]
  ·rw[if_neg h]
   by_cases e:p.1=j
   ·rw[hW (p:=p) e,hW e,Option.map_some,if_neg (fun z=>h (e.trans z))]
   ·rw[hV (p:=p) e,hV e,ih]
theorem Ls(k j:κ)(y:β):∀ kvs:List (κ×β),cJ kvs k=none->cJ (kvs++[(k,y)]) j=if j=k then some y else cJ kvs j
 | [],_=>by
  by_cases e:k=j
  ·rw[if_pos e.symm];exact hW (p:=(k,y)) e
  ·rw[if_neg (fun z=>e z.symm)];exact hV (p:=(k,y)) e
 | p::r,hn=>by
  rw[List.cons_append];have hk:¬ p.1=k:=fun z=>by rw[hW z]at hn;cases hn
  rw[hV hk]at hn;have ih:=Ls k j y r hn
  by_cases e:p.1=j
  ·rw[hW e,hW e,if_neg (fun z=>hk (e.trans z))]
  ·rw[hV e,hV e,ih]
theorem Lx(kvs:List (κ×β))(k j:κ)(y:β):cJ (fD kvs k y) j=if j=k then some y else cJ kvs j:=by
 unfold fD
 by_cases a:(kvs.any fun kv=>decide (kv.1=k))=true
 ·rw[if_pos a,Nj];rw[Dn]at a
  by_cases e:j=k
  ·obtain⟨x,hx⟩:=Option.isSome_iff_exists.mp a;rw[if_pos e,e,hx,Option.map_some,if_pos rfl]
  ·rw[if_neg e]
   cases cJ kvs j with
   | none=>rfl
   | some x=>rw[Option.map_some,if_neg e]
 ·rw[if_neg a];refine Ls k j y kvs ?_;rw[Dn]at a
  cases q:cJ kvs k with
  | none=>rfl
  | some x=>rw[q]at a;exact(a rfl).elim
theorem Y9(kvs:List (κ×β))(k:κ)(v:β):(fD kvs k v).length<=kvs.length+1:=by
 unfold fD
 split
 ·rw[List.length_map];omega
 ·rw[List.length_append,List.length_cons,List.length_nil];omega
end
section
variable {κ:Type}[DecidableEq κ]{K:PySem.W.Frag}{Z:Addr->Prop}{m:Mu}{H:Hp}
theorem RKW.val{k:κ}:∀ {kvs:List (κ×D)} {vs:List (κ×V)},RKW K Z m H kvs vs->(∀ x,cJ kvs k=some x->∃ v,bP vs k=some v/\RW K Z m H x v)/\(cJ kvs k).isSome=(bP vs k).isSome
 | [],_,h=>by cases (show _=[] from h);exact⟨fun x e=>(nomatch e),rfl⟩
 | (g,y)::fs,_,⟨v,r,h1,h2,h3⟩=>by
  subst h1;obtain⟨i1,i2⟩:=h3.val (k:=k)
  by_cases e:g=k
  ·rw[hW (p:=(g,y)) e,qO (p:=(g,v)) e];exact⟨fun x q=>by cases q;exact⟨v,rfl,h2⟩,rfl⟩
  ·rw[hV (p:=(g,y)) e,sI (p:=(g,v)) e];exact⟨i1,i2⟩
theorem RKW.any{k:κ}:∀ {kvs:List (κ×D)} {vs:List (κ×V)},RKW K Z m H kvs vs->(vs.any fun kv=>decide (kv.1=k))=(kvs.any fun kv=>decide (kv.1=k))
 | [],_,h=>by cases (show _=[] from h);rfl
 | (g,y)::fs,_,⟨v,r,h1,h2,h3⟩=>by subst h1;rw[List.any_cons,List.any_cons,h3.any]
theorem RKW.repl{k:κ}{x:D}{v:V}(hx:RW K Z m H x v):∀ {kvs:List (κ×D)} {vs:List (κ×V)},RKW K Z m H kvs vs->RKW K Z m H (kvs.map fun kv=>if kv.1=k then (kv.1,x) else kv) (vs.map fun kv=>if kv.1=k then (kv.1,v) else kv)
 | [],_,h=>by cases (show _=[] from h);rfl
 | (g,y)::fs,_,⟨w,r,h1,h2,h3⟩=>by
  subst h1;rw[List.map_cons,List.map_cons]
  by_cases e:g=k
  ·rw[if_pos (show((g,y):κ×D).1=k from e),if_pos (show((g,w):κ×V).1=k from e)];exact⟨v,_,rfl,hx,h3.repl hx⟩
  ·rw[if_neg (show ¬ ((g,y):κ×D).1=k from e),if_neg (show ¬ ((g,w):κ×V).1=k from e)];exact⟨w,_,rfl,h2,h3.repl hx⟩
theorem RKW.snoc{k:κ}{x:D}{v:V}(hx:RW K Z m H x v):∀ {kvs:List (κ×D)} {vs:List (κ×V)},RKW K Z m H kvs vs->RKW K Z m H (kvs++[(k,x)]) (vs++[(k,v)])
 | [],_,h=>by cases (show _=[] from h);exact⟨v,[],rfl,hx,rfl⟩
 | (g,y)::fs,_,⟨w,r,h1,h2,h3⟩=>by subst h1;exact⟨w,_,rfl,h2,h3.snoc hx⟩
theorem RKW.put{k:κ}{x:D}{v:V}{kvs:List (κ×D)}{vs:List (κ×V)}(h:RKW K Z m H kvs vs)(hx:RW K Z m H x v):RKW K Z m H (fD kvs k x) (bS vs k v):=by
 unfold fD bS;rw[h.any]
 split
 ·exact h.repl hx
 ·exact h.snoc hx
theorem Ok.n{a:Addr}{kvs:List (List PyData×D)}(ok:Ok K Z m H)(h:m a=some (.n kvs)):∃ vs,H a=some (.dN K vs)/\RKW K Z m H kvs vs:=by
 obtain⟨o,h1,h2⟩:=ok.g a _ h
 cases o<;>first | (obtain⟨rfl,h2⟩:=h2;exact⟨_,h1,h2⟩) | exact h2.elim
mutual
theorem RP.nkv:∀ (p:PyData) (v:V),L2.isK p=true->RP K Z m H p v->NKV K H p v
 | .int _,_,_,h=>by simp only[RP]at h;simp only[NKV];exact h
 | .str _,_,_,h=>by simp only[RP]at h;simp only[NKV];exact h
 | .tuple xs,_,hk,h=>by
  simp only[RP]at h;simp only[NKV];obtain⟨a,vs,e,h1,h2⟩:=h;exact⟨a,vs,e,h1,RPs.nkv xs vs hk h2⟩
 | .none,_,h,_ | .bool _,_,h,_ | .list _,_,h,_ | .dict _,_,h,_=>by simp[L2.isK]at h
theorem RPs.nkv:∀ (ps:List PyData) (vs:List V),L2.isKs ps=true->RPs K Z m H ps vs->NKVs K H ps vs
 | [],_,_,h=>by simp only[RPs]at h;simp only[NKVs];exact h
 | p::ps,_,hk,h=>by
  simp only[L2.isKs,Bool.and_eq_true]at hk;simp only[RPs]at h;simp only[NKVs];obtain⟨v,r,e,h1,h2⟩:=h;exact⟨v,r,e,RP.nkv p v hk.1 h1,RPs.nkv ps r hk.2 h2⟩
end
end
section
variable {X:Cx}{pins:List (Addr×Obj)}{σ:L2.St}{H:Hp}{s:Shared}
mutual
theorem NKV.reads(I:Inv X pins σ H s):∀ (p:PyData) (v:V) (u:Value),NKV X.K H p v->RelV v u->∃ as,Reads s.heap u p as
 | .int i,v,u,h,r=>by simp only[NKV]at h;subst h;obtain⟨t,rfl⟩:=r;exact⟨_,.int i t⟩
 | .str x,v,u,h,r=>by simp only[NKV]at h;subst h;obtain⟨t,rfl⟩:=r;exact⟨_,.str x t⟩
 | .tuple xs,v,u,h,r=>by
  simp only[NKV]at h;obtain⟨a,vs,rfl,h2,h3⟩:=h
  cases r
  obtain⟨its,rv,⟨o,e,c,n,d⟩,_⟩:=I.tuple h2;obtain⟨as,q⟩:=NKVs.reads I xs vs its h3 rv;exact⟨_,.tuple e c d (by simpa using q)⟩
 | .none,_,_,h,_ | .bool _,_,_,h,_ | .list _,_,_,h,_ | .dict _,_,_,h,_=>by simp only[NKV]at h
theorem NKVs.reads(I:Inv X pins σ H s):∀ (xs:List PyData) (vs:List V) (us:List Value),NKVs X.K H xs vs->Vals vs us->∃ as,ReadsAll s.heap us xs as
 | [],vs,us,h,r=>by simp only[NKVs]at h;subst h;cases r;exact⟨_,.nil⟩
 | x::xs,vs,us,h,r=>by
  simp only[NKVs]at h;obtain⟨v,w,rfl,h1,h2⟩:=h
  cases r with
  | cons r1 r2 =>
   obtain⟨as,q1⟩:=NKV.reads I x v _ h1 r1;obtain⟨bs,q2⟩:=NKVs.reads I xs w _ h2 r2;exact⟨_,.cons q1 q2⟩
end
abbrev KN(K:PySem.W.Frag)(H:Hp):List (List PyData×V)->List (List PyData×Addr×Value)->Prop :=
 Paired fun p q=>p.1=q.1/\(L2.isKs p.1=true/\PyData.depthAll p.1<=6/\NKV K H (.tuple p.1) (.ref q.2.1))/\RelV p.2 q.2.2
theorem KN.val{K:PySem.W.Frag}{kvs:List (List PyData×V)}{xs:List (List PyData×Addr×Value)}(r:KN K H kvs xs)(k:List PyData):RelO (bP kvs k) ((atKey xs k).map (·.2)):=by
 induction r with
 | nil=>exact True.intro
 | @cons p q ps qs h t ih =>
  obtain⟨h1,_,h2⟩:=h
  by_cases e:p.1=k
  ·have e':q.1=k:=h1.symm.trans e
   have b:atKey (q::qs) k=some q.2:=by simp[atKey,List.find?_cons,e']
   rw[qO e,b];exact h2
  ·have e':¬ q.1=k:=fun z=>e (h1.trans z)
   have b:atKey (q::qs) k=atKey qs k:=by simp[atKey,List.find?_cons,e']
   rw[sI e,b];exact ih
theorem KN.repl{K:PySem.W.Frag}{kvs:List (List PyData×V)}{xs:List (List PyData×Addr×Value)}(r:KN K H kvs xs)(k:List PyData){y:V}{u:Value}(ry:RelV y u) :
  KN K H (kvs.map fun kv=>if kv.1=k then (kv.1,y) else kv) (xs.map (putAt k u)):=by
 induction r with
 | nil=>exact .nil
 | @cons p q ps qs h t ih =>
  rw[List.map_cons,List.map_cons];refine .cons ?_ ih;obtain⟨h1,h2,h3⟩:=h;unfold putAt
  by_cases e:p.1=k
  ·rw[if_pos e,if_pos (h1.symm.trans e)];exact⟨h1,h2,ry⟩
  ·rw[if_neg e,if_neg (fun z=>e (h1.trans z))];exact⟨h1,h2,h3⟩
theorem KN.put{K:PySem.W.Frag}{kvs:List (List PyData×V)}{xs:List (List PyData×Addr×Value)}(r:KN K H kvs xs)(k:List PyData){b:Addr}{y:V}{u:Value}(hb:L2.isKs k=true/\PyData.depthAll k<=6/\NKV K H (.tuple k) (.ref b))(ry:RelV y u) :
  KN K H (bS kvs k y) (storedH xs k b u):=by
 have e:(kvs.any fun kv=>decide (kv.1=k))=(atKey xs k).isSome:=by
  rw[yD,(r.val k).isSome_eq,Option.isSome_map]
 unfold bS storedH;rw[e]
 by_cases q:(atKey xs k).isSome=true
 ·rw[if_pos q,if_pos q];exact r.repl k ry
 ·rw[if_neg q,if_neg q];exact Paired.snoc r ⟨rfl,hb,ry⟩
theorem tM(I:Inv X pins σ H s){k:List PyData}{b:Addr}(h:L2.isKs k=true/\PyData.depthAll k<=6/\NKV X.K H (.tuple k) (.ref b)):(qL X.prog X.w).is s.heap k b :=
 ⟨h.1,h.2.1,NKV.reads I _ _ _ h.2.2 rfl⟩
theorem Ds{a:Addr}{kvs:List (List PyData×V)}(I:Inv X pins σ H s)(e:H a=some (.dN X.K kvs)):kvs.length<=sizeLine/\(a==sysModules)=false/\∃ xs,KN X.K H kvs xs/\s.heap.DictOfH (qL X.prog X.w) a xs:=by
 obtain⟨z,y,xs,r,o,es,ep,h1,h2,h3,h4,h5⟩:=(show ObjOk X.prog X.w H s.heap a (.dN X.K kvs) from I.hok a _ e)
 refine⟨z,y,xs,r,o,es,ep,h1,h2,h3,h4,fun x hx=>?_,h5⟩;have all:∀ {l:List (List PyData×V)} {m:List (List PyData×Addr×Value)},KN X.K H l m->∀ x∈m,(qL X.prog X.w).is s.heap x.1 x.2.1:=by
  intro l m q
  induction q with
  | nil=>intro x hx;exact nomatch hx
  | @cons p q ps qs hq t ih =>
   intro x hx;rcases List.mem_cons.mp hx with e | hx
   ·subst e;exact tM I (by rw[<- hq.1];exact hq.2.1)
   ·exact ih x hx
 exact all r x hx
theorem As{A:Around}(hu:A.units+100<cLine):(qL X.prog X.w).room A.in1:=by
 show A.in1.units+20<cLine
 rw[Around.in1_units];omega
end
section
variable {X:Cx}{o i e:Expr}{fo fi f:DE}{pos tpos:Pos}
@[simp] def gJ:D->Option (List PyData)
 | .dat (.tuple ks)=>if L2.isKs ks=true/\PyData.depthAll ks<=6 then some ks else none
 | _=>none
theorem yJ{y:D}{ks:List PyData}(h:gJ y=some ks):y=.dat (.tuple ks)/\L2.isKs ks=true/\PyData.depthAll ks<=6:=by
 unfold gJ at h
 split at h
 ·split at h
  ·rename_i q;cases h;exact⟨rfl,q⟩
  ·cases h
 ·cases h
@[simp] def tQ:DE:=fun _ m Q=>∀ a,m a=none->Q (.cel a) (bC m a (.n []))
theorem Q1{P:Program}{w:World}{H:Hp}{K:PySem.W.Frag}(h:Heap)(hb:sysModules<h.objs.size):ObjOk P w H (h.push {cls:=.type "dict",data:=.dict #[]}) h.objs.size (.dN K []) :=
 ⟨Nat.zero_le _,by rw[beq_eq_false_iff_ne];exact(Nat.ne_of_lt hb).symm,[],.nil,_,_,_,Heap.get?_push_size _ rfl,⟨rfl,rfl,rfl⟩,rfl,rfl,List.nodup_nil⟩
theorem Yr:PE X (.Dict [] [] pos) (LE X.K tQ):=by
 intro pins s σ H Q I h;obtain⟨Z,d,m,R,ok,rs,h,k⟩:=h;have hp:H s.heap.objs.size=none:=I.hok.fresh (Nat.le_refl _)
 have hk:X.K.lookup s.heap.objs.size=none:=by
  cases e:X.K.lookup s.heap.objs.size with
  | none=>rfl
  | some o=>exact absurd (Heap.lt_size (I.kIn _ o e)) (Nat.lt_irrefl _)
 refine wpAny_Dict_empty ⟨.ref s.heap.objs.size,_,I.laid (a:=s.heap.objs.size) (o:=.dN X.K []) (t':=s.toks) (fun _ _ q=>Heap.get?_push_of_some _ q) (Nat.le_refl _) (Q1 s.heap I.big),rfl,?_⟩;exact k _ _ _ _ (h _ (eU ok hp).1) (Ext.cell ok hp hk) (ok.cell hp hk (show RC _ _ _ _ (.n []) (.dN X.K []) from⟨rfl,rfl⟩)) ⟨rfl,by rw[bZ];rfl⟩
@[simp] def sY(fo fi:DE):DE:=fun d m Q=>fo d m fun o m1=>fi d m1 fun y m2=>∃ c ks kvs x,o=.cel c/\gJ y=some ks/\m2 c=some (.n kvs)/\cJ kvs ks=some x/\(∀ b,x=.cel b->(m2 b).isSome=true)/\Q x m2
theorem W4(hu:X.A.units+100<cLine)(ho:PE X o (LE X.K fo))(hi:PE X i (LE X.K fi))(hs:kF i:=by exact fun _ _=>rfl):PE X (.Subscript o i pos) (LE X.K (sY fo fi)):=by
 intro pins s σ H Q I h;obtain⟨Z,d,m,R,ok,rs,h,k⟩:=h;refine yF PySem.F.slot_dict_getitem.lookup hs (aI (ho pins s σ H (fun x H1=>∃ (ox:D) (m1:Mu),RD X.K Z m1 H1 ox x/\(fi d m1 fun y m2=>∃ c ks kvs x,ox=.cel c/\gJ y=some ks/\m2 c=some (.n kvs)/\cJ kvs ks=some x/\(∀ b,x=.cel b->(m2 b).isSome=true)/\R x m2)/\Ext X.K Z m H m1 H1/\Ok X.K Z m1 H1) I
  ⟨Z,d,m,_,ok,rs,h,fun x m1 v H1 q e1 ok1 rd=>⟨x,m1,rd,q,e1,ok1⟩⟩) fun u s1 ⟨x,H1,I1,rx,ox,m1,rd,q,e1,ok1⟩=>?_)
 refine aI (hi pins s1 σ H1 (fun y H2=>∃ m2 c ks kvs w,x=.ref c/\RD X.K Z m2 H2 (.dat (.tuple ks)) y/\(L2.isKs ks=true/\PyData.depthAll ks<=6)/\m2 c=some (.n kvs)/\cJ kvs ks=some w/\(∀ b,w=.cel b->(m2 b).isSome=true)/\R w m2/\Ext X.K Z m1 H1 m2 H2/\Ok X.K Z m2 H2) I1
  ⟨Z,d,m1,_,ok1,rs.ext e1,q,fun y m2 v2 H2 ⟨c,ks,kvs,w,eo,ey,hm,hv,hc,q2⟩ e2 ok2 r2=>by subst eo;obtain⟨rfl,hk⟩:=yJ ey;obtain⟨rfl,_⟩:=rd;exact⟨m2,c,ks,kvs,w,rfl,r2,hk,hm,hv,hc,q2,e2,ok2⟩⟩) fun iv s2 ⟨y,H2,I2,ry,m2,c,ks,kvs,w,ex,r2,hk,hm,hv,hc,q2,e2,ok2⟩=>?_
 subst ex;obtain rfl:u=Value.ref c:=rx;have r3:=RP.nkv (.tuple ks) y hk.1 r2
 have r4:=r3
 simp only[NKV]at r4;obtain⟨b,vs,rfl,_⟩:=r4;obtain rfl:iv=Value.ref b:=ry;obtain⟨ws,g1,g2⟩:=ok2.n hm;obtain⟨v,hv',rv⟩:=g2.val.1 _ hv;obtain⟨z,hd,xs,rel,dd⟩:=Ds I2 g1;obtain⟨w',hw,rw'⟩:=RelO.some_of (v:=v) (o:=(atKey xs ks).map (·.2)) (by rw[<- hv'];exact rel.val ks)
 obtain⟨pr,hp,hp2⟩:=Option.map_eq_some_iff.mp hw;refine⟨dd.typeIs,wpAny_getItem_heap (As hu) (tM I2 ⟨hk.1,hk.2,r3⟩) dd hp ?_⟩;rw[hp2];exact⟨v,H2,I2.tok _,rw',k _ m2 v H2 q2 (e1.trans e2) ok2 (rv.rd hc)⟩
@[simp] def wL(fo fi f:DE):DS:=fun E d m=>f d m fun x m1=>fo d m1 fun o m2=>fi d m2 fun y m3=>∃ c ks kvs,o=.cel c/\gJ y=some ks/\m3 c=some (.n kvs)/\kvs.length<sizeLine/\E.nx d (bC m3 c (.n (fD kvs ks x)))
theorem O9(hu:X.A.units+100<cLine)(he:PE X e (LE X.K f))(ho:PE X o (LE X.K fo))(hi:PE X i (LE X.K fi))(hs:swapsWith e (some (.Subscript o i tpos)) pos.line X.env=pure false:=by rfl) :
  PS X (.Assign [.Subscript o i tpos] e pos) (LS X.K (wL fo fi f)):=by
 intro pins s σ H D I h;obtain⟨Z,d,m,R,ok,rs,h,k,_⟩:=h;refine wpAny_Assign_Subscript (aI (he pins s σ H (fun v H1=>∃ (x:DL.D) (m1:Mu),RD X.K Z m1 H1 x v/\(fo d m1 fun o m2=>fi d m2 fun y m3=>∃ c ks kvs,o=.cel c/\gJ y=some ks/\m3 c=some (.n kvs)/\kvs.length<sizeLine/\R.nx d (bC m3 c (.n (fD kvs ks x))))/\Ext X.K Z m H m1 H1/\Ok X.K Z m1 H1) I
  ⟨Z,d,m,_,ok,rs,h,fun x m1 v H1 q e1 ok1 rd=>⟨x,m1,rd,q,e1,ok1⟩⟩) fun r s1 ⟨v,H1,I1,rv,x,m1,rx,q,e1,ok1⟩=>?_) hs
 refine aI (ho pins s1 σ H1 (fun w H2=>∃ (ox:DL.D) (m2:Mu),RD X.K Z m2 H2 ox w/\(fi d m2 fun y m3=>∃ c ks kvs,ox=.cel c/\gJ y=some ks/\m3 c=some (.n kvs)/\kvs.length<sizeLine/\R.nx d (bC m3 c (.n (fD kvs ks x))))/\Ext X.K Z m1 H1 m2 H2/\Ok X.K Z m2 H2) I1
  ⟨Z,d,m1,_,ok1,rs.ext e1,q,fun o m2 w H2 q2 e2 ok2 r2=>⟨o,m2,r2,q2,e2,ok2⟩⟩) fun u s2 ⟨w,H2,I2,rw2,ox,m2,ro,q2,e2,ok2⟩=>?_
 refine aI (hi pins s2 σ H2 (fun z H3=>∃ (y:DL.D) (m3:Mu),RD X.K Z m3 H3 y z/\(∃ c ks kvs,ox=.cel c/\gJ y=some ks/\m3 c=some (.n kvs)/\kvs.length<sizeLine/\R.nx d (bC m3 c (.n (fD kvs ks x))))/\Ext X.K Z m2 H2 m3 H3/\Ok X.K Z m3 H3) I2
  ⟨Z,d,m2,_,ok2,(rs.ext e1).ext e2,q2,fun y m3 z H3 q3 e3 ok3 r3=>⟨y,m3,r3,q3,e3,ok3⟩⟩) fun iv s3 ⟨z,H3,I3,rz,y,m3,ry,⟨c,ks,kvs,eo,ey,hm,hl,q3⟩,e3,ok3⟩=>?_
 subst eo;obtain⟨rfl,hk⟩:=yJ ey;obtain⟨rfl,_⟩:=ro;obtain rfl:u=Value.ref c:=rw2;have r3:=RP.nkv (.tuple ks) z hk.1 ry
 have r4:=r3
 simp only[NKV]at r4;obtain⟨b,vs,rfl,_⟩:=r4;obtain rfl:iv=Value.ref b:=rz;obtain⟨ws,g1,g2⟩:=ok3.n hm;obtain⟨z,hd,xs,rel,dd⟩:=Ds I3 g1;have hz:xs.length<=sizeLine:=by rw[<- Paired.length rel];exact z
 have hl2:(bS ws ks v).length<=sizeLine:=by have:=vX ws ks v;rw[g2.length]at this;omega
 refine wpAny_setItem_heap (hsz:=hz) (As hu) (tM I3 ⟨hk.1,hk.2,r3⟩) dd fun h' dd' hs'=>?_;obtain⟨q,es,ep,hq,h2,h3,h4,_,h5⟩:=dd';have ht:∀ b' xs',H3 b'=some (.tup xs')->aE H3 c (.dN X.K (bS ws ks v)) b'=some (.tup xs'):=fun b' xs' e=>by rw[aV (Ag e g1 (fun z=>nomatch z))];exact e
 have hf:∀ b' ob u',H3 b'=some (.frz ob u')->aE H3 c (.dN X.K (bS ws ks v)) b'=some (.frz ob u'):=fun b' ob u' e=>by rw[aV (Ag e g1 (fun z=>nomatch z))];exact e
 refine⟨σ,aE H3 c (.dN X.K (bS ws ks v)),vP I3 (by rw[g1];exact True.intro) hs' ⟨q,hq⟩ ⟨hl2,hd,_,Paired.mapP (rel.put ks ⟨hk.1,hk.2,r3⟩ rv) (fun p q z=>⟨z.1,⟨z.2.1.1,z.2.1.2.1,NKV.stay ht hf _ _ z.2.1.2.2⟩,z.2.2⟩),q,es,ep,hq,h2,h3,h4,h5⟩,?_⟩
 have e4:Ext X.K Z m3 H3 (bC m3 c (.n (fD kvs ks x))) (aE H3 c (.dN X.K (bS ws ks v))):=Ext.put ok3 hm g1
 exact k d _ σ _ q3 (e1.trans (e2.trans (e3.trans e4))) (ok3.put hm g1 ⟨rfl,g2.put ((rx.ext (e2.trans e3)).rw)⟩) ((rs.ext e1).ext (e2.trans (e3.trans e4)))
@[simp] def Bl:D2
 | x,.cel c,m,Q=>∃ ks kvs,gJ x=some ks/\m c=some (.n kvs)/\Q (.dat (.bool (!(cJ kvs ks).isSome))) m
 | _,_,_,_=>False
theorem X1(hu:X.A.units+100<cLine):cI X (compareOp .NotIn) Bl:=by
 intro pins s σ H Z m x y dx dy v u R Q I ok rx ry r1 r2 h k;unfold Bl at h
 split at h
 ·obtain⟨ks,kvs,ey,hm,q⟩:=h;obtain⟨rfl,hk⟩:=yJ ey;obtain⟨rfl,_⟩:=r2;obtain rfl:=(show u=Value.ref _ from ry)
  have r3:=RP.nkv (.tuple ks) x hk.1 r1
  have r4:=r3
  simp only[NKV]at r4;obtain⟨b,vs,rfl,_⟩:=r4;obtain rfl:v=Value.ref b:=rx;obtain⟨ws,g1,g2⟩:=ok.n hm;obtain⟨z,hd,xs,rel,dd⟩:=Ds I g1;refine wpAny_notIn_heap (As hu) (tM I ⟨hk.1,hk.2,r3⟩) hd dd ?_;have e:=(rel.val ks).isSome_eq
  rw[Option.isSome_map]at e;rw[<- e,<- (g2.val (k:=ks)).2];exact⟨.bl (!(cJ kvs ks).isSome),H,I.tok _,rfl,k _ m _ H q Ext.refl ok .ofBl⟩
 ·exact h.elim
@[simp] def Bq:DC
 | [.cel a],m,Q=>∃ kvs,m a=some (.d kvs)/\Q (.dat (.int kvs.length)) m
 | _,_,_=>False
theorem Y6:CallD X (.builtin "len") Bq:=by
 intro pins s σ H Z m xs ds us R Q I ok rv rd h k;unfold Bq at h
 split at h
 ·obtain⟨v,rfl,r1⟩:=rd.one;obtain⟨rfl,_⟩:=r1;obtain⟨kvs,hm,q⟩:=h;obtain⟨vs,h1,h2⟩:=ok.d hm
  cases rv with
  | cons r1 r2 =>
   cases r2
   obtain rfl:=(show _=Value.ref _ from r1)
   refine G4 I (.inl h1) fun t s' I'=>⟨.int vs.length,H,I',⟨t,rfl⟩,?_⟩;rw[h2.length];exact k _ m _ H q Ext.refl ok .ofInt
 ·exact h.elim
end
end DL
namespace DL
open PySem PySem.Spec PyProof.Rows L2
section
variable {X:Cx}{o e:Expr}{f g:DE}{pos:Pos}
@[simp] def Aj:D2
 | .dat (.bool a),.dat (.bool b),m,Q=>Q (.dat (.bool (a==b))) m
 | .dat .none,.dat (.bool b),m,Q=>Q (.dat (.bool false)) m
 | _,_,_,_=>False
@[simp] def vK:D2
 | .dat (.bool a),.dat (.bool b),m,Q=>Q (.dat (.bool (!(a==b)))) m
 | .dat .none,.dat (.bool b),m,Q=>Q (.dat (.bool true)) m
 | _,_,_,_=>False
theorem A1:cI X (compareOp .Is) Aj:=by
 intro pins s σ H Z m x y dx dy v u R Q I ok rx ry r1 r2 h k;unfold Aj at h
 split at h
 ·rename_i a b
  cases r1.bl
  cases r2.bl
  cases rx
  cases ry
  refine wpAny_is_plain rfl ?_;have e:(Value.bool a==Value.bool b)=(a==b):=by cases a<;>cases b<;>rfl
  rw[e];exact⟨.bl (a==b),H,I,rfl,k _ m _ H h Ext.refl ok .ofBl⟩
 ·have e:x=.non:=by simpa only[RD,RP] using r1
  subst e
  cases r2.bl
  cases rx
  cases ry
  exact wpAny_is_other rfl (fun e=>nomatch e) ⟨.bl false,H,I,rfl,k _ m _ H h Ext.refl ok .ofBl⟩
 ·exact h.elim
theorem Gz:cI X (compareOp .IsNot) vK:=by
 intro pins s σ H Z m x y dx dy v u R Q I ok rx ry r1 r2 h k;unfold vK at h
 split at h
 ·rename_i a b
  cases r1.bl
  cases r2.bl
  cases rx
  cases ry
  refine wpAny_isNot_plain rfl ?_;have e:(Value.bool a==Value.bool b)=(a==b):=by cases a<;>cases b<;>rfl
  rw[e];exact⟨.bl (!(a==b)),H,I,rfl,k _ m _ H h Ext.refl ok .ofBl⟩
 ·have e:x=.non:=by simpa only[RD,RP] using r1
  subst e
  cases r2.bl
  cases rx
  cases ry
  exact wpAny_isNot_other rfl (fun e=>nomatch e) ⟨.bl true,H,I,rfl,k _ m _ H h Ext.refl ok .ofBl⟩
 ·exact h.elim
end
end DL
namespace DL
open PySem PySem.Spec PyProof.Rows L2
structure CompE (e tg iter:Expr) (ifs:List Expr) (emit:Addr->Env->Sem Unit):Prop where
 kind:(∃ elt gs sc p,e=.SetComp elt gs sc p)\/∃ k v gs sc p,e=.DictComp k v gs sc p
 cl:clausesOf e=[⟨tg,iter,ifs,0⟩]
 turn:∀ it D env,compTurn e 0 it (.ref D) env=(do
   standAt iter.pos
   match <- pyNext it with
   | none=>pure (.done .next)
   | some v =>
    letOwnedTupleGo tg it v
    assign tg env v
    let mut ok:=true
    for c in ifs do
     if ok then ok <- isTrue c env (eval c env)
    if ok then emit D env
    again (.compLoop e 0 it (.ref D) env))
section
variable {prog:Program}{w:World}{A:Around}{R:Result->Shared->Prop}{s:Shared}{e tg iter:Expr}{ifs:List Expr}{emit:Addr->Env->Sem Unit}
theorem Z2(ce:CompE e tg iter ifs emit){it:Value}{D:Addr}{env:Env}(I:Nat->Shared->Prop)
  (turn:∀ n s,I n s->wpAny (model prog w) A (pyNext it) (fun r s₁=>match r with
   | none=>R (.ok .next) s₁
   | some v=>wpAny (model prog w) A (letOwnedTupleGo tg it v) (fun _ s₀=>wpAny (model prog w) A (assign tg env v) (fun _ s₂ =>
     wpAny (model prog w) A (forIn ifs true fun c r=>if r=true then do let ok <- isTrue c env (eval c env);pure (ForInStep.yield ok) else pure (ForInStep.yield r)) (fun ok s₃ =>
      if ok=true then wpAny (model prog w) A (emit D env) (fun _ s₅=>∃ m,m<n/\I m s₅) (fun _ _=>False) s₃
      else ∃ m,m<n/\I m s₃) (fun _ _=>False) s₂) (fun _ _=>False) s₀) (fun _ _=>False) s₁) (fun _ _=>False) s)
  (n:Nat) (h:I n s) :
  codeAny (model prog w) A (.compLoop e 0 it (.ref D) env) R s:=by
 have ff:∀ {E:Value->Shared->Prop} (x:Value) (s:Shared),False->E x s:=fun _ _ z=>z.elim
 suffices start:∀ n s,I n s->wpAny (model prog w) A (compTurn e 0 it (.ref D) env) (fun fin s'=>match fin with | .done f=>R (.ok f) s' | .again c'=>c'=.compLoop e 0 it (.ref D) env/\∃ m,m<n/\I m s') (notedBy (model prog w) A env fun e s'=>R (.error e) s') s by
  rcases ce.kind with⟨_,_,_,_,rfl⟩ | ⟨_,_,_,_,_,rfl⟩
  ·refine codeAny_loop rfl I (fun n s hI=>?_) n h;exact wpAny_noted (start n s hI)
  ·refine codeAny_loop rfl I (fun n s hI=>?_) n h;exact wpAny_noted (start n s hI)
 intro n s hI;rw[ce.turn];refine wpAny_bind (wpAny_standAt (wpAny_bind (wpAny_mono (turn n s hI) (fun r s₁ h₁=>?_) ff)))
 cases r with
 | none=>exact wpAny_pure h₁
 | some v =>
  refine wpAny_bind (wpAny_mono h₁ (fun _ s₀ h₀=>?_) ff);refine wpAny_bind (wpAny_mono h₀ (fun _ s₂ h₂=>wpAny_bind (wpAny_mono h₂ (fun ok s₃ h₃=>?_) ff)) ff)
  cases ok with
  | true =>
   simp only[if_true]at h₃ ⊢;exact wpAny_bind (wpAny_mono h₃ (fun _ s₅ h₅=>wpAny_pure ⟨rfl,h₅⟩) ff)
  | false =>
   simp only[Bool.false_eq_true,if_false]at h₃ ⊢;exact wpAny_pure ⟨rfl,h₃⟩
theorem G9(ce:CompE e tg iter ifs emit){it acc:Value}{env:Env}
  (h0:codeAny (model prog w) A (.compLoop e 0 it acc env) R s)
  (h:wpAny (model prog w) A (pyIter it) (fun it' s'=>codeAny (model prog w) A (.compLoop e 0 it' acc env) R s') (notedBy (model prog w) A env fun x s'=>R (.error x) s') s) :
  codeAny (model prog w) A (.compStart e 0 it acc env) R s:=by
 suffices start:wpAny (model prog w) A (compStart e 0 it acc env) (fun fin s'=>match fin with | .done f=>R (.ok f) s' | .again c'=>c'.quiet=true/\codeAny (model prog w) A c' R s') (notedBy (model prog w) A env fun x s'=>R (.error x) s') s by
  rcases ce.kind with⟨_,_,_,_,rfl⟩ | ⟨_,_,_,_,_,rfl⟩
  ·exact codeAny_of_tree (wpAny_notedAt start)
  ·exact codeAny_of_tree (wpAny_notedAt start)
 have hq:∀ it',Code.quiet (.compLoop e 0 it' acc env)=true:=fun it'=>by rcases ce.kind with⟨_,_,_,_,rfl⟩ | ⟨_,_,_,_,_,rfl⟩<;>rfl
 unfold compStart;rw[ce.cl];show wpAny _ _ (ask>>=_) _ _ s
 refine wpAny_bind (wpAny_askSetting (wpAny_ite ?_))
 split
 ·first
   | exact wpAny_bind (wpAny_pure (wpAny_pure (And.intro (hq _) h0)))
   | exact wpAny_pure (And.intro (hq _) h0)
 ·first
   | exact wpAny_bind (wpAny_rule (wpAny_bind (wpAny_standAt (wpAny_bind (wpAny_mono h (fun it' s' h'=>wpAny_pure (And.intro (hq _) h')) fun _ _ x=>x)))))
   | (refine wpAny_bind (wpAny_rule ?_);show wpAny _ _ (standAt iter.pos>>=_) _ _ s;exact wpAny_bind (wpAny_standAt (wpAny_bind (wpAny_mono h (fun it' s' h'=>wpAny_pure (And.intro (hq _) h')) fun _ _ x=>x))))
end
def rG(o:HO):Prop:=(∀ xs,o≠.tup xs)/\∀ a b,o≠.frz a b
section
variable {K:PySem.W.Frag}{Z:Addr->Prop}{m m1 m':Mu}{H H1 H':Hp}{D:Addr}{o0 o1:HO}
theorem Km(hD:H D=none)(hk:K.lookup D=none):∀ a vs,(m a=none/\¬ Z a)->SqL K H a vs->(m a=none/\¬ aG Z D a)/\SqL K (aE H D o0) a vs:=fun a vs h1 h2 =>
 ⟨⟨h1.1,fun z=>z.elim h1.2 (SqL.ne hD hk h2)⟩,(bT hD).seq h2⟩
theorem sX(hD:H D=some o0)(mu:rG o0):∀ a vs,SqT K H a vs->SqT K (aE H D o1) a vs:=fun b xs h=>by
 rcases h with (h | ⟨o,h⟩) | h
 ·have ne:b≠D:=by rintro rfl;rw[hD]at h;cases h;exact mu.1 _ rfl
  exact .inl (.inl (by rw[aV ne];exact h))
 ·have ne:b≠D:=by rintro rfl;rw[hD]at h;cases h;exact mu.2 _ _ rfl
  exact .inl (.inr ⟨o,by rw[aV ne];exact h⟩)
 ·exact .inr h
theorem Kf{a:Addr}{vs:List V}(ne:a≠D)(h:SqL K H a vs):SqL K (aE H D o1) a vs:=by
 rcases h with (h | ⟨o,h⟩) | h
 ·exact .inl (.inl (by rw[aV ne];exact h))
 ·exact .inl (.inr ⟨o,by rw[aV ne];exact h⟩)
 ·exact .inr h
theorem Ff:∀ a vs,(m a=none/\¬ aG Z D a)->SqL K H a vs->(m a=none/\¬ aG Z D a)/\SqL K (aE H D o1) a vs:=fun a vs h1 h2 =>
 ⟨h1,Kf (fun e=>h1.2 (.inr e)) h2⟩
theorem W3{x:DL.D}{v:V}(hD:H D=none)(hk:K.lookup D=none)(h:RD K Z m H x v):RD K (aG Z D) m (aE H D o0) x v:=by
 cases x with
 | dat p=>exact RP.tr (fun a vs q=>SqT.same (bT hD) q) (Km hD hk) p v h
 | cel a=>exact h
theorem Sk{x:DL.D}{v:V}(hD:H D=some o0)(mu:rG o0)(h:RD K (aG Z D) m H x v):RD K (aG Z D) m (aE H D o1) x v:=by
 cases x with
 | dat p=>exact RP.tr (sX hD mu) Ff p v h
 | cel a=>exact h
theorem i9(ok:Ok K Z m H)(hD:H D=none)(hk:K.lookup D=none):Ok K (aG Z D) m (aE H D o0):=by
 refine⟨fun a c h=>?_,fun a h=>?_⟩
 ·obtain⟨o,h1,h2⟩:=ok.g a c h;have ne:a≠D:=by rintro rfl;rw[hD]at h1;cases h1
  exact⟨o,by rw[aV ne];exact h1,h2.lift fun p v q=>RP.tr (fun a vs q=>SqT.same (bT hD) q) (Km hD hk) p v q⟩
 ·rcases h with h | h
  ·have ne:a≠D:=by rintro rfl;exact(ok.z a h).2 hD
   exact⟨(ok.z a h).1,by rw[aV ne];exact(ok.z a h).2⟩
  ·subst h;exact⟨(eU ok hD).1,by rw[bQ];intro z;cases z⟩
theorem Xx(ok:Ok K (aG Z D) m H)(hD:H D=some o0)(mu:rG o0):Ok K (aG Z D) m (aE H D o1):=by
 refine⟨fun a c h=>?_,fun a h=>?_⟩
 ·obtain⟨o,h1,h2⟩:=ok.g a c h;have ne:a≠D:=by
   rintro rfl;have:=(ok.z a (.inr rfl)).1
   rw[h]at this
   cases this
  exact⟨o,by rw[aV ne];exact h1,h2.lift fun p v q=>RP.tr (sX hD mu) Ff p v q⟩
 ·by_cases e:a=D
  ·subst e;exact⟨(ok.z a h).1,by rw[bQ];intro z;cases z⟩
  ·exact⟨(ok.z a h).1,by rw[aV e];exact(ok.z a h).2⟩
theorem u8(e:Ext K Z m1 H1 m H)(ok1:Ok K Z m1 H1)(hD:H1 D=none)(hk:K.lookup D=none)(hH:H D=some o0)(mu:rG o0):Ext K Z m1 H1 m (aE H D o1) :=
 ⟨fun a vs h=>sX hH mu a vs (e.t a vs h),fun a vs h1 h2=>let ⟨q1,q2⟩:=e.l a vs h1 h2;⟨q1,Kf (SqL.ne hD hk h2) q2⟩,fun a h=>by
  have ne:a≠D:=by rintro rfl;exact(ok1.z a h).2 hD
  rw[aV ne];exact e.z a h,e.c,fun a o u h=>by
  have q:=e.fz a o u h
  rw[aV (by rintro rfl;rw[hH]at q;cases q;exact mu.2 _ _ rfl)]
  exact q,e.fm⟩
end
def eZ{α:Type}(g:DG)(t:DT)(fE:aT->Mu->α->(α->Mu->Prop)->Prop):List D->α->aT->Mu->(α->Mu->Prop)->Prop
 | [],a,_,m,Q=>Q a m
 | x::xs,a,d,m,Q=>g x d m fun d1 m1=>t d1 m1 fun b m2=>if b=true then fE d1 m2 a fun a' m3=>eZ g t fE xs a' d1 m3 Q else eZ g t fE xs a d1 m2 Q
structure AccR (K:PySem.W.Frag) {α:Type} (AR:(Addr->Prop)->Mu->Hp->α->HO->Prop):Prop where
 lift:∀ {Z Z':Addr->Prop} {m m':Mu} {H H':Hp} {a:α} {o:HO},(∀ p v,RP K Z m H p v->RP K Z' m' H' p v)->AR Z m H a o->AR Z' m' H' a o
 mu:∀ {Z:Addr->Prop} {m:Mu} {H:Hp} {a:α} {o:HO},AR Z m H a o->rG o
def Hh(X:Cx)(D:Addr)(emit:Addr->Env->Sem Unit){α:Type}(AR:(Addr->Prop)->Mu->Hp->α->HO->Prop)(fE:aT->Mu->α->(α->Mu->Prop)->Prop):Prop :=
 ∀ (pins:List (Addr×Obj)) (s:Shared) (σ:L2.St) (H:Hp) (Z:Addr->Prop) (d:aT) (m:Mu) (a:α) (o:HO) (Q:α->Mu->Prop),Inv X pins σ H s->Ok X.K (aG Z D) m H->RS X.K (aG Z D) m H d σ->H D=some o->AR (aG Z D) m H a o->fE d m a Q ->
  wpAny (model X.prog X.w) X.A (emit D X.env) (fun _ s'=>∃ a' m' H' o',Q a' m'/\Ext X.K (aG Z D) m H m' H'/\Ok X.K (aG Z D) m' H'/\AR (aG Z D) m' H' a' o'/\Inv X pins σ (aE H' D o') s') (fun _ _=>False) s
section
variable {X:Cx}{e tg iter:Expr}{ifs:List Expr}{emit:Addr->Env->Sem Unit}{scope:Scope}{NC:List Str}{fi:DI}{g:DG}{t:DT}{α:Type}{AR:Addr->(Addr->Prop)->Mu->Hp->α->HO->Prop}{fE:aT->Mu->α->(α->Mu->Prop)->Prop}{newAcc:Sem Value}{ob:Obj}{a0:α}{o0:Addr->HO}
theorem S4(ce:CompE e tg iter ifs emit)(ac:∀ D,AccR X.K (AR D))(hnew:∀ {Q:Value->Shared->Prop} {s:Shared},Q (.ref s.heap.objs.size) {s with heap:=s.heap.push ob}->wpAny (model X.prog X.w) X.A newAcc Q X.xe s)(hfr:ob.isFreed=false)
  (hob:∀ (H:Hp) (h:Heap) (a:Addr),sysModules<a->h.get? a=some ob->ObjOk X.prog X.w H h a (o0 a)) (h00:∀ D Z m H,AR D Z m H a0 (o0 D))
  (src:List (Option Nat)) (hc:X.calm=true) (hi:PI X tg iter (LI X.K fi))
  (hg:∀ cl C s2 H2 pins fp,PG (aQ X scope cl C NC s2 H2 pins fp) tg (LG X.K g)) (ht:∀ cl C s2 H2 pins fp,PF (aQ X scope cl C NC s2 H2 pins fp) ifs (LT X.K t)) (he:∀ cl C s2 H2 pins fp D,Hh (aQ X scope cl C NC s2 H2 pins fp) D emit (AR D) fE)
  (hkind:scope.kind=.function) (hcell:∀ y∈scope.names,y.2≠.cell) (hnames:∀ y∈scope.names,y.2=.local->scope.names.lookup y.1=some .local)
  (hfree:∀ x,(x,NameKind.free)∈scope.names->X.env.kindOf x=some .cell\/X.env.kindOf x=some .free) (hsrc:lX X scope NC src)
  (hs:∀ x,foldedSetIterable iter X.env x=pure x) {use:Option (Value->Sem Unit)} {QQ:Value->Shared->Prop} {pos':Pos} {pins:List (Addr×Obj)} {s:Shared} {σ:L2.St} {H:Hp} {Z:Addr->Prop} {d:aT} {m:Mu} {RL:α->Mu->Prop}
  (I:Inv X pins σ H s) (ok:Ok X.K Z m H) (rs:RS X.K Z m H d σ) (h:fi d m fun xs m1=>eZ g t fE xs a0 (bH src d) m1 RL)
  (fin:∀ (s5:Shared) (C D:Addr) (H':Hp) (m':Mu) (a:α) (o:HO),RL a m'->H' D=some o->m' D=none->Ext X.K Z m H m' H'->Ok X.K Z m' H'->AR D Z m' H' a o->(∀ c,AR D Z (bC m' D c) H' a o) ->
   (∀ c,RC X.K Z (bC m' D c) H' c o->Ext X.K Z m H (bC m' D c) H'/\Ok X.K Z (bC m' D c) H')->(∃ mm,s5.heap.Ns C mm)->Inv X pins σ H' s5->Off X pins H' C ->
   compPost (model X.prog X.w) X.A X.xe use QQ (.ref D) C (.ok .next) s5) :
  wpAny (model X.prog X.w) X.A (comprehension e scope X.env pos' newAcc false (eval iter X.env) use) QQ X.xe s:=by
 obtain⟨cl,hclos,hcl1,hcl2⟩:=zA (scope:=scope) (env:=X.env) fun x hx=>I.ok.has x (hfree x hx);refine wpAny_comprehension_free (use:=use) ce.cl hs hclos hkind hnames ?_;refine aI (hi pins s σ H (fun J H1=>∃ xs m1,Ext X.K Z m H m1 H1/\Ok X.K Z m1 H1/\mM X.K Z m1 H1 xs J/\eZ g t fE xs a0 (bH src d) m1 RL) I
  ⟨Z,d,m,_,ok,rs,h,fun xs m1 H1 J q e1 ok1 y1=>⟨xs,m1,e1,ok1,y1,q⟩⟩) fun xv s₁ h₁=>aI h₁ fun itv s₂ h₂=>?_
 obtain⟨it,fp,tn,J,H2,eit,I2,T,st2,f2,xs,m1,e1,ok1,yl,lp⟩:=h₂;subst eit;refine hnew (wpAny_newFunctionEnv hcell (by intro y hy;simp at hy) (fun h₁ hns₁ hsb₁=>?_) hkind)
 dsimp only at hns₁ hsb₁ ⊢
 generalize hH2:s₂.heap.push ob=HP at hns₁ hsb₁ ⊢
 have hC:HP.objs.size=s₂.heap.objs.size+1:=by rw[<- hH2,Heap.size_push]
 have leC:s₂.heap.objs.size<=HP.objs.size:=by rw[hC];exact Nat.le_succ _
 have old:∀ b o,s₂.heap.get? b=some o->h₁.get? b=some o:=fun b o e=>hsb₁.extBut b o (Nat.ne_of_lt (Nat.lt_of_lt_of_le (Heap.lt_size e) leC)) (Heap.get?_push_of_some _ (hH2▸Heap.get?_push_of_some _ e))
 have hacc:h₁.get? s₂.heap.objs.size=some ob:=hsb₁.extBut _ _ (by rw[hC];exact Nat.ne_of_lt (Nat.lt_succ_self _)) (Heap.get?_push_of_some _ (hH2▸Heap.get?_push_size _ hfr))
 have hD:H2 s₂.heap.objs.size=none:=I2.hok.fresh (Nat.le_refl _)
 have hkD:X.K.lookup s₂.heap.objs.size=none:=by
  cases e:X.K.lookup s₂.heap.objs.size with
  | none=>rfl
  | some o=>exact absurd (Heap.lt_size (I2.kIn _ o e)) (Nat.lt_irrefl _)
 have obf:∀ b∈fp,∃ o,s₂.heap.get? b=some o/\∀ v,o.data≠.cell v:=T.obj 0 _ st2
 have hσ:∀ (i:Nat) (x:Str) (v:V),NC[i]?=some x->(bH src σ)[i]?=some (some v)->iQ (relabel scope X.env) x->((relabel scope X.env).names.lookup x=some .cell\/(relabel scope X.env).names.lookup x=some .free)/\(X.env.kindOf x=some .cell\/X.env.kindOf x=some .free)/\∃ j:Nat,X.N[j]?=some x/\σ[j]?=some (some v):=fun i x v h1 h2 _=>by
  obtain⟨j,q1,q2⟩:=Ct h2;obtain⟨a1,a2,a3⟩:=hsrc.2 i x j h1 q1;exact⟨a3,hfree x a2,j,a1,q2⟩
 have I4:=fun tk=>Ku (o0:=o0 s₂.heap.objs.size) (cl:=cl) (NC:=NC) (σ':=bH src σ) (tk:=tk) I2 f2 obf hkind hcell hcl1 hcl2 (by unfold bH;rw[List.length_map];exact hsrc.1.symm) hσ hC hns₁ old (hob _ _ _ I2.big hacc)
 have st4:tn 0 h₁:=T.keep 0 _ _ st2 fun b _ o e=>old b o e
 have loop:∀ s₃:Shared,s₃={s₂ with heap:=h₁,toks:=s₂.toks+([]:List (Str×Value)).length} ->
   codeAny (model X.prog X.w) X.A (.compLoop e 0 (.ref it) (.ref s₂.heap.objs.size) (compEnvC scope cl HP.objs.size X.env))
    (compPost (model X.prog X.w) X.A X.xe use QQ (.ref s₂.heap.objs.size) HP.objs.size) s₃:=by
  rintro s₃ rfl;refine Z2 ce (fun n s'=>∃ (i:Nat) (o:HO) (acc:α) (d':aT) (m':Mu) (σ':L2.St) (H':Hp),n=xs.length-i/\i<=xs.length/\Inv (aQ X scope cl HP.objs.size NC s₂ H2 pins fp) [] σ' H' s'/\tn i s'.heap/\(∀ b∈fp,H' b=none) /\
   H' s₂.heap.objs.size=some o/\AR s₂.heap.objs.size (aG Z s₂.heap.objs.size) m' H' acc o/\Ext X.K Z m1 H2 m' H'/\Ok X.K (aG Z s₂.heap.objs.size) m' H'/\RS X.K (aG Z s₂.heap.objs.size) m' H' d' σ' /\
   eZ g t fE (xs.drop i) acc d' m' RL) ?_ xs.length ?_
  rotate_left
  ·have rs1:RS X.K Z m1 H2 (bH src d) (bH src σ):=Av src (rs.ext e1)
   refine⟨0,o0 _,a0,bH src d,m1,bH src σ,_,by simp,Nat.zero_le _,I4 _,st4,fun b hb=>?_,bQ,h00 _ _ _ _,ok1.ext (bT hD),i9 ok1 hD hkD,⟨rs1.1,fun i x hx=>?_⟩,by simpa using lp⟩
   ·obtain⟨o,ho,_⟩:=obf b hb;rw[aV (Nat.ne_of_lt (Heap.lt_size ho))];exact(f2 b hb).1
   ·obtain⟨v,q1,q2⟩:=rs1.2 i x hx;exact⟨v,q1,W3 hD hkD q2⟩
  rintro n s4 ⟨i,ys,acc,d',m',σ',H',rfl,hi',I5,st5,fr5,hDy,racc,eX,ok5,rs5,lp5⟩;have stat:∀ b∈fp,cS (aQ X scope cl HP.objs.size NC s₂ H2 pins fp) [] H' b:=fun b hb=>by
   obtain⟨g0,g1,g2,g3,g4,g5⟩:=f2 b hb;obtain⟨o,ho,_⟩:=obf b hb;refine⟨fr5 b hb,Nat.ne_of_lt (Nat.lt_of_lt_of_le (Heap.lt_size ho) leC),fun z=>?_,.inl hb,fun x c e=>g4 x c (hcl1 (x,c) (qT e)),fun p hp=>?_⟩
   ·rcases List.mem_cons.mp (I2.stkSub b z) with q | q
    ·exact g1 q
    ·exact g2 q
   ·rcases List.mem_append.mp hp with q | q
    ·exact g5 p q
    ·cases q
  obtain⟨y1,y2⟩:=yl m' H' eX.y
  by_cases hlt:i<xs.length
  ·rw[List.drop_eq_getElem_cons hlt]at lp5;obtain⟨go,yd⟩:=y1 i xs[i] (List.getElem?_eq_getElem hlt);refine aI (T.item (aQ X scope cl HP.objs.size NC s₂ H2 pins fp) rfl rfl rfl hc i [] s4 σ' H' (fun _ _=>False) I5 stat st5 go) fun r s5 hq0=>?_;obtain⟨u,hr,h5⟩:=hq0;subst hr;refine aI h5 fun _ s6 hq0=>?_;obtain⟨x,H6,I6,r6,yy,st6,fr6⟩:=hq0;have yy':=yd x H6 yy
   have e56:Ext X.K (aG Z s₂.heap.objs.size) m' H' m' H6:=ok5.ext yy'.same
   have rv:=yy'.rd (fun d v h=>Ab hD hkD eX h) ok5
   have hDy:=yy'.same _ _ hDy
   have racc:=(ac _).lift (RP.ext e56) racc
   have eX:=jN eX hD hkD e56
   have rs5:=rs5.ext e56
   have ok5:=ok5.grow yy'.same
   have stat:∀ b∈fp,cS (aQ X scope cl HP.objs.size NC s₂ H2 pins fp) [] H6 b:=fun b hb=>⟨fr6 b hb,(stat b hb).2⟩
   have I6':=I6.pinned stat (T.obj _ _ st6)
   have over:∀ {s7:Shared} {σ7:L2.St} {H7:Hp} {ys7:HO} {acc7:α} {d7:aT} {m7:Mu},Inv (aQ X scope cl HP.objs.size NC s₂ H2 pins fp) ([]++kC fp s6.heap) σ7 H7 s7->H7 s₂.heap.objs.size=some ys7->AR s₂.heap.objs.size (aG Z s₂.heap.objs.size) m7 H7 acc7 ys7 ->
     Ext X.K Z m1 H2 m7 H7->Ok X.K (aG Z s₂.heap.objs.size) m7 H7->RS X.K (aG Z s₂.heap.objs.size) m7 H7 d7 σ7->(eZ g t fE (xs.drop (i+1)) acc7 d7 m7 RL) ->
     ∃ n,n<xs.length-i/\∃ (i:Nat) (ys:HO) (acc:α) (d':aT) (m':Mu) (σ':L2.St) (H':Hp),n=xs.length-i/\i<=xs.length/\Inv (aQ X scope cl HP.objs.size NC s₂ H2 pins fp) [] σ' H' s7/\tn i s7.heap/\(∀ b∈fp,H' b=none) /\
      H' s₂.heap.objs.size=some ys/\AR s₂.heap.objs.size (aG Z s₂.heap.objs.size) m' H' acc ys/\Ext X.K Z m1 H2 m' H'/\Ok X.K (aG Z s₂.heap.objs.size) m' H'/\RS X.K (aG Z s₂.heap.objs.size) m' H' d' σ' /\
      eZ g t fE (xs.drop i) acc d' m' RL:=by
    intro s7 σ7 H7 ys7 acc7 d7 m7 I7 a1 a2 a3 a4 a5 a6;refine⟨xs.length-(i+1),by omega,i+1,ys7,acc7,d7,m7,σ7,H7,rfl,hlt,I7.unpinned,T.keep _ _ _ st6 fun b hb o e=>(I7.pin (b,o) (List.mem_append_right _ (List.mem_append_right _ (hU hb e)))).1,fun b hb=>?_,a1,a2,a3,a4,a5,a6⟩
    obtain⟨o,e,dd⟩:=T.obj _ _ st6 b hb;exact(I7.pin (b,o) (List.mem_append_right _ (List.mem_append_right _ (hU hb e)))).2.1
   refine aI (hg cl _ s₂ H2 pins fp _ s6 σ' _ x u (fun σ7 H7=>∃ d7 m7,Ext X.K (aG Z s₂.heap.objs.size) m' H6 m7 H7/\Ok X.K (aG Z s₂.heap.objs.size) m7 H7/\RS X.K (aG Z s₂.heap.objs.size) m7 H7 d7 σ7 /\
    t d7 m7 fun b m2=>if b=true then fE d7 m2 acc fun a' m3=>eZ g t fE (xs.drop (i+1)) a' d7 m3 RL else eZ g t fE (xs.drop (i+1)) acc d7 m2 RL) I6' r6
    ⟨_,xs[i],d',m',_,ok5,rs5,rv,lp5,fun d7 m7 σ7 H7 q7 e7 ok7 rs7=>⟨d7,m7,e7,ok7,rs7,q7⟩⟩) fun _ s7 hq0=>?_
   obtain⟨σ7,H7,I7,d7,m7,e7,ok7,rs7,q7⟩:=hq0;refine aI (ht cl _ s₂ H2 pins fp _ s7 σ7 H7 (fun b H8=>∃ m8,Ext X.K (aG Z s₂.heap.objs.size) m7 H7 m8 H8/\Ok X.K (aG Z s₂.heap.objs.size) m8 H8 /\
    if b=true then fE d7 m8 acc fun a' m3=>eZ g t fE (xs.drop (i+1)) a' d7 m3 RL else eZ g t fE (xs.drop (i+1)) acc d7 m8 RL) I7
    ⟨_,d7,m7,_,ok7,rs7,q7,fun b m8 H8 q8 e8 ok8=>⟨m8,e8,ok8,q8⟩⟩) fun b s8 hq0=>?_
   obtain⟨H8,I8,m8,e8,ok8,q8⟩:=hq0;have e68:=e7.trans e8
   have hD8:H8 s₂.heap.objs.size=some ys:=(e68.z _ (.inr rfl)).trans hDy
   have racc8:=(ac _).lift (RP.ext e68) racc
   cases b with
   | false =>
    rw[if_neg Bool.false_ne_true]at q8;exact over I8 hD8 racc8 (jN eX hD hkD e68) ok8 (rs7.ext e8) q8
   | true =>
    rw[if_pos rfl]at q8;refine aI (he cl _ s₂ H2 pins fp _ _ s8 σ7 H8 Z d7 m8 acc ys _ I8 ok8 (rs7.ext e8) hD8 racc8 q8) fun _ s9 hq0=>?_;obtain⟨a',m9,H9,o',q9,e9,ok9,ra9,I9⟩:=hq0;have e69:=e68.trans e9
    have hD9:H9 s₂.heap.objs.size=some ys:=(e69.z _ (.inr rfl)).trans hDy
    have mu9:=(ac _).mu racc
    have rs9:=(rs7.ext e8).ext e9
    refine over I9 bQ ((ac _).lift (RP.tr (sX hD9 mu9) Ff) ra9) (u8 (jN eX hD hkD e69) ok1 hD hkD hD9 mu9) (Xx ok9 hD9 mu9) ⟨rs9.1,fun j z hj=>?_⟩ q9;obtain⟨v,a1,a2⟩:=rs9.2 j z hj;exact⟨v,a1,Sk hD9 mu9 a2⟩
  ·have ei:i=xs.length:=by omega
   subst ei;rw[List.drop_length]at lp5;refine aI (T.done (aQ X scope cl HP.objs.size NC s₂ H2 pins fp) rfl rfl rfl hc _ [] s4 σ' H' (fun _ _=>False) I5 stat st5 y2) fun r s5 hq0=>?_;obtain⟨hr,I6⟩:=hq0;subst hr;have IX:=yT I2 f2 I6 leC (Heap.SameBut.refl _ _)
   have nz:¬ Z s₂.heap.objs.size:=fun z=>(ok1.z _ z).2 hD
   have mD:=(ok5.z _ (.inr rfl)).1
   have trc:∀ c (a:Addr) (vs:List V),(m' a=none/\¬ aG Z s₂.heap.objs.size a)->SqL X.K H' a vs->(bC m' s₂.heap.objs.size c a=none/\¬ Z a)/\SqL X.K H' a vs:=fun c a vs q1 q2=>⟨⟨by rw[bF fun z=>q1.2 (.inr z)];exact q1.1,fun z=>q1.2 (.inl z)⟩,q2⟩
   refine fin s5 HP.objs.size s₂.heap.objs.size H' m' acc ys lp5 hDy mD (e1.trans eX) (zO ok5) ((ac _).lift (RP.tr (fun _ _ q=>q) fun a vs q1 q2=>⟨⟨q1.1,fun z=>q1.2 (.inl z)⟩,q2⟩) racc) (fun c=>(ac _).lift (RP.tr (fun _ _ q=>q) (trc c)) racc) (fun c rc=>⟨?_,?_⟩) ⟨_,I6.loc.choose_spec.1⟩ IX ⟨I6.free,Nat.ne_of_gt (Nat.lt_of_lt_of_le I2.lt leC),Nat.le_trans I2.sz leC,fun x c e=>?_,fun p hp=>?_⟩
   ·refine⟨fun a vs q=>(e1.trans eX).t a vs q,fun a vs q1 q2=>?_,fun a q=>(e1.trans eX).z a q,fun a q=>?_,(e1.trans eX).fz,fun a q=>?_⟩
    ·obtain⟨_,q3⟩:=e1.l a vs q1 q2;have ne:=SqL.ne hD hkD q3
     obtain⟨q4,q5⟩:=(e1.trans eX).l a vs q1 q2;exact⟨by rw[bF ne];exact q4,q5⟩
    ·by_cases ea:a=s₂.heap.objs.size
     ·subst ea;rw[bZ];rfl
     ·rw[bF ea];exact(e1.trans eX).c a q
    ·have fq:=(e1.trans eX).fm a q
     have ne:a≠s₂.heap.objs.size:=by
      rintro rfl;rw[mD]at fq;rw[<- fq]at q
      cases q
     rw[bF ne];exact fq
   ·refine⟨fun a c' q=>?_,fun a q=>?_⟩
    ·by_cases ea:a=s₂.heap.objs.size
     ·subst ea;rw[bZ]at q
      cases q
      exact⟨_,hDy,rc⟩
     ·rw[bF ea]at q;obtain⟨o,q1,q2⟩:=ok5.g a c' q;exact⟨o,q1,q2.lift fun p v q3=>RP.tr (fun _ _ q=>q) (trc c) p v q3⟩
    ·have ne:a≠s₂.heap.objs.size:=fun z=>nz (z▸q)
     obtain⟨q1,q2⟩:=ok5.z a (.inl q);exact⟨by rw[bF ne];exact q1,q2⟩
   ·obtain⟨v,q⟩:=I2.cell x c e;exact Nat.ne_of_lt (Nat.lt_of_lt_of_le q.lt leC)
   ·exact Nat.ne_of_lt (Nat.lt_of_lt_of_le (Heap.lt_size (I2.pin p hp).1) leC)
 exact G9 ce (loop _ rfl) (T.self _ 0 _ _ _ st4 (loop _ rfl))
end
end DL
namespace DL
open PySem PySem.Spec PyProof.Rows L2
def jE(z:Int):Nat:=if z=-1 then 6 else z.toNat
def fI:List (List Int):=[[],[0],[1],[-1],[0,1],[0,-1],[1,-1],[0,1,-1]]
def bW(zs:List Int)(z:Int):List Int:=[0,1,-1].filter fun y=>decide (y∈zs\/y=z)
def dI(led:Bool)(zs:List Int):SetTable:={mask:=7,place:=(zs.map jE).toArray,dummies:=#[],finger:=0,led:=led,moves:=0,plain:=true}
def bO(zs:List Int)(tks:List Tok):Array (Int×Value):=(List.zipWith (fun z t=>(hashInt z,Value.int z t)) zs tks).toArray
def ISet(P:Program)(w:World)(h:Heap)(a:Addr)(zs:List Int):Prop :=
 ∃ o tks ep,h.get? a=some o/\o.ExactSet/\zs∈fI/\tks.length=zs.length/\o.data=.set (bO zs tks) ep (dI (!w.params.followText "set-order") zs)
theorem ISet.at{P:Program}{w:World}{h h':Heap}{a:Addr}{zs:List Int}(T:ISet P w h a zs)(k:∀ o,h.get? a=some o->h'.get? a=some o):ISet P w h' a zs:=by
 obtain⟨o,tks,ep,ho,rest⟩:=T;exact⟨o,tks,ep,k o ho,rest⟩
abbrev Hk(w:World):Obj:={cls:=.type "set",dict:=none,data:=.set #[] 0 (.fresh 0 0 (!w.params.followText "set-order"))}
theorem Vc{P:Program}{w:World}{h:Heap}{a:Addr}(e:h.get? a=some (Hk w)):ISet P w h a []:=⟨_,[],0,e,⟨rfl,rfl,rfl⟩,List.mem_cons_self,rfl,rfl⟩
def gE(zs:List Int)(z:Int):Nat:=SetTable.below (zs.map jE).toArray (jE z)
theorem Ol:∀ led:Bool,∀ zs∈fI,∀ z∈([0,1,-1]:List Int),z∉zs->(dI led zs).freeSlot (hashInt z)=some (jE z,false)/\(dI led zs).put (jE z)=(dI led (bW zs z),gE zs z)/\(dI led (bW zs z)).fits (zs.length+1)=true /\
  bW zs z=zs.take (gE zs z)++z::zs.drop (gE zs z)/\bW zs z∈fI/\(dI led (bW zs z)).tooFull=false:=by decide +kernel
theorem Wa:∀ zs∈fI,∀ z∈zs,bW zs z=zs:=by decide +kernel
theorem Lh{α β γ:Type}(f:α->β->γ):∀ (p:Nat) (xs:List α) (ys:List β),xs.length=ys.length->List.zipWith f (xs.take p) (ys.take p)=(List.zipWith f xs ys).take p/\List.zipWith f (xs.drop p) (ys.drop p)=(List.zipWith f xs ys).drop p
 | 0,xs,ys,_=>by simp
 | p+1,[],[],_=>by simp
 | p+1,x::xs,y::ys,h=>by
  obtain⟨a,b⟩:=Lh f p xs ys (by simpa using h)
  simp[a,b]
theorem Wv{zs:List Int}{tks:List Tok}{z:Int}{led:Bool}{tk:Tok}(h:zs∈fI)(hl:tks.length=zs.length)(hz:z∈([0,1,-1]:List Int))(hn:z∉zs) :
  ∃ tks',tks'.length=(bW zs z).length/\layNew (dI led zs) (bO zs tks) (hashInt z) (.int z tk)=(bO (bW zs z) tks',dI led (bW zs z),false,false):=by
 obtain⟨f1,f2,f3,f4,_⟩:=Ol led zs h z hz hn;have hlen:(bW zs z).length=zs.length+1:=by rw[f4];simp;omega
 refine⟨tks.take (gE zs z)++tk::tks.drop (gE zs z),by rw[hlen];simp;omega,?_⟩
 have e:SetTable.insertAt (bO zs tks) (gE zs z) (hashInt z,.int z tk)=bO (bW zs z) (tks.take (gE zs z)++tk::tks.drop (gE zs z)):=by
  obtain⟨c1,c2⟩:=Lh (fun z t=>(hashInt z,Value.int z t)) (gE zs z) zs tks hl.symm;apply Array.toList_inj.mp
  rw[f4];unfold SetTable.insertAt bO;rw[List.zipWith_append (by simp;omega),List.zipWith_cons_cons,c1,c2]
  simp;rw[List.take_of_length_le (by rw[List.length_drop,List.length_zipWith];exact Nat.le_refl _)]
 unfold layNew;rw[f1];dsimp only;rw[f2];dsimp only;rw[e];have es:(bO (bW zs z) (tks.take (gE zs z)++tk::tks.drop (gE zs z))).size=zs.length+1:=by
  unfold bO;rw[List.size_toArray,List.length_zipWith,hlen];simp;omega
 rw[es,f3];unfold SetTable.orStandIn;rw[f3];rfl
theorem Zm{zs:List Int}{tks:List Tok}(hl:tks.length=zs.length):IntsAre ((bO zs tks).toList.map (·.2)) zs:=by
 unfold bO;rw[List.toList_toArray]
 induction zs generalizing tks with
 | nil=>cases tks with
  | nil=>exact .nil
  | cons _ _=>simp at hl
 | cons z zs ih=>cases tks with
  | nil=>simp at hl
  | cons t tks=>exact .cons z t (ih (by simpa using hl))
theorem rC{zs:List Int}{tks:List Tok}(hl:tks.length=zs.length):(bO zs tks).size=zs.length:=by
 unfold bO;rw[List.size_toArray,List.length_zipWith];omega
theorem qQ:∀ zs∈fI,zs.length<=3/\(∀ led,(dI led zs).fits zs.length=true):=by decide +kernel
section
variable {P:Program}{w:World}{A:Around}{E:Value->Shared->Prop}{s:Shared}{a:Addr}{zs:List Int}{z:Int}{tk:Tok}
theorem wW(z:Int)(tk:Tok):(bM P w).is (.inl z) (.int z tk)=true:=Nn z tk
theorem Xb{tks:List Tok}(hl:tks.length=zs.length):ElemsOf (bM P w) (bO zs tks).toList/\((∃ e∈(bO zs tks).toList,(bM P w).is (.inl z) e.2=true)↔z∈zs):=by
 unfold bO;rw[List.toList_toArray]
 induction zs generalizing tks with
 | nil=>exact⟨(fun e he=>by cases tks<;>simp at he),by simp⟩
 | cons y zs ih=>cases tks with
  | nil=>simp at hl
  | cons t tks =>
   obtain⟨i1,i2⟩:=ih (tks:=tks) (by simpa using hl)
   refine⟨fun e he=>?_,?_⟩
   ·rw[List.zipWith_cons_cons]at he;rcases List.mem_cons.mp he with e1 | e1
    ·subst e1;exact⟨⟨.inl y,wW y t,rfl⟩,rfl⟩
    ·exact i1 e e1
   ·rw[List.zipWith_cons_cons,List.mem_cons,<- i2]
    constructor
    ·rintro⟨e,he,q⟩;rcases List.mem_cons.mp he with e1 | e1
     ·subst e1;have q:mT (.inl z) (.int y t)=true:=q
      rcases iF q with⟨i,t',e1,e2⟩ | ⟨x,t',e1,e2⟩
      ·cases e1;cases e2;exact .inl rfl
      ·cases e1
     ·exact .inr ⟨e,e1,q⟩
    ·rintro (rfl | ⟨e,he,q⟩)
     ·exact⟨_,List.mem_cons_self,wW z t⟩
     ·exact⟨e,List.mem_cons_of_mem _ he,q⟩
theorem J0{Q:Bool->Shared->Prop}(T:ISet P w s.heap a zs)(hz:z∈([0,1,-1]:List Int))
  (h:∀ b h',Heap.SameBut a s.heap h'->ISet P w h' a (bW zs z)->Q b {s with heap:=h'}) :
  wpAny (model P w) A (setAddHashed a (.int z tk) ((bM P w).hash (.inl z))) Q E s:=by
 have T0:=T
 obtain⟨o,tks,ep,ho,hex,hsub,hl,hd⟩:=T;obtain⟨l3,lf⟩:=qQ zs hsub;have hf:(dI (!w.params.followText "set-order") zs).fits (bO zs tks).size=true:=by rw[rC hl];exact lf _
 have hb:(bO zs tks).size<scanBound:=by rw[rC hl];unfold scanBound;omega
 obtain⟨hel,mem⟩:=Xb (P:=P) (w:=w) (z:=z) hl;have hkey:=wW (P:=P) (w:=w) z tk
 unfold setAddHashed setAddHashedIn;refine wpAny_holding (wpAny_bind (wpAny_setState_of ho hd hf ?_));dsimp only;rw[byScan_of (x:=.int z tk) rfl hb hel,if_pos rfl];unfold setAddByScan;refine wpAny_bind (wpAny_bind (wpAny_rule (wpAny_bind (wpAny_setScan_of hkey ho hd hf hel ?_))))
 cases hr:List.findIdx? (fun e=>(bM P w).is (.inl z) e.2) (bO zs tks).toList with
 | some j =>
  obtain⟨hj,hpj,_⟩:=List.findIdx?_eq_some_iff_getElem.mp hr;have hzz:z∈zs:=mem.mp ⟨_,List.getElem_mem hj,hpj⟩
  have q:=h false s.heap (Heap.SameBut.refl a s.heap) (by rw[Wa zs hsub z hzz];exact T0)
  exact wpAny_pure (wpAny_pure q)
 | none =>
  have hzz:z∉zs:=fun hz=>by
   obtain⟨e,he,q⟩:=mem.mpr hz;have:=List.findIdx?_eq_none_iff.mp hr e he
   rw[q]at this
   cases this
  dsimp only;obtain⟨tks',hl',e⟩:=Wv (led:=!w.params.followText "set-order") (tk:=tk) hsub hl hz hzz;obtain⟨_,_,_,_,g5,g6⟩:=Ol (!w.params.followText "set-order") zs hsub z hz hzz;have e:layNew (dI (!w.params.followText "set-order") zs) (bO zs tks) ((bM P w).hash (.inl z)) (.int z tk)=_:=e
  generalize layNew (dI (!w.params.followText "set-order") zs) (bO zs tks) ((bM P w).hash (.inl z)) (.int z tk)=L at e ⊢
  obtain⟨es1,t1,wd,gave⟩:=L;have gw:∀ (b:Bool) (s₁:Shared) (Q':Unit->Shared->Prop),Q' () s₁->wpAny (model P w) A (match b with | true=>rule "set.scan.the-table-gave-way" | false=>pure ()) Q' E s₁ :=
   fun b s₁ Q' hq=>by cases b<;>first | exact wpAny_pure hq | exact wpAny_rule hq
  refine wpAny_bind (gw _ _ _ ?_)
  cases e
  dsimp only;rw[if_pos (show(dI (!w.params.followText "set-order") (bW zs z)).plain=true from rfl)]
  refine wpAny_bind ?_;rw[hashByValue_scannable 8 (x:=.int z tk) rfl];refine wpAny_pure ?_;rw[if_pos (show plainKind (Value.int z tk)=true from rfl)]
  have hb':(bO (bW zs z) tks').size<scanBound:=by rw[rC hl'];have:=(qQ _ g5).1;unfold scanBound;omega
  refine wpAny_bind (wpAny_storeSet_of ho hd ?_ (fits_of_scanBound hb'));rw[g6,if_neg (by decide)]
  have o1:=Heap.get?_update_self (Obj.putSet (bO (bW zs z) tks') (dI (!w.params.followText "set-order") (bW zs z))) ho (by rw[putSet_of _ _ hd];rfl)
  rw[putSet_of _ _ hd]at o1;exact wpAny_pure (wpAny_pure (h true _ (Heap.SameBut.update s.heap a _) ⟨_,tks',ep+1,o1,hex,g5,hl',rfl⟩))
theorem Uc{Q:Value->Shared->Prop}(T:ISet P w s.heap a zs)(hz:z∈([0,1,-1]:List Int))(h:∀ h' tk',Heap.SameBut a s.heap h'->ISet P w h' a (bW zs z)->Q .none {s with heap:=h',toks:=tk'}) :
  wpAny (model P w) A (call (.builtin "set.add") [.ref a,.int z tk]) Q E s:=by
 have T0:=T
 obtain⟨o,tks,ep,ho,hex,_⟩:=T;refine wpAny_call_entry F.slot_set_add ⟨o,ho,hex.1⟩ F.entry_set_add ?_ (F.args_set_add_2 _ _);unfold Builtin.«set.add» Builtin.Frozenset.oneOther;simp only[List.isEmpty_nil,bind_assoc];unfold Builtin.Frozenset.addrOf setAdd;refine wpAny_bind (wpAny_pure ?_)
 try dsimp only
 refine wpAny_bind (wpAny_pure ?_)
 try dsimp only
 refine wpAny_bind ?_;refine wpAny_holding ?_;refine wpAny_bind ((bM P w).pyHash (wW z tk) ?_);refine J0 (s:={s with toks:=s.toks+1}) T0 hz fun b h' sb T'=>?_;show wpAny _ _ (ret Value.none) _ _ _
 exact wpAny_pure ⟨_,rfl,h h' _ sb T'⟩
end
structure WalkOkI (P:Program) (w:World) (s s2:Shared) (S I:Addr) (zs:List Int) (fp:List Addr) (n:Nat) (Pv:Nat->Value->Prop) (St:Nat->Heap->Prop):Prop where
 walk:∀ B:Around,B.handled=none->Walks P w B I fp [I] n Pv St
 st:St 0 s2.heap
 fps:∀ b∈fp,b=S\/s.heap.objs.size<=b
 lt:∀ b∈fp,b<s2.heap.objs.size
 ext:∀ b ob,s.heap.get? b=some ob->s2.heap.get? b=some ob
 gens:s2.gens=s.gens
 os:s2.os=s.os
 n60:n<=60
 new:s.heap.objs.size<=I
 all:∀ acc,ItemsOf Pv acc n->∃ ss,IntsAre acc.toList ss/\ss.Perm zs
theorem F2{l l':List Value}(p:l'.Perm l):∀ {vs:List Int},IntsAre l vs->∃ vs',IntsAre l' vs'/\vs'.Perm vs:=by
 induction p with
 | nil=>exact fun h=>⟨_,h,List.Perm.refl _⟩
 | cons x p ih =>
  intro vs h
  cases h with
  | cons z t h =>
   obtain⟨us,u1,u2⟩:=ih h;exact⟨z::us,.cons z t u1,u2.cons z⟩
 | swap x y l =>
  intro vs h
  cases h with
  | cons z t h=>cases h with
   | cons z' t' h=>exact⟨_,.cons _ _ (.cons _ _ h),List.Perm.swap _ _ _⟩
 | trans p q ih1 ih2 =>
  intro vs h;obtain⟨us,u1,u2⟩:=ih2 h;obtain⟨ws,w1,w2⟩:=ih1 u1;exact⟨ws,w1,w2.trans u2⟩
theorem st3:∀ zs∈fI,∀ i:Fin 3,(match ((zs.map jE).toArray)[i.val]? with | none=>true | some j=>decide (SetTable.below (zs.map jE).toArray (j+1)=i.val+1))=true:=by decide +kernel
theorem R0:∀ zs∈fI,SetTable.below (zs.map jE).toArray 0=0:=by decide +kernel
section
variable {P:Program}{w:World}{A:Around}{E:Value->Shared->Prop}{s:Shared}{S:Addr}{zs:List Int}
theorem Yp{Q:Value->Shared->Prop}(hh:True)(TS:ISet P w s.heap S zs)(hz:zs.length<=60)(h:∀ I s2 fp n Pv St,WalkOkI P w s s2 S I zs fp n Pv St->Q (.ref I) s2):wpAny (model P w) A (pyIter (.ref S)) Q E s:=by
 obtain⟨o,tks,ep,ho,hex,hsub,hl,hd⟩:=TS;obtain⟨l3,lf⟩:=qQ zs hsub;have hf:(dI (!w.params.followText "set-order") zs).fits (bO zs tks).size=true:=by rw[rC hl];exact lf _
 have sz0:=rC hl
 have hv:=Zm hl
 have ltS:S<s.heap.objs.size:=Heap.lt_size ho
 have fin:∀ acc:Array Value,acc.toList.Perm ((bO zs tks).toList.map (·.2))->∃ ss,IntsAre acc.toList ss/\ss.Perm zs:=fun acc q=>F2 q hv
 refine Uz ho hex hd hf (by omega) (fun b1 b2 b3 ys d' yp=>by cases b2) fun c=>?_
 have fps:∀ b∈[s.heap.objs.size,S],b=S\/s.heap.objs.size<=b:=fun b hb=>by
  simp at hb;rcases hb with rfl | rfl
  ·exact .inr (Nat.le_refl _)
  ·exact .inl rfl
 have lt2:∀ x:Obj,∀ b∈[s.heap.objs.size,S],b<(s.heap.push x).objs.size:=fun x b hb=>by
  simp at hb;rw[Heap.size_push];rcases hb with rfl | rfl
  ·exact Nat.lt_succ_self _
  ·exact Nat.lt_succ_of_lt ltS
 by_cases bt:w.params.followText "set-order"=true
 ·have pp:=N6 (w.params.setOrder S ep) (bO zs tks)
  have ps:(pickOrder (w.params.setOrder S ep) (bO zs tks)).size=(bO zs tks).size:=by rw[<- Array.length_toList,pp.length_eq,Array.length_toList]
  refine h _ _ [s.heap.objs.size,S] (bO zs tks).size _ _ ⟨fun B hB=>N7 hB bt (Nat.ne_of_lt ltS) hd hf ps,⟨Heap.get?_push_size _ rfl,Heap.get?_push_of_some _ ho⟩,fps,lt2 _,fun b ob e=>Heap.get?_push_of_some _ e,rfl,rfl,by omega,Nat.le_refl _,fun acc ha=>?_⟩
  have e:acc.toList=(pickOrder (w.params.setOrder S ep) (bO zs tks)).toList.map (·.2):=by
   refine Mc ha (by rw[List.length_map,Array.length_toList,ps]) fun j v ⟨x,e1,e2⟩=>?_
   rw[List.getElem?_map,Array.getElem?_toList,e1,e2];rfl
  refine fin acc ?_;rw[e];exact pp.map _
 ·have bf:w.params.followText "set-order"=false:=by simpa using bt
  have bs:∀ i j:Nat,(dI (!w.params.followText "set-order") zs).place[i]?=some j->SetTable.below (dI (!w.params.followText "set-order") zs).place (j+1)=i+1:=fun i j g=>by
   have g:((zs.map jE).toArray)[i]?=some j:=g
   have li:=(Array.getElem?_eq_some_iff.mp g).1
   have:=st3 zs hsub ⟨i,by simp at li;omega⟩
   dsimp only at this;rw[g]at this;exact of_decide_eq_true this
  refine h _ _ [s.heap.objs.size,S] (bO zs tks).size _ _ ⟨fun B hB=>Zz hB bf (Nat.ne_of_lt ltS) hd hf (by show(!w.params.followText "set-order")=true;rw[bf];rfl) rfl bs,⟨⟨0,Heap.get?_push_size _ rfl,R0 zs hsub⟩,Heap.get?_push_of_some _ ho⟩,fps,lt2 _,fun b ob e=>Heap.get?_push_of_some _ e,rfl,rfl,by omega,Nat.le_refl _,fun acc ha=>?_⟩
  have e:acc.toList=(bO zs tks).toList.map (·.2):=by
   refine Mc ha (by rw[List.length_map,Array.length_toList]) fun j v ⟨x,e1,e2⟩=>?_
   rw[List.getElem?_map,Array.getElem?_toList,e1,e2];rfl
  refine fin acc ?_;rw[e]
theorem ISet.type{h:Heap}(T:ISet P w h S zs):∃ o,h.get? S=some o/\o.cls=.type "set":=let ⟨o,_,_,ho,hx,_⟩:=T;⟨o,ho,hx.1⟩
theorem J3{Q:List Value->Shared->Prop}(hh:A.handled=none)(T:ISet P w s.heap S zs)(hz:zs.length<=60)
  (h:∀ s' vs ss,IntsAre vs ss->ss.Perm zs->s.heap.objs.size<s'.heap.objs.size->(∀ b ob,s.heap.get? b=some ob->s'.heap.get? b=some ob)->s'.gens=s.gens->s'.os=s.os->Q vs s'):wpAny (model P w) A (collect (.ref S)) Q E s:=by
 obtain⟨oS,hoS,hcS⟩:=T.type;have ltS:S<s.heap.objs.size:=Heap.lt_size hoS
 have neL:s.heap.objs.size≠S:=Nat.ne_of_gt ltS
 unfold collect;refine wpAny_bind (wpAny_runValue (codeAny_builtin PySem.F.entry_proto_collect ?_));rw[Around.under_plainId PySem.F.plain_proto_collect _];show wpAny _ A.in1 (newList []>>=fun l=>again (.builtin "list.__iadd__" ⟨[l,.ref S],[]⟩)) _ _ s
 refine wpAny_bind (wpAny_newObj_type ?_);refine wpAny_pure ⟨plainId_quiet PySem.F.plain_list_iadd _,codeAny_builtin PySem.F.entry_list_iadd ?_⟩;rw[Around.under_plainId PySem.F.plain_list_iadd _];obtain⟨h1,eh1⟩:∃ h1,h1=s.heap.push {cls:=.type "list",data:=.seq ([]:List Value).toArray}:=⟨_,rfl⟩;rw[<- eh1];have k1:∀ b ob,s.heap.get? b=some ob->h1.get? b=some ob:=fun b ob e=>by rw[eh1];exact Heap.get?_push_of_some _ e
 have hL1:h1.get? s.heap.objs.size=some {cls:=.type "list",data:=.seq ([]:List Value).toArray}:=by rw[eh1];exact Heap.get?_push_size _ rfl
 have sz1:h1.objs.size=s.heap.objs.size+1:=by rw[eh1,Heap.size_push]
 have T1:ISet P w h1 S zs:=T.at fun ob e=>k1 S ob e
 have hT1:Shared.TypeIs {s with heap:=h1} (.ref S) "set":=⟨oS,k1 S oS hoS,hcS⟩
 show wpAny _ A.in1 (Builtin.List.listExtendWith (.ref s.heap.objs.size) (.ref S) (.ref s.heap.objs.size)) _ _ _
 unfold Builtin.List.listExtendWith;refine wpAny_bind (wpAny_typeOf hT1 ?_);have c1:Builtin.List.listSameRef (.ref s.heap.objs.size) (.ref S)=false:=by simp[Builtin.List.listSameRef,neL]
 rw[c1,if_neg (by decide)]
 refine wpAny_bind (Yp (s:={s with heap:=h1}) True.intro T1 hz fun I s2 fp n Pv St W=>?_);have hT2:s2.TypeIs (.ref S) "set":=⟨oS,W.ext S oS (k1 S oS hoS),hcS⟩
 refine wpAny_bind (wpAny_holding (Sa hT2 ?_));rw[if_pos (by decide +kernel)]
 refine wpAny_bind (wpAny_rule ?_);have hL2:s2.heap.get? s.heap.objs.size=some {cls:=.type "list",data:=.seq ([]:List Value).toArray}:=W.ext _ _ hL1
 refine wpAny_bind ?_;show wpAny _ A.in1 (updateSeq s.heap.objs.size (·.push .none)>>=fun _=>updateSeq s.heap.objs.size (·.pop)) _ _ _
 refine wpAny_bind (wpAny_updateSeq hL2 rfl ?_);have hL3:=Heap.get?_update_self (Obj.mapSeq (·.push Value.none)) hL2 rfl
 refine wpAny_updateSeq hL3 rfl ?_;have hL4:=Heap.get?_update_self (Obj.mapSeq (·.pop)) hL3 rfl
 have nf:s.heap.objs.size∉fp:=fun q=>by
  rcases W.fps _ q with e | e
  ·exact neL e
  ·have e:h1.objs.size<=s.heap.objs.size:=e
   rw[sz1]at e;exact absurd e (Nat.not_succ_le_self _)
 have oth:∀ b ob,b≠s.heap.objs.size->s2.heap.get? b=some ob->((s2.heap.update s.heap.objs.size (Obj.mapSeq (·.push Value.none))).update s.heap.objs.size (Obj.mapSeq (·.pop))).get? b=some ob:=fun b ob hb e=>(Heap.get?_update_other _ _ (Ne.symm hb)).trans ((Heap.get?_update_other _ _ (Ne.symm hb)).trans e)
 have WS:=(W.walk A.in1 (by simp[hh])).toS
 have n1:n<=sizeLine:=Nat.le_trans W.n60 (by rw[sizeLine_eq];decide)
 have st2:=(W.walk A.in1 (by simp[hh])).frame 0 s2.heap _ W.st fun b hb ob e=>oth b ob (by rintro rfl;exact nf hb) e
 refine wpAny_pure ⟨plainId_quiet PySem.F.plain_extend_loop _,codeAny_extend_loopS WS n1 _ nf _ n 0 _ _ _ rfl (Nat.zero_le _) st2 hL4 (ItemsOf.nil Pv) fun s' acc' c' hm hS' hacc=>?_⟩;show wpAny _ A (load s.heap.objs.size>>=_) _ _ s'
 refine wpAny_bind (wpAny_load hS' ?_);obtain⟨ss,q1,q2⟩:=W.all acc' hacc;refine wpAny_pure (h s' acc'.toList ss q1 q2 (Heap.lt_size hS') (fun b ob e=>hm.heap b ob ?_ (oth b ob ?_ (W.ext b ob (k1 b ob e)))) (hm.gens.trans W.gens) (hm.os.trans W.os))
 ·intro q;rcases List.mem_cons.mp q with q | q
  ·exact absurd (Heap.lt_size e) (by rw[q];exact Nat.lt_irrefl _)
  ·have q:b=I:=by simpa using q
   have l1:=Heap.lt_size e
   have l2:h1.objs.size<=I:=W.new
   rw[sz1]at l2;rw[q]at l1;exact absurd (Nat.lt_of_lt_of_le l1 (Nat.le_trans (Nat.le_succ _) l2)) (Nat.lt_irrefl _)
 ·intro q;exact absurd (Heap.lt_size e) (by rw[q];exact Nat.lt_irrefl _)
theorem Tl{Q:Value->Shared->Prop}(hh:A.handled=none)(T:ISet P w s.heap S zs)(hz:zs.length<=60)
  (h:∀ (s':Shared) (vs:List Value) (ss:List Int) (e:Nat) (L:Addr),IntsAre vs ss->ss.Perm zs->ss.Pairwise (·<=·)->s.heap.objs.size<=L->s'.heap.get? L=some (seqObj "list" vs.toArray e)->(∀ b ob,s.heap.get? b=some ob->s'.heap.get? b=some ob)->s'.gens=s.gens->s'.os=s.os->Q (.ref L) s') :
  wpAny (model P w) A (call (.builtin "sorted") [.ref S]) Q E s:=by
 refine Calls.call_function_entry kind_sorted plain_sorted entry_sorted (args_sorted1 _) ?_;unfold Builtin.«sorted»;refine wpAny_bind (m:=checkCount "sorted" 1 1 _) (wpAny_pure ?_);refine wpAny_bind (J3 (by simp[hh]) T hz fun s1 vs ss hS hp lt1 k1 g1 o1=>?_)
 have vl:vs.length<64:=by
  have q1:=congrArg List.length hS.nums
  have q2:=hp.length_eq
  simp at q1;omega
 refine wpAny_bind (wpAny_newList ?_);obtain⟨h2,eh2⟩:∃ h2,h2=s1.heap.push (seqObj "list" vs.toArray 0):=⟨_,rfl⟩;have hoL:h2.get? s1.heap.objs.size=some (seqObj "list" vs.toArray 0):=by rw[eh2];exact Heap.get?_push_size _ rfl
 show wpAny _ _ _ _ _ {s1 with heap:=s1.heap.push (seqObj "list" vs.toArray 0)}
 rw[<- eh2];refine wpAny_bind (wpAny_holding (wpAny_call_entry slot_list_sort ⟨_,hoL,rfl⟩ entry_list_sort (list_sort_tree (s:={s1 with heap:=h2}) hoL hS vl fun out ss' b1 b2 b3=>⟨_,rfl,?_⟩) (args_list_sort _)));obtain⟨e,he⟩:=sortedHeap_at (h:=h2) (a:=s1.heap.objs.size) (vs:=vs) (n:=0) (out:=out) hoL;refine wpAny_pure ⟨_,rfl,h _ _ ss' e s1.heap.objs.size b1 (b2.trans hp) b3 (Nat.le_of_lt lt1) (by rw[Array.toArray_toList];exact he) (fun b ob hb=>?_) g1 o1⟩
 have lb:b<s1.heap.objs.size:=Heap.lt_size (k1 b ob hb)
 show(sortedHeap h2 _ _ _).get? b=_
 rw[sortedHeap_old (Nat.ne_of_lt lb) (by rw[eh2,Heap.size_push];exact Nat.lt_succ_of_lt lb),eh2]
 exact Heap.get?_push_of_some _ (k1 b ob hb)
end
end DL
namespace DL
open PySem PySem.Spec PyProof.Rows L2
abbrev Kw(elt:Expr):Addr->Env->Sem Unit:=fun D env=>do
 let v <- eval elt env
 standAt elt.pos
 let _ <- call (.builtin "set.add") [.ref D,v]
theorem D6{elt tg iter:Expr}{ifs:List Expr}{scope:Scope}{pos:Pos}:CompE (.SetComp elt [⟨tg,iter,ifs,0⟩] scope pos) tg iter ifs (Kw elt):=⟨.inl ⟨_,_,_,_,rfl⟩,rfl,fun it D env=>rfl⟩
def Ao(P:Program)(w:World)(D:Addr)(_:Addr->Prop)(_:Mu)(_:Hp)(zs:List Int)(o:HO):Prop:=o=.ext fun h=>ISet P w h D zs
theorem Zq{P:Program}{w:World}{K:PySem.W.Frag}(D:Addr):AccR K (Ao P w D):=⟨fun _ h=>h,fun h=>by cases h;exact⟨(fun _ e=>nomatch e),(fun _ _ e=>nomatch e)⟩⟩
theorem Nl{P:Program}{w:World}{H:Hp}{h:Heap}{a:Addr}{zs:List Int}(T:ISet P w h a zs):ObjOk P w H h a (.ext fun h=>ISet P w h a zs) :=
 ⟨T,(let ⟨o,_,_,e,_⟩:=T;⟨o,e⟩),fun h1 h2 q k=>q.at fun o e=>k o e⟩
def tF(x:D)(z:Int):Prop:=x=.dat (.int z)/\z∈([0,1,-1]:List Int)
section
variable {X:Cx}{elt tg iter:Expr}{ifs:List Expr}{scope:Scope}{NC:List Str}{fi:DI}{g:DG}{t:DT}{f:DE}{pos:Pos}
theorem w8{Q:Value->Shared->Prop}{s:Shared}(h:Q (.ref s.heap.objs.size) {s with heap:=s.heap.push (Hk X.w)}):wpAny (model X.prog X.w) X.A (newSet (.type "set")) Q X.xe s:=by
 unfold newSet setsByText;refine wpAny_bind (wpAny_bind (wpAny_askSetting (wpAny_pure ?_)));dsimp only;simp only[newObj];exact wpAny_bind (wpAny_alloc (wpAny_pure h))
theorem f7{D:Addr}(he:PE X elt (LE X.K f))(hx:X.xe=fun _ _=>False):Hh X D (Kw elt) (Ao X.prog X.w D) (fun d m zs Q=>f d m fun x m1=>∃ z,tF x z/\Q (bW zs z) m1):=by
 intro pins s σ H Z d m zs o Q I ok rs hD ha q
 cases ha
 have he1:=he pins s σ H (fun v H1=>∃ m1 z,v=.int z/\z∈([0,1,-1]:List Int)/\Q (bW zs z) m1/\Ext X.K (aG Z D) m H m1 H1/\Ok X.K (aG Z D) m1 H1) I
  ⟨aG Z D,d,m,(fun x m1=>∃ z,tF x z/\Q (bW zs z) m1),ok,rs,q,fun x m1 v H1 h1 e1 ok1 rd=>by
   obtain⟨z,⟨e,hz⟩,q1⟩:=h1;subst e;exact⟨m1,z,rd.int,hz,q1,e1,ok1⟩⟩
 rw[hx]at he1;refine wpAny_bind (aI he1 fun u s1 hq=>?_);obtain⟨v,H1,I1,rv,m1,z,ev,hz,q1,e1,ok1⟩:=hq;subst ev;obtain⟨tk,rfl⟩:=rv;have hD1:H1 D=some (.ext fun h=>ISet X.prog X.w h D zs):=(e1.z _ (.inr rfl)).trans hD
 have T:ISet X.prog X.w s1.heap D zs:=(I1.hok _ _ hD1).1
 refine wpAny_bind (wpAny_standAt (wpAny_bind (Uc T hz fun h' tk' sb T'=>wpAny_pure ?_)));refine⟨bW zs z,m1,H1,_,q1,e1,ok1,rfl,?_⟩;have I2:=I1.write (t':=tk') (h':=h') (x:=D) (e:=D) (o:=.ext fun h=>ISet X.prog X.w h D (bW zs z)) (by rw[hD1];exact True.intro) (.inl rfl) (fun b u hb e=>(sb.2 b hb).trans e) (let ⟨o,_,_,e,_⟩:=T';⟨o,e⟩) (Nl T')
 exact I2
def dM(zs:List Int):List Int:=[-1,0,1].filter fun z=>decide (z∈zs)
theorem E8:∀ zs∈fI,(dM zs).Perm zs/\(dM zs).Pairwise (·<=·):=by
 intro zs h;have:∀ zs∈fI,(dM zs).isPerm zs=true/\(dM zs).Pairwise (·<=·):=by decide +kernel
 obtain⟨a,b⟩:=this zs h;exact⟨List.isPerm_iff.mp a,b⟩
theorem F0{ys zs:List Int}(h:zs∈fI)(p:ys.Perm zs)(s:ys.Pairwise (·<=·)):ys=dM zs:=by
 obtain⟨q,r⟩:=E8 zs h;exact(p.trans q.symm).eq_of_pairwise (fun a b _ _ h1 h2=>Int.le_antisymm h1 h2) s r
theorem qX:∀ {vs:List Value} {ys:List Int},IntsAre vs ys->Vals (ys.map V.int) vs
 | _,_,.nil=>.nil
 | _,_,.cons z t h=>.cons ⟨t,rfl⟩ (qX h)
theorem Kv{K:PySem.W.Frag}{Z:Addr->Prop}{m:Mu}{H:Hp}:∀ ys:List Int,RPs K Z m H (ys.map .int) (ys.map V.int)
 | []=>rfl
 | y::ys=>⟨_,_,rfl,by simp only[RP],Kv ys⟩
@[simp] def uD(src:List (Option Nat))(fi:DI)(g:DG)(t:DT)(f:DE):DE:=fun d m Q=>fi d m fun xs m1=>eZ g t (fun d m zs Q=>f d m fun x m1=>∃ z,tF x z/\Q (bW zs z) m1) xs [] (bH src d) m1 fun zs m2=>Q (.dat (.list ((dM zs).map .int))) m2
theorem Wz{p pos2:Pos}(src:List (Option Nat))(hc:X.calm=true)(hg0:Gl X "sorted")(hm0:X.mg "sorted"=none)(hi:PI X tg iter (LI X.K fi))
  (hg:∀ cl C s2 H2 pins fp,PG (aQ X scope cl C NC s2 H2 pins fp) tg (LG X.K g)) (ht:∀ cl C s2 H2 pins fp,PF (aQ X scope cl C NC s2 H2 pins fp) ifs (LT X.K t)) (he:∀ cl C s2 H2 pins fp,PE (aQ X scope cl C NC s2 H2 pins fp) elt (LE X.K f))
  (hkind:scope.kind=.function) (hcell:∀ y∈scope.names,y.2≠.cell) (hnames:∀ y∈scope.names,y.2=.local->scope.names.lookup y.1=some .local)
  (hfree:∀ x,(x,NameKind.free)∈scope.names->X.env.kindOf x=some .cell\/X.env.kindOf x=some .free) (hsrc:lX X scope NC src)
  (hs:∀ x,foldedSetIterable iter X.env x=pure x:=by intro _;rfl)
  (hs2:starEach [.SetComp elt [⟨tg,iter,ifs,0⟩] scope pos2] X.env=[(false,eval (.SetComp elt [⟨tg,iter,ifs,0⟩] scope pos2) X.env)]:=by rfl) :
  PE X (.Call (.Name "sorted" p) [.SetComp elt [⟨tg,iter,ifs,0⟩] scope pos2] [] pos) (LE X.K (uD src fi g t f)):=by
 intro pins s σ H Q I h;obtain⟨Z,d,m,R,ok,rs,h,k⟩:=h;refine Call_ (kW I hg0 hm0 V3 (PyProof.Rows.callWith_builtin1 ?_ hs2 rfl));rw[hs2];show wpAny _ _ (spliced ((false,eval (.SetComp elt [⟨tg,iter,ifs,0⟩] scope pos2) X.env)::[])) _ _ s
 refine Calls.spliced_cons ?_;rw[arm_eval_SetComp];refine S4 (AR:=Ao X.prog X.w) (o0:=fun D=>.ext fun h=>ISet X.prog X.w h D []) (a0:=[]) D6 (fun D=>Zq D) (fun {Q s} q=>w8 q) rfl (fun H h a _ e=>Nl (Vc e)) (fun D Z m H=>rfl) src hc hi hg ht (fun cl C s2 H2 pins fp D=>f7 (he cl C s2 H2 pins fp) rfl) hkind hcell hnames hfree hsrc hs (use:=none) (RL:=fun zs m2=>R (.dat (.list ((dM zs).map .int))) m2) I ok rs h ?_;intro s5 C D H' m' zs o q hDo mD e ok' ar _ _ ⟨mm,hns⟩ I5 off
 cases ar
 refine⟨mm,hns,fun h' hs'=>?_⟩;have I6:=off.inv I5 hs'
 have T:ISet X.prog X.w h' D zs:=(I6.hok _ _ hDo).1
 have hsub:zs∈fI:=let ⟨_,_,_,_,_,q,_⟩:=T;q
 refine Calls.spliced_nil ?_;refine Tl (s:={s5 with heap:=h'}) (I6.ok.hd hc) T (by have:=(qQ zs hsub).1;omega) fun s' vs' ys e' L hS hp hs'' lt hL k2 g2 o2=>?_
 obtain rfl:=F0 hsub hp hs'';have hv:=qX hS
 have hf:H' L=none:=I6.hok.fresh lt
 have I2:=I6.laid (t':=s'.toks) (h':=s'.heap) (a:=L) (o:=.lst ((dM zs).map V.int)) k2 lt ⟨by rw[List.length_map,sizeLine_eq];have:=hp.length_eq;have:=(qQ zs hsub).1;omega,vs',e',hv,hL⟩
 have I3:Inv X pins σ (aE H' L (.lst ((dM zs).map V.int))) s':=u7 I2 rfl g2 o2
 have sm:Same H' (aE H' L (.lst ((dM zs).map V.int))):=bT hf
 refine⟨.ref L,_,I3,rfl,k _ m' _ _ q (e.trans (ok'.ext sm)) (ok'.grow sm) ?_⟩;simp only[RD,RP];exact⟨L,_,rfl,eU ok' hf,.inl (.inl bQ),Kv _⟩
theorem U0{p pos2:Pos}(NC:List Str)(src:List (Option Nat))(hc:X.calm=true)(hg0:Gl X "sorted")(hm0:X.mg "sorted"=none)(hi:PI X tg iter (LI X.K fi))
  (hg:∀ cl C s2 H2 pins fp,PG (aQ X scope cl C NC s2 H2 pins fp) tg (LG X.K g)) (ht:∀ cl C s2 H2 pins fp,PF (aQ X scope cl C NC s2 H2 pins fp) ifs (LT X.K t)) (he:∀ cl C s2 H2 pins fp,PE (aQ X scope cl C NC s2 H2 pins fp) elt (LE X.K f))
  (hkind:scope.kind=.function:=by rfl) (hB:chkB scope X.env=true:=by rfl) (hS:chkS X.N scope X.env NC src=true:=by rfl)
  (hs:∀ x,foldedSetIterable iter X.env x=pure x:=by intro _;rfl)
  (hs2:starEach [.SetComp elt [⟨tg,iter,ifs,0⟩] scope pos2] X.env=[(false,eval (.SetComp elt [⟨tg,iter,ifs,0⟩] scope pos2) X.env)]:=by rfl) :
  PE X (.Call (.Name "sorted" p) [.SetComp elt [⟨tg,iter,ifs,0⟩] scope pos2] [] pos) (LE X.K (uD src fi g t f)) :=
 Wz (NC:=NC) src hc hg0 hm0 hi hg ht he hkind (chkB.ok hB).1 (chkB.ok hB).2.1 (chkB.ok hB).2.2 (chkS.ok hS) hs hs2
end
end DL
namespace DL
open PySem PySem.Spec PyProof.Rows L2
def dX{α:Type}(k:Nat)(xs:List α):List α:=(List.range (Builtin.Slice.slicePlaces 0 (xs.length:Int) (k:Int))).filterMap fun(i:Nat)=>xs[((0:Int)+(i:Int)*(k:Int)).toNat]?
theorem Tf{k:Nat}(hk:2<=k)(n:Nat):Builtin.Slice.sliceAdjust none none (k:Int) (n:Int)=(0,(n:Int)):=by
 unfold Builtin.Slice.sliceAdjust;have:¬ ((k:Int)<0):=by omega
 simp[this]
theorem BJ{k:Nat}(hk:2<=k)(n:Nat):Builtin.Slice.slicePlaces 0 (n:Int) (k:Int)<=n:=by
 unfold Builtin.Slice.slicePlaces;have h1:(k:Int) > 0:=by omega
 simp only[h1,if_true]
 by_cases h:(0:Int)<n
 ·simp only[h,if_true];have q:((n:Int)-0-1) / (k:Int)<=(n:Int)-0-1:=Int.ediv_le_self _ (by omega)
  have q0:0<=((n:Int)-0-1) / (k:Int):=Int.ediv_nonneg (by omega) (by omega)
  omega
 ·simp only[h,if_false];omega
theorem y7{α:Type}{k:Nat}{xs:List α}{x:α}(h:x∈dX k xs):x∈xs:=by
 obtain⟨i,_,e⟩:=List.mem_filterMap.mp h;exact List.mem_of_getElem? e
theorem Nv{α:Type}{k:Nat}(hk:2<=k)(xs:List α):(dX k xs).length<=xs.length:=by
 refine Nat.le_trans (List.length_filterMap_le _ _) ?_;rw[List.length_range];exact BJ hk _
theorem Nz{α β:Type}{R:α->β->Prop}{xs:List α}{ys:List β}(hl:xs.length=ys.length)(h:∀ (i:Nat) x y,xs[i]?=some x->ys[i]?=some y->R x y)(F:List α->List β->Prop)(f0:F [] [])(f1:∀ x y l r,R x y->F l r->F (x::l) (y::r))(k:Nat):F (dX k xs) (dX k ys):=by
 unfold dX;rw[<- hl]
 induction List.range (Builtin.Slice.slicePlaces 0 (xs.length:Int) (k:Int)) with
 | nil=>exact f0
 | cons i L ih =>
  rw[List.filterMap_cons,List.filterMap_cons]
  cases e:xs[((0:Int)+(i:Int)*(k:Int)).toNat]? with
  | none =>
   have:ys[((0:Int)+(i:Int)*(k:Int)).toNat]?=none:=List.getElem?_eq_none (by rw[<- hl];exact List.getElem?_eq_none_iff.mp e)
   rw[this];exact ih
  | some x =>
   have lt:=(List.getElem?_eq_some_iff.mp e).1
   have e2:ys[((0:Int)+(i:Int)*(k:Int)).toNat]?=some (ys[((0:Int)+(i:Int)*(k:Int)).toNat]'(by omega)):=List.getElem?_eq_getElem _
   rw[e2];exact f1 _ _ _ _ (h _ _ _ e e2) ih
section
variable {prog:Program}{w:World}{A:Around}{E:Value->Shared->Prop}{s:Shared}
theorem x3{sl:Addr}{t:Tok}{k n:Nat}(hk:2<=k){Q:Int×Int×Nat->Shared->Prop}(hs:s.heap.IsSliceOf sl .none .none (.int (k:Int) t))
  (h:Q (0,(k:Int),Builtin.Slice.slicePlaces 0 (n:Int) (k:Int)) s):wpAny (model prog w) A (Builtin.Slice.sliceApplied (.ref sl) (pure (n:Int))) Q E s:=by
 obtain⟨os,hos,hcs,hds⟩:=id hs;unfold Builtin.Slice.sliceApplied Builtin.Slice.sliceFields;refine wpAny_bind (wpAny_bind (wpAny_field hos hds (x:=.none) rfl (wpAny_bind (wpAny_field hos hds (x:=.none) rfl (wpAny_bind (wpAny_field hos hds (x:=.int (k:Int) t) rfl (wpAny_pure ?_)))))));refine wpAny_bind (slicePart_int ?_);show wpAny _ _ (if ((k:Int)==0)=true then _ else _) _ _ s
 rw[if_neg (by rw[beq_iff_eq];omega)]
 refine wpAny_bind (slicePart_none (wpAny_bind (slicePart_none (wpAny_bind (wpAny_pure ?_)))));show wpAny _ _ (match Builtin.Slice.sliceAdjust none none (k:Int) (n:Int) with | (lo,hi)=>pure (lo,(k:Int),Builtin.Slice.slicePlaces lo hi (k:Int))) _ _ s
 rw[Tf hk];exact wpAny_pure h
theorem Rv{t sl:Addr}{items:Array Value}{tk:Tok}{k:Nat}(hk:2<=k){Q:Value->Shared->Prop}(ht:IsTup s.heap t items)(hs:s.heap.IsSliceOf sl .none .none (.int (k:Int) tk))
  (h:Q (.ref s.heap.objs.size) {s with heap:=s.heap.push {cls:=.type "tuple",data:=.seq (dX k items.toList).toArray}})
  (hsz:items.size<=sizeLine):wpAny (model prog w) A (getItem (.ref t) (.ref sl)) Q E s:=by
 have htake:sizeOk (.seq (dX k items.toList).toArray):=by
  show(dX k items.toList).toArray.size<=sizeLine
  rw[List.size_toArray];have:=Nv hk items.toList
  rw[Array.length_toList]at this;exact Nat.le_trans this hsz
 have epick:((List.range (Builtin.Slice.slicePlaces 0 ((items.size:Nat):Int) (k:Int))).filterMap fun(i:Nat)=>items[((0:Int)+(i:Int)*(k:Int)).toNat]?).toArray=(dX k items.toList).toArray:=by
  unfold dX;rw[Array.length_toList];have:(fun(i:Nat)=>items[((0:Int)+(i:Int)*(k:Int)).toNat]?)=fun(i:Nat)=>items.toList[((0:Int)+(i:Int)*(k:Int)).toNat]?:=by funext i;rw[Array.getElem?_toList]
  rw[this]
 obtain⟨os,hos,hcs,hds⟩:=id hs;have hTs:s.TypeIs (.ref sl) "slice":=⟨os,hos,hcs⟩
 unfold getItem
 try with_reducible refine wpAny_holding ?_
 first | refine wpAny_bind (wpAny_pure ?_) | skip
 refine wpAny_bind (wpAny_sequenceKey ht.typeIs (by decide) ?_)
 refine wpAny_bind (wpAny_callSpecial?_slot (name:=Str.ofString "__getitem__") ht.typeIs PyProof.Rows.slot_tuple_getitem
  (wpAny_call_entry PyProof.Rows.slot_tuple_getitem ht.typeIs entry_tuple_getitem ?_ (args_tuple_getitem _ _)))
 show wpAny _ _ (Builtin.Tuple.tupleItemsOf (.ref t)>>=_) _ _ s
 refine wpAny_bind (tupleItemsOf_ ht ?_);refine wpAny_bind (wpAny_typeOf hTs ?_);rw[if_pos (by decide)]
 refine wpAny_bind (x3 hk hs ?_);have hno:¬ (((0:Int)==0&&(k:Int)==1&&Builtin.Slice.slicePlaces 0 ((items.size:Nat):Int) (k:Int)==items.size)=true):=by
  intro q;rw[Bool.and_eq_true,Bool.and_eq_true]at q;have:=eq_of_beq q.1.2
  omega
 show wpAny _ _ (if ((0:Int)==0&&(k:Int)==1&&Builtin.Slice.slicePlaces 0 ((items.size:Nat):Int) (k:Int)==items.size)=true then _ else _) _ _ s
 rw[if_neg hno,epick]
 first
  | exact wpAny_bind (m:=Builtin.Tuple.tupleExact _) (wpAny_newObj_type (wpAny_pure ⟨_,rfl,wpAny_pure h⟩) htake)
  | exact wpAny_bind (m:=Builtin.Tuple.tupleExact _) (wpAny_newObj_type (wpAny_bind (wpAny_pure (wpAny_pure ⟨_,rfl,wpAny_pure h⟩))) htake)
  | exact wpAny_bind (wpAny_bind (m:=Builtin.Tuple.tupleExact _) (wpAny_newObj_type (wpAny_pure (wpAny_pure ⟨_,rfl,wpAny_pure h⟩)) htake))
  | exact wpAny_bind (wpAny_bind (m:=Builtin.Tuple.tupleExact _) (wpAny_newObj_type (wpAny_pure ⟨_,rfl,wpAny_pure h⟩) htake))
end
section
variable {X:Cx}{a:Expr}{f:DE}{pos p2 p3:Pos}
theorem Vals.rel:∀ {xs:List V} {us:List Value},Vals xs us->xs.length=us.length/\∀ (i:Nat) x u,xs[i]?=some x->us[i]?=some u->RelV x u
 | _,_,.nil=>⟨rfl,fun i x u e=>by simp at e⟩
 | _,_,.cons r t=>⟨by simp[(Vals.rel t).1],fun i x u e1 e2=>by
  cases i with
  | zero=>cases e1;cases e2;exact r
  | succ i=>exact(Vals.rel t).2 i x u (by simpa using e1) (by simpa using e2)⟩
theorem RPs.rel{K:PySem.W.Frag}{Z:Addr->Prop}{m:Mu}{H:Hp}:∀ {xs:List PyData} {vs:List V},RPs K Z m H xs vs->xs.length=vs.length/\∀ (i:Nat) x u,xs[i]?=some x->vs[i]?=some u->RP K Z m H x u
 | [],vs,h=>by
  cases (show vs=[] from h)
  exact⟨rfl,fun i x u e=>by simp at e⟩
 | p::ps,vs,h=>by
  obtain⟨v,r,rfl,h1,h2⟩:=h;obtain⟨q1,q2⟩:=RPs.rel h2;refine⟨by simp[q1],fun i x u e1 e2=>?_⟩
  cases i with
  | zero=>cases e1;cases e2;exact h1
  | succ i=>exact q2 i x u (by simpa using e1) (by simpa using e2)
@[simp] def xF(k:Nat)(f:DE):DE:=fun d m Q=>f d m fun x m1=>∃ xs,x=.dat (.tuple xs)/\Q (.dat (.tuple (dX k xs))) m1
theorem Xd(k:Nat){j:Nat}(ha:PE X a (LE X.K f))(hk:2<=k:=by decide):PE X (.Subscript a (.Slice none none (some (.Constant (.int (k:Int)) j p3)) p2) pos) (LE X.K (xF k f)):=by
 intro pins s σ H Q I h;obtain⟨Z,d,m,R,ok,rs,h,kk⟩:=h;refine Subscript_ (aI (ha pins s σ H (fun x H1=>∃ a vs,x=.ref a/\SqT X.K H1 a vs/\∀ p,H1 p=none->Q (.ref p) (aE H1 p (.tup (dX k vs)))) I ?_) fun v s1 ⟨x,H1,I1,r1,a',vs,ex,hq,q1⟩=>?_)
 ·refine⟨Z,d,m,_,ok,rs,h,fun x m1 v H1 ⟨xs,e,q⟩ e1 ok1 rd=>?_⟩;subst e;simp only[RD,RP]at rd;obtain⟨a',vs,rfl,h1,h2⟩:=rd;refine⟨a',vs,rfl,h1,fun p hp=>?_⟩;have sm:Same H1 (aE H1 p (.tup (dX k vs))):=bT hp
  refine kk _ m1 _ _ q (e1.trans (ok1.ext sm)) (ok1.grow sm) ?_;simp only[RD,RP];refine⟨p,_,rfl,.inl (.inl bQ),RPs.ext (ok1.ext sm) _ _ ?_⟩;exact Nz (RPs.rel h2).1 (RPs.rel h2).2 (fun l r=>RPs X.K Z m1 H1 l r) rfl (fun x y l r q1 q2=>⟨_,_,rfl,q1,q2⟩) k
 ·subst ex
  cases r1
  refine wpAny_Slice ?_;rw[evalPart_none];refine wpAny_pure (wpAny_pure ?_);rw[evalPart_some];refine wpAny_Constant_int ?_;have I4:∀ tk t0,Inv X pins σ H1 {s1 with heap:=s1.heap.push {cls:=.type "slice",data:=.fields #[.none,.none,.int (k:Int) t0]},toks:=tk}:=fun tk t0=>I1.kept fun b ob q=>Heap.get?_push_of_some _ q
  obtain⟨its,r,ht,hz⟩:=(I4 (s1.toks+1) s1.toks).tuple hq;have hl:=r.length
  refine tail_any (ops:=[.ref a',.ref s1.heap.objs.size]) ht.typeIs PyProof.Rows.slot_tuple_getitem.lookup (Rv hk ht (Heap.IsSliceOf.new ..) ?_ (by rw[List.size_toArray];omega)) (by with_unfolding_all rfl)
  refine⟨.ref _,aE H1 _ (.tup (dX k vs)),(I4 (s1.toks+1) s1.toks).laid (t':=s1.toks+1) (fun b ob q=>Heap.get?_push_of_some _ q) (Nat.le_refl _) ?_,rfl,q1 _ ((I4 (s1.toks+1) s1.toks).hok.fresh (Nat.le_refl _))⟩;exact⟨⟨Nat.le_trans (Nv hk _) hz,NoD.new _ _ _⟩,_,Nz (Vals.rel r).1 (Vals.rel r).2 (fun l r=>Vals l r) .nil (fun x y l r q1 q2=>.cons q1 q2) k,IsTup.new _ _⟩
end
end DL
namespace DL
open PySem PySem.Spec PyProof.Rows L2
section
variable {prog:Program}{w:World}{A:Around}{E:Value->Shared->Prop}{s:Shared}
theorem Cd{h h':Heap}{t:Addr}{xs:Array Value}(g:h.IsTuple t xs)(k:∀ o,h.get? t=some o->h'.get? t=some o):h'.IsTuple t xs:=let ⟨o,e,r⟩:=g;⟨o,k o e,r⟩
theorem N9{h h':Heap}{t:Addr}{xs:Array Value}(g:h.IsList t xs)(k:∀ o,h.get? t=some o->h'.get? t=some o):h'.IsList t xs:=let ⟨o,e,r⟩:=g;⟨o,k o e,r⟩
structure Zsr (h:Heap) (z TI TO i1 i2 t1 t2:Addr) (f0:Value) (k:Nat):Prop where
 z:IsZip h z TI TO f0
 ti:IsPair h TI (.ref i1) (.ref i2)
 to:∃ a b,IsPair h TO a b
 a:h.IsTupleIter i1 t1 k
 b:h.IsListIter i2 t2 k
theorem Pu{z TI TO i1 i2 t1 t2:Addr}{k:Nat}{xs ys:Array Value}{x y:Value}{Q:Value->Shared->Prop}(D:ZipApart z TI TO i1 i2 t1 t2)(S:Zsr s.heap z TI TO i1 i2 t1 t2 .none k)
  (g1:s.heap.IsTuple t1 xs) (g2:s.heap.IsList t2 ys) (hx:xs[k]?=some x) (hy:ys[k]?=some y)
  (hQ:∀ h',Zsr h' z TI TO i1 i2 t1 t2 (rawInt s.heap.objs.size) (k+1)->IsPair h' s.heap.objs.size x y ->
   (∀ c o,c≠z->c≠TO->c≠i1->c≠i2->s.heap.get? c=some o->h'.get? c=some o)->Q (.ref s.heap.objs.size) {s with heap:=h'}) :
  wpAny (model prog w) A (Builtin.«zip.__next__» ⟨[.ref z],[]⟩) (fun fin s'=>∃ v,fin=.done (.ret v)/\Q v s') E s:=by
 obtain⟨hz,hTI,⟨a,b,hTO⟩,h1,h2⟩:=S;show wpAny _ _ (field (.ref z) 2>>=_) _ _ _;refine wpAny_bind (wpAny_field hz rfl (x:=.bool false) rfl ?_)
 show wpAny _ _ (field (.ref z) 3>>=_) _ _ _;refine wpAny_bind (wpAny_field hz rfl (x:=.ref TI) rfl (wpAny_bind (wpAny_seqItems hTI rfl ?_)))
 show wpAny _ _ (Builtin.SmallTypes.ownedTupleIsFree (.ref z)>>=_) _ _ _;refine wpAny_bind ?_
 unfold Builtin.SmallTypes.ownedTupleIsFree;refine wpAny_bind (wpAny_field hz rfl (x:=.none) rfl (wpAny_pure ?_));simp only[if_true];refine wpAny_bind (wpAny_rule (wpAny_bind (wpAny_field hz rfl (x:=.ref TO) rfl ?_)));refine wpAny_bind (wpAny_setField_rec hz (by simp) fun n1 z1 c1=>?_);replace z1:IsZip n1 z TI TO .ellipsis:=z1
 refine wpAny_bind ?_;simp only[List.zipIdx_cons,List.zipIdx_nil,List.forIn_cons,List.forIn_nil];refine wpAny_bind (wpAny_bind (wpAny_onRaise ?_));show wpAny _ _ (Builtin.SmallTypes.nextOf (.ref i1)>>=_) _ _ _
 refine wpAny_bind (nK (h1.at fun o e=>c1.extBut _ o D.i1z e) (Cd g1 fun o e=>c1.extBut _ o D.l1z e) hx fun n2 b2 c2=>wpAny_pure ?_);have p2:IsPair n2 TO a b:=c2.extBut _ _ D.TOi1 (c1.extBut _ _ D.TOz hTO)
 refine wpAny_bind (wpAny_seqItems p2 rfl (wpAny_bind (wpAny_updateSeq_pair p2 fun n3 p3 c3=>?_)));replace p3:IsPair n3 TO x b:=p3;refine wpAny_bind (wpAny_letGo (wpAny_pure (wpAny_bind (wpAny_bind (wpAny_onRaise ?_)))));show wpAny _ _ (Builtin.SmallTypes.nextOf (.ref i2)>>=_) _ _ _
 have up3:∀ c o,c≠z->c≠TO->c≠i1->s.heap.get? c=some o->n3.get? c=some o:=fun c o q1 q2 q3 e=>c3.extBut _ _ q2 (c2.extBut _ _ q3 (c1.extBut _ _ q1 e))
 have g23:n3.IsList t2 ys:=by
  obtain⟨o,ho,r⟩:=g2;exact⟨o,up3 _ _ D.l2z D.l2TO D.l2i1 ho,r⟩
 refine wpAny_bind (wpAny_nextOf_list_item (h2.at fun o e=>up3 _ o D.i2z D.TOi2.symm D.i12.symm e) g23 hy fun n4 b4 c4=>wpAny_pure ?_);have p4:IsPair n4 TO x b:=c4.extBut _ _ D.TOi2 p3
 refine wpAny_bind (wpAny_seqItems p4 rfl (wpAny_bind (wpAny_updateSeq_pair p4 fun n5 p5 c5=>?_)));replace p5:IsPair n5 TO x y:=p5;refine wpAny_bind (wpAny_letGo (wpAny_pure (wpAny_pure (wpAny_bind (wpAny_seqItems p5 rfl (wpAny_bind (wpAny_newTuple ?_)))))));have size5:n5.objs.size=s.heap.objs.size:=by rw[c5.1,c4.1,c3.1,c2.1,c1.1]
 have z5:IsZip n5 z TI TO .ellipsis:=c5.extBut _ _ D.TOz.symm (c4.extBut _ _ D.i2z.symm (c3.extBut _ _ D.TOz.symm (c2.extBut _ _ D.i1z.symm z1)))
 have up5:∀ c o,c≠z->c≠TO->c≠i1->c≠i2->s.heap.get? c=some o->n5.get? c=some o:=fun c o q1 q2 q3 q4 e=>c5.extBut _ _ q2 (c4.extBut _ _ q4 (up3 c o q1 q2 q3 e))
 have a5:n5.IsTupleIter i1 t1 (k+1):=b2.at fun o e=>c5.extBut _ _ D.TOi1.symm (c4.extBut _ _ D.i12 (c3.extBut _ _ D.TOi1.symm e))
 have b5:n5.IsListIter i2 t2 (k+1):=b4.at fun o e=>c5.extBut _ _ D.TOi2.symm e
 have zlt:z<n5.objs.size:=Heap.lt_size z5
 show wpAny _ _ (Builtin.SmallTypes.ownedTupleHandOut (.ref z) (.ref n5.objs.size)>>=_) _ _ _;refine wpAny_bind ?_
 unfold Builtin.SmallTypes.ownedTupleHandOut;have z6:IsZip (n5.push {cls:=.type "tuple",data:=.seq #[x,y]}) z TI TO .ellipsis:=Heap.get?_push_of_some _ z5
 refine wpAny_bind (wpAny_setField_rec z6 (by simp) fun n7 z7 c7=>?_);replace z7:IsZip n7 z TI TO (rawInt n5.objs.size):=z7
 refine wpAny_setField_rec z7 (by simp) fun n8 z8 c8=>?_;replace z8:IsZip n8 z TI TO (rawInt n5.objs.size):=z8
 have up8:∀ c o,c≠z->n5.get? c=some o->n8.get? c=some o:=fun c o q e=>c8.extBut _ _ q (c7.extBut _ _ q (Heap.get?_push_of_some _ e))
 have new8:IsPair n8 n5.objs.size x y:=c8.extBut _ _ (Nat.ne_of_gt zlt) (c7.extBut _ _ (Nat.ne_of_gt zlt) (Heap.get?_push_size _ rfl))
 rw[size5]at z8 new8;refine wpAny_pure ⟨_,rfl,?_⟩;show Q (.ref n5.objs.size) _
 rw[size5];exact hQ n8 ⟨z8,up8 _ _ D.TIz (up5 _ _ D.TIz D.TITO D.TIi1 D.TIi2 hTI),⟨x,y,up8 _ _ D.TOz p5⟩,a5.at fun o e=>up8 _ o D.i1z e,b5.at fun o e=>up8 _ o D.i2z e⟩ new8 fun c o q1 q2 q3 q4 e=>up8 c o q1 (up5 c o q1 q2 q3 q4 e)
theorem Z5{z TI TO i1 i2 t1 t2:Addr}{k:Nat}{xs ys:Array Value}{Q:Fin->Shared->Prop}(hh:A.handled=none)(D:ZipApart z TI TO i1 i2 t1 t2)(S:Zsr s.heap z TI TO i1 i2 t1 t2 .none k)
  (g1:s.heap.IsTuple t1 xs) (g2:s.heap.IsList t2 ys) (hend:xs[k]?=none\/ys[k]?=none)
  (hE:∀ h' e,(∀ c o,c≠z->c≠TO->c≠i1->c≠i2->s.heap.get? c=some o->h'.get? c=some o)->(∃ o,h'.get? e=some o/\o.cls=.type "StopIteration")->E (.ref e) {s with heap:=h'}) :
  wpAny (model prog w) A (Builtin.«zip.__next__» ⟨[.ref z],[]⟩) Q E s:=by
 obtain⟨hz,hTI,⟨a,b,hTO⟩,h1,h2⟩:=S;show wpAny _ _ (field (.ref z) 2>>=_) _ _ _;refine wpAny_bind (wpAny_field hz rfl (x:=.bool false) rfl ?_)
 show wpAny _ _ (field (.ref z) 3>>=_) _ _ _;refine wpAny_bind (wpAny_field hz rfl (x:=.ref TI) rfl (wpAny_bind (wpAny_seqItems hTI rfl ?_)))
 show wpAny _ _ (Builtin.SmallTypes.ownedTupleIsFree (.ref z)>>=_) _ _ _;refine wpAny_bind ?_
 unfold Builtin.SmallTypes.ownedTupleIsFree;refine wpAny_bind (wpAny_field hz rfl (x:=.none) rfl (wpAny_pure ?_));simp only[if_true];refine wpAny_bind (wpAny_rule (wpAny_bind (wpAny_field hz rfl (x:=.ref TO) rfl ?_)));refine wpAny_bind (wpAny_setField_rec hz (by simp) fun n1 z1 c1=>?_);replace z1:IsZip n1 z TI TO .ellipsis:=z1
 refine wpAny_bind ?_;simp only[List.zipIdx_cons,List.zipIdx_nil,List.forIn_cons,List.forIn_nil];refine wpAny_bind (wpAny_bind (wpAny_onRaise ?_));show wpAny _ _ (Builtin.SmallTypes.nextOf (.ref i1)>>=_) _ _ _
 have apart:∀ (n:Heap) (e:Addr) (oe:Obj),IsZip n z TI TO .ellipsis->n.get? e=some oe->oe.cls=.type "StopIteration"->e≠z:=fun n e oe q q1 q2 q3=>by
  subst q3;rw[q]at q1
  cases q1
  simp at q2
 cases hx:xs[k]? with
 | none =>
  refine wpAny_bind (xJ hh (h1.at fun o e=>c1.extBut _ o D.i1z e) (Cd g1 fun o e=>c1.extBut _ o D.l1z e) hx fun n2 e c2 he=>?_);obtain⟨oe,q1,q2⟩:=he;have z2:IsZip n2 z TI TO .ellipsis:=c2 _ _ D.i1z.symm z1
  exact wpAny_setField_rec z2 (by simp) fun n3 _ c3=>hE n3 e (fun c o r1 _ r3 _ q=>c3.extBut _ _ r1 (c2 _ _ r3 (c1.extBut _ _ r1 q))) ⟨oe,c3.extBut _ _ (apart _ _ _ z2 q1 q2) q1,q2⟩
 | some x =>
  have hy:ys[k]?=none:=by
   rcases hend with h | h
   ·rw[hx]at h;cases h
   ·exact h
  refine wpAny_bind (nK (h1.at fun o e=>c1.extBut _ o D.i1z e) (Cd g1 fun o e=>c1.extBut _ o D.l1z e) hx fun n2 b2 c2=>wpAny_pure ?_);have p2:IsPair n2 TO a b:=c2.extBut _ _ D.TOi1 (c1.extBut _ _ D.TOz hTO)
  refine wpAny_bind (wpAny_seqItems p2 rfl (wpAny_bind (wpAny_updateSeq_pair p2 fun n3 p3 c3=>?_)));refine wpAny_bind (wpAny_letGo (wpAny_pure (wpAny_bind (wpAny_bind (wpAny_onRaise ?_)))));show wpAny _ _ (Builtin.SmallTypes.nextOf (.ref i2)>>=_) _ _ _
  have up3:∀ c o,c≠z->c≠TO->c≠i1->s.heap.get? c=some o->n3.get? c=some o:=fun c o q1 q2 q3 e=>c3.extBut _ _ q2 (c2.extBut _ _ q3 (c1.extBut _ _ q1 e))
  have g23:n3.IsList t2 ys:=by
   obtain⟨o,ho,r⟩:=g2;exact⟨o,up3 _ _ D.l2z D.l2TO D.l2i1 ho,r⟩
  refine wpAny_bind (wpAny_nextOf_list_end hh (h2.at fun o e=>up3 _ o D.i2z D.TOi2.symm D.i12.symm e) g23 hy fun n4 e c4 he=>?_);obtain⟨oe,q1,q2⟩:=he;have z4:IsZip n4 z TI TO .ellipsis:=c4 _ _ D.i2z.symm (c3.extBut _ _ D.TOz.symm (c2.extBut _ _ D.i1z.symm z1))
  exact wpAny_setField_rec z4 (by simp) fun n5 _ c5=>hE n5 e (fun c o r1 r2 r3 r4 q=>c5.extBut _ _ r1 (c4 _ _ r4 (up3 c o r1 r2 r3 q))) ⟨oe,c5.extBut _ _ (apart _ _ _ z4 q1 q2) q1,q2⟩
abbrev tR(h:Heap)(t1:Addr):Heap:=h.push {cls:=.type "tuple_iterator",data:=.fields #[.ref t1,.int 0 0]}
abbrev uE(h:Heap)(t1 t2:Addr):Heap:=(tR h t1).push {cls:=.type "list_iterator",data:=.fields #[.ref t2,.int 0 0]}
abbrev sZ(h:Heap)(t1 t2:Addr):Heap:=(uE h t1 t2).push {cls:=.type "tuple",data:=.seq #[.ref h.objs.size,.ref (tR h t1).objs.size]}
abbrev sN(h:Heap)(t1 t2:Addr):Heap:=(sZ h t1 t2).push {cls:=.type "tuple",data:=.seq #[.none,.none]}
abbrev oO(h:Heap)(t1 t2:Addr):Heap:=(sN h t1 t2).push {cls:=.type "zip",data:=.fields #[.none,.bool false,.bool false,.ref (uE h t1 t2).objs.size,.ref (sZ h t1 t2).objs.size]}
theorem b8(t1 t2:Addr)(xs ys:Array Value):Meets (Builtin.«zip.__new__» ⟨[.type "zip",.ref t1,.ref t2],[]⟩) (fun _ R s=>s.heap.IsTuple t1 xs/\s.heap.IsList t2 ys /\
  R (.ok (.ret (.ref (sN s.heap t1 t2).objs.size))) {s with heap:=oO s.heap t1 t2}):=.of_wp fun prog w A R s hs=>by
 obtain⟨hp,g,d,tk,os⟩:=s;obtain⟨hl1,hl2,h⟩:=hs;have hsub:=sub_zip
 have u1:Heap.IsTuple (Shared.heap ⟨hp,g,d,tk,os⟩) t1 xs:=hl1
 have u2:Heap.IsList (Shared.heap ⟨hp.push {cls:=.type "tuple_iterator",data:=.fields #[.ref t1,.int 0 0]},g,d,tk,os⟩) t2 ys:=N9 hl2 fun o e=>Heap.get?_push_of_some _ e
 wp_walk using wpAny_pyIter_tuple u1,wpAny_pyIter_list u2
 exact⟨_,rfl,h⟩
theorem p6{t1 t2:Addr}{xs ys:Array Value}{Q:Value->Shared->Prop}(g1:s.heap.IsTuple t1 xs)(g2:s.heap.IsList t2 ys)
  (h:∀ h' n,n=s.heap.objs.size->Zsr h' (n+4) (n+2) (n+3) n (n+1) t1 t2 .none 0->(∀ c o,s.heap.get? c=some o->h'.get? c=some o)->Q (.ref (n+4)) {s with heap:=h'}):wpAny (model prog w) A (call (.type "zip") [.ref t1,.ref t2]) Q E s:=by
 refine callType_new F.called_zip (by decide) (F.typeCall_zip_2 _ _) (F.newCall_zip_2 _ _) (fun obj=>F.args_object_init_3 obj _ _) F.entry_zip_new (b8 t1 t2 xs ys) ⟨g1,g2,?_⟩
 have z1:(tR s.heap t1).objs.size=s.heap.objs.size+1:=Heap.size_push ..
 have z2:(uE s.heap t1 t2).objs.size=s.heap.objs.size+2:=by rw[Heap.size_push,z1]
 have z3:(sZ s.heap t1 t2).objs.size=s.heap.objs.size+3:=by rw[Heap.size_push,z2]
 have z4:(sN s.heap t1 t2).objs.size=s.heap.objs.size+4:=by rw[Heap.size_push,z3]
 have a5:(oO s.heap t1 t2).get? (sN s.heap t1 t2).objs.size=some _:=Heap.get?_push_size _ rfl
 have a4:(oO s.heap t1 t2).get? (sZ s.heap t1 t2).objs.size=some _:=Heap.get?_push_of_some _ (Heap.get?_push_size _ rfl)
 have a3:(oO s.heap t1 t2).get? (uE s.heap t1 t2).objs.size=some _:=Heap.get?_push_of_some _ (Heap.get?_push_of_some _ (Heap.get?_push_size _ rfl))
 have a2:(oO s.heap t1 t2).get? (tR s.heap t1).objs.size=some _:=Heap.get?_push_of_some _ (Heap.get?_push_of_some _ (Heap.get?_push_of_some _ (Heap.get?_push_size _ rfl)))
 have a1:(oO s.heap t1 t2).get? s.heap.objs.size=some _:=Heap.get?_push_of_some _ (Heap.get?_push_of_some _ (Heap.get?_push_of_some _ (Heap.get?_push_of_some _ (Heap.get?_push_size _ rfl))))
 show _/\_
 rw[z2,z3,z4]at a5;rw[z1,z2]at a3;rw[z3]at a4;rw[z1]at a2;rw[z4];exact⟨⟨_,a5,rfl⟩,h _ _ rfl ⟨a5,a3,⟨_,_,a4⟩,⟨_,a1,rfl,rfl⟩,⟨_,a2,rfl,rfl⟩⟩ fun c o x=>Heap.get?_push_of_some _ (Heap.get?_push_of_some _ (Heap.get?_push_of_some _ (Heap.get?_push_of_some _ (Heap.get?_push_of_some _ x))))⟩
end
def Wc(K:PySem.W.Frag)(t1 t2:Addr)(n:Nat):It :=
 ⟨fun i H=>i<n/\∃ xs ys,SqT K H t1 xs/\SqL K H t2 ys/\n=min xs.length ys.length,fun i H v H'=>∃ p x y,v=.ref p/\H p=none/\H'=aE H p (.tup [x,y])/\∀ xs ys,SqT K H t1 xs->SqL K H t2 ys->xs[i]?=some x/\ys[i]?=some y,
  fun i H=>i=n/\∃ xs ys,SqT K H t1 xs/\SqL K H t2 ys/\n=min xs.length ys.length⟩
theorem v4{P:Program}{w:World}{K:PySem.W.Frag}{elts:List Expr}{j:Nat}{pos:Pos}{z TI TO i1 i2 t1 t2:Addr}{n:Nat}(D:ZipApart z TI TO i1 i2 t1 t2) :
  Turn P w K (.Tuple elts j pos) (Wc K t1 t2 n) [z,TI,TO,i1,i2] z (fun i h=>Zsr h z TI TO i1 i2 t1 t2 .none i) where
 mem:=by simp
 obj:=fun i h st b hb=>by
  obtain⟨h1,h2,⟨a,c,h3⟩,⟨o4,e4,_,d4⟩,⟨o5,e5,_,d5⟩⟩:=st;simp only[List.mem_cons,List.not_mem_nil,or_false]at hb;rcases hb with rfl | rfl | rfl | rfl | rfl
  ·exact⟨_,h1,fun v q=>nomatch q⟩
  ·exact⟨_,h2,fun v q=>nomatch q⟩
  ·exact⟨_,h3,fun v q=>nomatch q⟩
  ·exact⟨_,e4,fun v q=>by rw[d4]at q;cases q⟩
  ·exact⟨_,e5,fun v q=>by rw[d5]at q;cases q⟩
 keep:=fun i h h' st k=>by
  obtain⟨h1,h2,⟨a,c,h3⟩,h4,h5⟩:=st;exact⟨k z (by simp) _ h1,k TI (by simp) _ h2,⟨a,c,k TO (by simp) _ h3⟩,h4.at fun o e=>k i1 (by simp) o e,h5.at fun o e=>k i2 (by simp) o e⟩
 item:=by
  intro X hP hw hK hc i pins s σ H E I hf st hg;subst hP hw hK;obtain⟨hi,xs,ys,q1,q2,hn⟩:=hg;obtain⟨its1,r1,p1,l1⟩:=I.tuple q1;obtain⟨its2,r2,p2,l2⟩:=I.list q2;have e1:xs[i]?=some (xs[i]'(by omega)):=List.getElem?_eq_getElem (by omega)
  have e2:ys[i]?=some (ys[i]'(by omega)):=List.getElem?_eq_getElem (by omega)
  obtain⟨u1,hu1,ru1⟩:=r1.get e1;obtain⟨u2,hu2,ru2⟩:=r2.get e2;have hT:s.TypeIs (.ref z) "zip":=⟨_,st.z,rfl⟩
  have hp:H s.heap.objs.size=none:=I.hok.fresh (Nat.le_refl _)
  unfold pyNext;refine wpAny_bind (wpAny_attempt (wpAny_callSpecial?_slot (name:=Str.ofString "__next__") hT F.slot_zip_next (wpAny_call_entry F.slot_zip_next hT F.entry_zip_next (Pu D st (show s.heap.IsTuple t1 its1.toArray from p1) p2.isList (by simpa using hu1) (by simpa using hu2) fun h' st' np k=>wpAny_pure ?_) (F.args_zip_next_1 _))))
  refine⟨_,rfl,?_⟩;refine wpAny_letOwnedTupleGo_zip (s:={s with heap:=h'}) st'.z fun h2 z2 c2=>?_;have I1:Inv X pins σ (aE H s.heap.objs.size (.tup [_,_])) {s with heap:=s.heap.push {cls:=.type "tuple",data:=.seq #[u1,u2]}} :=
   I.laid (t':=s.toks) (fun b o e=>Heap.get?_push_of_some _ e) (Nat.le_refl _) (show ObjOk X.prog X.w _ _ _ (.tup [_,_]) from⟨⟨by show 2<=sizeLine;rw[sizeLine_eq];decide,NoD.new _ _ _⟩,[u1,u2],.cons ru1 (.cons ru2 .nil),IsTup.new _ _⟩)
  have lt:∀ {c o},s.heap.get? c=some o->c≠s.heap.objs.size:=fun e=>Nat.ne_of_lt (Heap.lt_size e)
  have zne:s.heap.objs.size≠z:=fun e=>lt st.z e.symm
  have hf':∀ b∈[z,TI,TO,i1,i2],cS X pins (aE H s.heap.objs.size (.tup [xs[i]'(by omega),ys[i]'(by omega)])) b:=fun b hb=>by
   obtain⟨f0,f1,f2,f3,f4,f5⟩:=hf b hb;refine⟨?_,f1,f2,f3,f4,f5⟩;rw[aV]
   ·exact f0
   ·obtain⟨h1,h2,⟨a,c,h3⟩,⟨o4,e4,_⟩,⟨o5,e5,_⟩⟩:=st;simp only[List.mem_cons,List.not_mem_nil,or_false]at hb;rcases hb with rfl | rfl | rfl | rfl | rfl
    ·exact lt h1
    ·exact lt h2
    ·exact lt h3
    ·exact lt e4
    ·exact lt e5
  have kk:∀ b o,b∉[z,TI,TO,i1,i2]->(s.heap.push {cls:=.type "tuple",data:=.seq #[u1,u2]}).get? b=some o->h2.get? b=some o:=fun b o hb e=>by
   simp only[List.mem_cons,List.not_mem_nil,or_false,not_or]at hb;obtain⟨n1,n2,n3,n4,n5⟩:=hb;refine c2.extBut _ _ n1 ?_;rcases Heap.get?_push_cases e with⟨rfl,rfl⟩ | e
   ·exact np
   ·exact k b o n1 n3 n4 n5 e
  have I2:=nQ (s:={s with heap:=s.heap.push {cls:=.type "tuple",data:=.seq #[u1,u2]}}) (h':=h2) (t':=s.toks) (ch:=[z,TI,TO,i1,i2]) I1 kk hf'
  refine⟨.ref s.heap.objs.size,aE H s.heap.objs.size (.tup [xs[i]'(by omega),ys[i]'(by omega)]),I2,rfl,⟨_,_,_,rfl,hp,rfl,fun xs' ys' g1 g2=>?_⟩,?_,fun b hb=>(hf' b hb).1⟩
  ·rw[I.tuple_inj g1 q1,I.list_inj g2 q2];exact⟨e1,e2⟩
  ·obtain⟨h1,h2',⟨a,c,h3⟩,h4,h5⟩:=st';exact⟨z2,c2.extBut _ _ D.TIz h2',⟨a,c,c2.extBut _ _ D.TOz h3⟩,h4.at fun o e=>c2.extBut _ _ D.i1z e,h5.at fun o e=>c2.extBut _ _ D.i2z e⟩
 done:=by
  intro X hP hw hK hc i pins s σ H E I hf st hg;subst hP hw hK;obtain⟨hi,xs,ys,q1,q2,hn⟩:=hg;obtain⟨its1,r1,p1,l1⟩:=I.tuple q1;obtain⟨its2,r2,p2,l2⟩:=I.list q2;have m1:=r1.length
  have m2:=r2.length
  have hT:s.TypeIs (.ref z) "zip":=⟨_,st.z,rfl⟩
  unfold pyNext;refine wpAny_bind (wpAny_attempt (wpAny_callSpecial?_slot (name:=Str.ofString "__next__") hT F.slot_zip_next (wpAny_call_entry F.slot_zip_next hT F.entry_zip_next (Z5 (I.ok.hd hc) D st (show s.heap.IsTuple t1 its1.toArray from p1) p2.isList ?_ fun h' e k he=>?_) (F.args_zip_next_1 _))))
  ·by_cases c:xs.length<=ys.length
   ·left
    simp;omega
   ·right
    simp;omega
  ·obtain⟨o,ho,hce⟩:=he;refine wpAny_bind (wpAny_isInstance (T:="StopIteration") (b:=true) ⟨o,ho,hce⟩ isSubtype_stop ?_);refine wpAny_pure ⟨rfl,nQ (t':=s.toks) (ch:=[z,TI,TO,i1,i2]) I (fun b o hb e=>?_) hf⟩;simp only[List.mem_cons,List.not_mem_nil,or_false,not_or]at hb;exact k b o hb.1 hb.2.2.1 hb.2.2.2.1 hb.2.2.2.2 e
 self:=fun _ _ _ _ _ st h=>wpAny_pyIter_zip st.z h
@[simp] def vR(f g:DE):DI:=fun d m Q=>f d m fun x m1=>g d m1 fun y m2=>∃ ps qs,x=.dat (.tuple ps)/\y=.dat (.list qs)/\Q ((ps.zip qs).map fun z=>.dat (.tuple [z.1,z.2])) m2
section
variable {X:Cx}{a b:Expr}{elts:List Expr}{j:Nat}{f g:DE}{pos p p2:Pos}
theorem Ww(hg:Gl X "zip")(hm:X.mg "zip"=none)(ha:PE X a (LE X.K f))(hb:PE X b (LE X.K g))(hs:starEach [a,b] X.env=[(false,eval a X.env),(false,eval b X.env)]:=by rfl)(hs2:starEach [b] X.env=[(false,eval b X.env)]:=by rfl) :
  PI X (.Tuple elts j p2) (.Call (.Name "zip" p) [a,b] [] pos) (LI X.K (vR f g)):=by
 intro pins s σ H R I h;obtain⟨Z,d,m,ZZ,ok,rs,h,k⟩:=h;have hA:=lC (X:=X) ha (lC hb wM (by rw[hs2];rfl)) (by rw[hs,hs2]) pos pins s σ H (fun vs H1=>∃ a1 a2 xs ys ps qs m1,vs=[.ref a1,.ref a2]/\(m1 a2=none/\¬ Z a2)/\SqT X.K H1 a1 xs/\SqL X.K H1 a2 ys/\RPs X.K Z m1 H1 ps xs/\RPs X.K Z m1 H1 qs ys /\
   ZZ ((ps.zip qs).map fun z=>.dat (.tuple [z.1,z.2])) m1/\Ext X.K Z m H m1 H1/\Ok X.K Z m1 H1) I ⟨Z,d,m,fun ds m1=>match ds with | [x,y]=>∃ ps qs,x=.dat (.tuple ps)/\y=.dat (.list qs)/\ZZ ((ps.zip qs).map fun z=>.dat (.tuple [z.1,z.2])) m1 | _=>False,ok,rs,h,fun xs m1 vs H1 q e1 ok1 rd=>?_⟩
 ·refine Call_ (kW I hg hm Ex (PyProof.Rows.callWith_type1 (aI hA fun us s1 ⟨vs,H1,I1,r1,q1⟩=>?_) (by rw[hs,hs2]) (by rw[hs2];rfl)))
  obtain⟨a1,a2,xs,ys,ps,qs,m1,e,h0,h1,h2,rp,rq,q,e1,ok1⟩:=q1;subst e;obtain⟨u1,u2,rfl,ru1,ru2⟩:=xY r1
  cases ru1
  cases ru2
  obtain⟨its1,rv1,pt1,l1⟩:=I1.tuple h1;obtain⟨its2,rv2,pt2,l2⟩:=I1.list h2;refine p6 (show s1.heap.IsTuple a1 its1.toArray from pt1) pt2.isList fun h' n hn st kp=>?_
  have D:ZipApart (n+4) (n+2) (n+3) n (n+1) a1 a2:=Cy n a1 a2 (by obtain⟨o,ho,_⟩:=pt1;rw[hn];exact Heap.lt_size ho) (by obtain⟨o,ho,_⟩:=pt2.isList;rw[hn];exact Heap.lt_size ho)
  refine wpAny_pyIter_zip (s:={s1 with heap:=h'}) st.z ?_;refine⟨n+4,[n+4,n+2,n+3,n,n+1],_,_,H1,rfl,I1.kept (t':=s1.toks) kp,v4 (n:=min xs.length ys.length) D,st,fun c hc=>?_,k _ m1 H1 _ q e1 ok1 ?_⟩
  ·have hle:s1.heap.objs.size<=c:=by
    simp only[List.mem_cons,List.not_mem_nil,or_false]at hc;subst hn;rcases hc with rfl | rfl | rfl | rfl | rfl
    ·exact Nat.le_add_right _ 4
    ·exact Nat.le_add_right _ 2
    ·exact Nat.le_add_right _ 3
    ·exact Nat.le_refl _
    ·exact Nat.le_add_right _ 1
   exact I1.fpOk hle (I1.hok.fresh hle)
  ·intro m2 H2 e2;obtain⟨_,q2⟩:=e2.l a2 ys h0 h2;have q1:=e2.t a1 xs h1
   have lp:=rp.length
   have lq:=rq.length
   refine⟨fun i x hx=>?_,?_,xs,ys,q1,q2,rfl⟩
   ·rw[List.getElem?_map]at hx
    cases ez:(ps.zip qs)[i]? with
    | none=>rw[ez]at hx;cases hx
    | some z =>
     rw[ez]at hx
     cases hx
     obtain⟨z1,z2⟩:=z;obtain⟨ea,eb⟩:=List.getElem?_zip_eq_some.mp ez;obtain⟨v1,hv1,rv1'⟩:=rp.get ea;obtain⟨v2,hv2,rv2'⟩:=rq.get eb;have b1:=(List.getElem?_eq_some_iff.mp hv1).1
     have b2:=(List.getElem?_eq_some_iff.mp hv2).1
     refine⟨⟨by omega,xs,ys,q1,q2,rfl⟩,fun v H3 ⟨pp,x',y',ev,hp,eH,al⟩=>?_⟩
     obtain⟨w1,w2⟩:=al xs ys q1 q2;rw[hv1]at w1;rw[hv2]at w2
     cases w1
     cases w2
     refine .inr ⟨pp,[z1,z2],[_,_],rfl,ev,hp,eH,?_⟩;simp only[RPs];exact⟨_,_,rfl,rv1',_,_,rfl,rv2',rfl⟩
   ·show((ps.zip qs).map _).length=min xs.length ys.length
    rw[List.length_map,List.length_zip,lp,lq]
 ·match xs,q,rd with
  | [],q,_=>exact q.elim
  | [_],q,_=>exact q.elim
  | _::_::_::_,q,_=>exact q.elim
  | [x,y],q,rd =>
  obtain⟨ps,qs,rfl,rfl,q⟩:=q;obtain⟨v,w,rfl,g1,g2⟩:=rd.two;simp only[RD,RP]at g1 g2;obtain⟨a1,xs,rfl,h1,h2⟩:=g1;obtain⟨a2,ys,rfl,h0,h3,h4⟩:=g2;exact⟨a1,a2,xs,ys,ps,qs,m1,rfl,h0,h1,h3,h2,h4,q,e1,ok1⟩
end
end DL
namespace DL
open PySem PySem.Spec PyProof.Rows L2
structure QE (X:Cx) (e:Expr) (t:TE):Prop where
 pe:PE X e t
structure QA (X:Cx) (e:List Expr) (t:TA):Prop where
 pe:PA X e t
structure QT (X:Cx) (e:Expr) (t:TT):Prop where
 pe:PT X e t
structure QW (X:Cx) (e:Expr) (t:TT):Prop where
 pe:PW X e t
structure QS (X:Cx) (e:Stmt) (t:TS):Prop where
 pe:PS X e t
structure QSs (X:Cx) (e:List Stmt) (t:TS):Prop where
 pe:PSs X e t
structure QG (X:Cx) (e:Expr) (t:TG):Prop where
 pe:PG X e t
structure QGs (X:Cx) (e:List Expr) (t:iC):Prop where
 pe:PGs X e t
structure QO (X:Cx) (e:Option Expr) (t:TO):Prop where
 pe:PO X e t
structure QF (X:Cx) (e:List Expr) (t:TT):Prop where
 pe:PF X e t
structure QI (X:Cx) (tg e:Expr) (t:TI):Prop where
 pe:PI X tg e t
structure QD (X:Cx) (p:Pos) (k:List (Option Expr)) (v:List Expr) (t:List (DE×DE)):Prop where
 pe:PD X p k v t
theorem QW.pt{X:Cx}{e:Expr}{t:TT}(h:QW X e t):QT X e t:=⟨h.pe.pt⟩
section
variable {X:Cx}{pos:Pos}
theorem aB(i:Nat){x:Str}(hN:X.N[i]?=some x:=by rfl)(hv:iQ X.env.scope x:=by first | exact Or.inl rfl | exact Or.inr (Or.inl rfl) | exact Or.inr (Or.inr rfl))(hd:(x==("__debug__" : Str))=false:=by decide)(hcd:(x==("__classdict__" : Str))=false:=by decide):QE X (.Name x pos) (LE X.K (aA i)):=⟨b6 (i:=i) (hN:=hN) (hv:=hv) (hd:=hd) (hcd:=hcd)⟩
end
section
variable {X:Cx}{pos:Pos}
theorem bB{i:Int}{j:Nat}:QE X (.Constant (.int i) j pos) (LE X.K (aH (.int i))):=⟨Za ⟩
end
section
variable {X:Cx}{pos:Pos}
theorem eI{b:Bool}{j:Nat}:QE X (.Constant (.bool b) j pos) (LE X.K (aH (.bool b))):=⟨R1 ⟩
end
section
variable {X:Cx}{pos:Pos}
theorem uC{j:Nat}:QE X (.Constant .none j pos) (LE X.K (aH .none)):=⟨G2 ⟩
end
section
variable {X:Cx}{pos:Pos}
theorem cL{x:Str}{j:Nat}:QE X (.Constant (.str x) j pos) (LE X.K (aH (.str x))):=⟨E4 ⟩
end
section
variable {X:Cx}{a b c:Expr}{f g:DE}{pos:Pos}
theorem cE{op:Operator}{r:D2}(ho:cI X (binaryOp op) r)(ha:QE X a (LE X.K f))(hb:QE X b (LE X.K g)):QE X (.BinOp a op b pos) (LE X.K (aL r f g)):=⟨Tn (ho:=ho) (ha:=ha.pe) (hb:=hb.pe)⟩
end
section
variable {X:Cx}{a b c:Expr}{f g:DE}{pos:Pos}
theorem sC{op:CmpOp}{r:D2}(ho:cI X (compareOp op) r)(ha:QE X a (LE X.K f))(hb:QE X b (LE X.K g))(hm:behindInMarks op b=false:=by exact wS _):QE X (.Compare a [op] [b] pos) (LE X.K (aL r f g)):=⟨Pq (ho:=ho) (ha:=ha.pe) (hb:=hb.pe) (hm:=hm)⟩
end
section
variable {X:Cx}{a b c:Expr}{f g:DE}{pos:Pos}
theorem cN{op:CmpOp}{r:D2}(ho:cI X (compareOp op) r)(ha:QE X a (LE X.K f))(hb:QE X b (LE X.K g))(hm:behindInMarks op b=false:=by exact wS _):QT X (.Compare a [op] [b] pos) (LT X.K (bG (aL r f g))):=⟨Py (ho:=ho) (ha:=ha.pe) (hb:=hb.pe) (hm:=hm)⟩
end
section
variable {X:Cx}{a b c:Expr}{f g:DE}{pos:Pos}
theorem qF(h:QE X a (LE X.K f))(he:∀ whole,isTrue a X.env whole=(do let v <- whole;standAt a.pos;holding [v] (truthy v)):=by intro _;rfl):QT X a (LT X.K (bG f)):=⟨Rt (h:=h.pe) (he:=he)⟩
end
section
variable {X:Cx}{a b c:Expr}{rest:List Expr}{f g:DE}{t u:DT}{pos:Pos}
theorem El(ha:QT X a (LT X.K t)):QW X (.BoolOp .And [a] pos) (LT X.K t):=⟨X7 (ha:=ha.pe)⟩
end
section
variable {X:Cx}{a b c:Expr}{rest:List Expr}{f g:DE}{t u:DT}{pos:Pos}
theorem uX(ha:QT X a (LT X.K t)):QW X (.BoolOp .Or [a] pos) (LT X.K t):=⟨A5 (ha:=ha.pe)⟩
end
section
variable {X:Cx}{a b c:Expr}{rest:List Expr}{f g:DE}{t u:DT}{pos:Pos}
theorem Di(ha:QT X a (LT X.K t))(hb:QW X (.BoolOp .And (b::rest) pos) (LT X.K u)):QW X (.BoolOp .And (a::b::rest) pos) (LT X.K (qV t u)):=⟨BD (ha:=ha.pe) (hb:=hb.pe)⟩
end
section
variable {X:Cx}{a b c:Expr}{rest:List Expr}{f g:DE}{t u:DT}{pos:Pos}
theorem wX(ha:QT X a (LT X.K t))(hb:QW X (.BoolOp .Or (b::rest) pos) (LT X.K u)):QW X (.BoolOp .Or (a::b::rest) pos) (LT X.K (lS t u)):=⟨Ux (ha:=ha.pe) (hb:=hb.pe)⟩
end
section
variable {X:Cx}{a b c:Expr}{rest:List Expr}{f g:DE}{t u:DT}{pos:Pos}
theorem uH(ha:QT X a (LT X.K t)):QT X (.UnaryOp .Not a pos) (LT X.K (pO t)):=⟨w6 (ha:=ha.pe)⟩
end
section
variable {X:Cx}{a b c:Expr}{rest:List Expr}{f g:DE}{t u:DT}{pos:Pos}
theorem Us{op:BoolOp}(h:QE X a (LE X.K f)):QE X (.BoolOp op [a] pos) (LE X.K f):=⟨Sy (h:=h.pe)⟩
end
section
variable {X:Cx}{a b c:Expr}{rest:List Expr}{f g:DE}{t u:DT}{pos:Pos}
theorem j4(ha:QE X a (LE X.K f))(hb:QE X (.BoolOp .And (b::rest) pos) (LE X.K g)):QE X (.BoolOp .And (a::b::rest) pos) (LE X.K (yQ f g)):=⟨Rg (ha:=ha.pe) (hb:=hb.pe)⟩
end
section
variable {X:Cx}{a b c:Expr}{rest:List Expr}{f g:DE}{t u:DT}{pos:Pos}
theorem Xu(hc:QT X c (LT X.K t))(ha:QE X a (LE X.K f))(hb:QE X b (LE X.K g)):QE X (.IfExp c a b pos) (LE X.K (Fh t f g)):=⟨E5 (hc:=hc.pe) (ha:=ha.pe) (hb:=hb.pe)⟩
end
section
variable {X:Cx}{e:Expr}{es:List Expr}{f:DE}{g:DA}{pos:Pos}
theorem aR  : QA X [] (LA X.K aN):=⟨wM ⟩
end
section
variable {X:Cx}{e:Expr}{es:List Expr}{f:DE}{g:DA}{pos:Pos}
theorem aD(ha:QE X e (LE X.K f))(hr:QA X es (LA X.K g))(hs:starEach (e::es) X.env=(false,eval e X.env)::starEach es X.env:=by rfl):QA X (e::es) (LA X.K (aC f g)):=⟨lC (ha:=ha.pe) (hr:=hr.pe) (hs:=hs)⟩
end
section
variable {X:Cx}{e:Expr}{es:List Expr}{f:DE}{g:DA}{pos:Pos}
theorem iW{j:Nat}(h:QA X es (LA X.K g)):QE X (.Tuple es j pos) (LE X.K (eS g)):=⟨P8 (h:=h.pe)⟩
end
section
variable {X:Cx}{e:Expr}{es:List Expr}{f:DE}{g:DA}{pos:Pos}
theorem zG(h:QA X es (LA X.K g)):QE X (.List es pos) (LE X.K (qY g)):=⟨So (h:=h.pe)⟩
end
section
variable {X:Cx}{a b c e:Expr}{es:List Expr}{f g:DE}{ga:DA}{pos p2 p:Pos}
theorem Oj(ha:QE X a (LE X.K f)):QE X (.UnaryOp .USub a pos) (LE X.K (wG f)):=⟨BI (ha:=ha.pe)⟩
end
section
variable {X:Cx}{a b c e:Expr}{es:List Expr}{f g:DE}{ga:DA}{pos p2 p:Pos}
theorem dZ(ha:QE X a (LE X.K f))(hb:QE X b (LE X.K g))(hs:zK b:=by exact fun _ _=>rfl):QE X (.Subscript a b pos) (LE X.K (aL cZ f g)):=⟨T7 (ha:=ha.pe) (hb:=hb.pe) (hs:=hs)⟩
end
section
variable {X:Cx}{a b c e:Expr}{es:List Expr}{f g:DE}{ga:DA}{pos p2 p:Pos}
theorem kQ  : QO X none (LO X.K iR):=⟨x6 ⟩
end
section
variable {X:Cx}{a b c e:Expr}{es:List Expr}{f g:DE}{ga:DA}{pos p2 p:Pos}
theorem iA(ha:QE X a (LE X.K f)):QO X (some a) (LO X.K (eB f)):=⟨We (ha:=ha.pe)⟩
end
section
variable {X:Cx}{a b c e:Expr}{es:List Expr}{f g:DE}{ga:DA}{pos p2 p:Pos}
theorem pE{x:Str}{id:String}{r:DC}(hc:CallD X (.builtin id) r)(hg:Gl X x)(hm:X.mg x=none)(hv:bootBuiltins x=some (.builtin id))(ha:QA X (e::es) (LA X.K ga))(hn:x≠"__name__":=by decide)(hdb:(x==("__debug__" : Str))=false:=by decide)(he:starEach (e::es) X.env=(false,eval e X.env)::starEach es X.env:=by rfl)(hpl:(backTo pos (starEach es X.env)).any (·.1)=false:=by rfl):QE X (.Call (.Name x p) (e::es) [] pos) (LE X.K (cM r ga)):=⟨Y1 (hc:=hc) (hg:=hg) (hm:=hm) (hv:=hv) (ha:=ha.pe) (hn:=hn) (hdb:=hdb) (he:=he) (hpl:=hpl)⟩
end
section
variable {X:Cx}{a b c e:Expr}{es:List Expr}{f g:DE}{ga:DA}{pos p2 p:Pos}
theorem iU{x:Str}{T:String}{r:DC}(hc:CallD X (.type T) r)(hg:Gl X x)(hm:X.mg x=none)(hv:bootBuiltins x=some (.type T))(ha:QA X (e::es) (LA X.K ga))(hn:x≠"__name__":=by decide)(hdb:(x==("__debug__" : Str))=false:=by decide)(he:starEach (e::es) X.env=(false,eval e X.env)::starEach es X.env:=by rfl)(hpl:(backTo pos (starEach es X.env)).any (·.1)=false:=by rfl):QE X (.Call (.Name x p) (e::es) [] pos) (LE X.K (cM r ga)):=⟨g9 (hc:=hc) (hg:=hg) (hm:=hm) (hv:=hv) (ha:=ha.pe) (hn:=hn) (hdb:=hdb) (he:=he) (hpl:=hpl)⟩
end
section
variable {X:Cx}{st:Stmt}{rest body orelse:List Stmt}{t u b:DS}{e c tg iter:Expr}{f:DE}{tc:DT}{pos:Pos}
theorem aU  : QSs X [] (LS X.K aS):=⟨S8 ⟩
end
section
variable {X:Cx}{st:Stmt}{rest body orelse:List Stmt}{t u b:DS}{e c tg iter:Expr}{f:DE}{tc:DT}{pos:Pos}
theorem aK(h1:QS X st (LS X.K t))(h2:QSs X rest (LS X.K u)):QSs X (st::rest) (LS X.K (aF t u)):=⟨Tr (h1:=h1.pe) (h2:=h2.pe)⟩
end
section
variable {X:Cx}{st:Stmt}{rest body orelse:List Stmt}{t u b:DS}{e c tg iter:Expr}{f:DE}{tc:DT}{pos:Pos}
theorem bJ(he:QE X e (LE X.K f)):QS X (.Return (some e) pos) (LS X.K (bD f)):=⟨Su (he:=he.pe)⟩
end
section
variable {X:Cx}{st:Stmt}{rest body orelse:List Stmt}{t u b:DS}{e c tg iter:Expr}{f:DE}{tc:DT}{pos:Pos}
theorem dQ(hc:QT X c (LT X.K tc))(h1:QSs X body (LS X.K t))(h2:QSs X orelse (LS X.K u)):QS X (.If c body orelse pos) (LS X.K (cX tc t u)):=⟨Yi (hc:=hc.pe) (h1:=h1.pe) (h2:=h2.pe)⟩
end
section
variable {X:Cx}{st:Stmt}{rest body orelse:List Stmt}{t u b:DS}{e c tg iter:Expr}{f:DE}{tc:DT}{pos:Pos}
theorem bV(i:Nat){x:Str}{pos':Pos}(hN:X.N.Nodup)(he:QE X e (LE X.K f))(hi:X.N[i]?=some x:=by rfl)(hx:kM X.env.scope x:=by first | exact Or.inl rfl | exact Or.inr rfl)(hs:swapsWith e (some (.Name x pos')) pos.line X.env=pure false:=by rfl)(hf:X.fn x=true\/X.env.scope.names.lookup x=some .local:=by first | exact .inl rfl | exact .inr rfl):QS X (.Assign [.Name x pos'] e pos) (LS X.K (bN i f)):=⟨Pg (i:=i) (hN:=hN) (he:=he.pe) (hi:=hi) (hx:=hx) (hs:=hs) (hf:=hf)⟩
end
section
variable {X:Cx}{st:Stmt}{rest body orelse:List Stmt}{t u b:DS}{e c tg iter:Expr}{f:DE}{tc:DT}{pos:Pos}
theorem bU(i:Nat){x:Str}(hN:X.N.Nodup)(hi:X.N[i]?=some x:=by rfl)(hx:kM X.env.scope x:=by first | exact Or.inl rfl | exact Or.inr rfl)(hf:X.fn x=true\/X.env.scope.names.lookup x=some .local:=by first | exact .inl rfl | exact .inr rfl):QG X (.Name x pos) (LG X.K (gN i)):=⟨Wd (i:=i) (hN:=hN) (hi:=hi) (hx:=hx) (hf:=hf)⟩
end
section
variable {X:Cx}{st:Stmt}{rest body orelse:List Stmt}{t u b:DS}{e c tg iter:Expr}{f:DE}{tc:DT}{pos:Pos}
theorem rZ  : QGs X [] (kT X.K fY):=⟨X8 ⟩
end
section
variable {X:Cx}{st:Stmt}{rest body orelse:List Stmt}{t u b:DS}{e c tg iter:Expr}{f:DE}{tc:DT}{pos:Pos}
theorem fO{es:List Expr}{g:DG}{r:jW}(h1:QG X e (LG X.K g))(h2:QGs X es (kT X.K r))(hs:(assignEach (e::es) X.env).map (·.2)=assign e X.env::(assignEach es X.env).map (·.2):=by rfl):QGs X (e::es) (kT X.K (cQ g r)):=⟨Vd (h1:=h1.pe) (h2:=h2.pe) (hs:=hs)⟩
end
section
variable {X:Cx}{st:Stmt}{rest body orelse:List Stmt}{t u b:DS}{e c tg iter:Expr}{f:DE}{tc:DT}{pos:Pos}
theorem rR{es:List Expr}{j n:Nat}{g:jW}(hc:X.calm=true)(h:QGs X es (kT X.K g))(hn:(assignEach es X.env).length=n:=by rfl)(hst:(assignEach es X.env).findIdx? (·.1)=none:=by rfl):QG X (.Tuple es j pos) (LG X.K (gT n g)):=⟨Zy (hc:=hc) (h:=h.pe) (hn:=hn) (hst:=hst)⟩
end
section
variable {X:Cx}{st:Stmt}{rest body orelse:List Stmt}{t u b:DS}{e c tg iter:Expr}{f:DE}{tc:DT}{pos:Pos}
theorem Kd{g:DG}(he:QE X e (LE X.K f))(hg:QG X tg (LG X.K g))(hs:swapsWithSole [tg] e pos.line X.env=pure false:=by rfl)(hw:swappedStores [tg] e X.env=pure none:=by rfl)(h1:(assignEach [tg] X.env).map (·.2)=[assign tg X.env]:=by rfl):QS X (.Assign [tg] e pos) (LS X.K (tE f g)):=⟨L5 (he:=he.pe) (hg:=hg.pe) (hs:=hs) (hw:=hw) (h1:=h1)⟩
end
section
variable {X:Cx}{st:Stmt}{rest body orelse:List Stmt}{t u b:DS}{e c tg iter:Expr}{f:DE}{tc:DT}{pos:Pos}
theorem fL(ha:QE X e (LE X.K f)):QI X tg e (LI X.K (dH f)):=⟨Y7 (ha:=ha.pe)⟩
end
section
variable {X:Cx}{st:Stmt}{rest body orelse:List Stmt}{t u b:DS}{e c tg iter:Expr}{f:DE}{tc:DT}{pos:Pos}
theorem pQ{p:Pos}(hg:Gl X "range")(hm:X.mg "range"=none)(ha:QE X e (LE X.K f))(hs:starEach [e] X.env=[(false,eval e X.env)]:=by rfl):QI X tg (.Call (.Name "range" p) [e] [] pos) (LI X.K (kA f)):=⟨s0 (hg:=hg) (hm:=hm) (ha:=ha.pe) (hs:=hs)⟩
end
section
variable {X:Cx}{st:Stmt}{rest body orelse:List Stmt}{t u b:DS}{e c tg iter:Expr}{f:DE}{tc:DT}{pos:Pos}
theorem kL{fi:DI}{g:DG}(hp:PassesOwn (model X.prog X.w) X.A X.env X.xe)(hc:X.calm=true)(hi:QI X tg iter (LI X.K fi))(hg:QG X tg (LG X.K g))(hb:QSs X body (LS X.K b))(hs:∀ x,foldedSetIterable iter X.env x=pure x:=by intro _;rfl):QS X (.For tg iter body [] pos) (LS X.K (dS fi g b)):=⟨K1 (hp:=hp) (hc:=hc) (hi:=hi.pe) (hg:=hg.pe) (hb:=hb.pe) (hs:=hs)⟩
end
section
variable {X:Cx}{a e:Expr}{es:List Expr}{f:DE}{ga:DA}{pos p p1 p2 p3 p4:Pos}
theorem V6{j:Nat}(ha:QE X a (LE X.K f)):QE X (.Subscript a (.Slice none none (some (.UnaryOp .USub (.Constant (.int 1) j p3) p4)) p2) pos) (LE X.K (Da f)):=⟨K9 (ha:=ha.pe)⟩
end
section
variable {X:Cx}{a e:Expr}{es:List Expr}{f:DE}{ga:DA}{pos p p1 p2 p3 p4:Pos}
theorem bI{k n:Nat}{fa:Addr}{fd:FuncData}{ps:List Str}{sp:DC}{x:Str}(F:FnOk X.prog X.w X.K X.mg X.base aP k fa fd ps (LSp X.K n sp))(hr:Room k X.A)(hm:X.mg x=some (.ref fa))(hk:PySem.W.keepIn X.K (.ref fa)=true)(hb:Binds X.K fd ps [])(hx:X.xe=fun _ _=>False)(ha:QA X (e::es) (LA X.K ga))(hg:Gl X x:=by rfl)(hdb:(x==("__debug__" : Str))=false:=by decide)(he:starEach (e::es) X.env=(false,eval e X.env)::starEach es X.env:=by rfl)(hpl:(backTo pos (starEach es X.env)).any (·.1)=false:=by rfl):QE X (.Call (.Name x p) (e::es) [] pos) (LE X.K (bA n sp ga)):=⟨B4 (F:=F) (hr:=hr) (hm:=hm) (hk:=hk) (hb:=hb) (hx:=hx) (ha:=ha.pe) (hg:=hg) (hdb:=hdb) (he:=he) (hpl:=hpl)⟩
end
section
theorem kJ{Y:Cx}:QF Y [] (LT Y.K dW):=⟨CO ⟩
end
section
theorem pW{Y:Cx}{c:Expr}{t:TT}(h:QT Y c t):QF Y [c] t:=⟨W0 (h:=h.pe)⟩
end
section
variable {X:Cx}{a e o:Expr}{es:List Expr}{f g:DE}{ga:DA}{pos p p1 p2:Pos}
theorem Nh{x:Str}{c:Addr}{zs:List Str}(hg:Gl X x)(hm:X.mg x=some (.ref c))(hk:KT X.K c zs)(hd:(x==("__debug__" : Str))=false:=by decide):QE X (.Name x pos) (LE X.K (aH (.tuple (zs.map .str)))):=⟨Va (hg:=hg) (hm:=hm) (hk:=hk) (hd:=hd)⟩
end
section
variable {X:Cx}{a e o:Expr}{es:List Expr}{f g:DE}{ga:DA}{pos p p1 p2:Pos}
theorem Vw{x:Str}{c:Addr}{zs:List Str}{apos cpos:Pos}(hg:Gl X x)(hm:X.mg x=some (.ref c))(hk:KT X.K c zs)(he:QE X e (LE X.K g))(hd:(x==("__debug__" : Str))=false:=by decide)(hbase:attributeBase (.Name x p) "index" X.env (eval (.Name x p) X.env)=eval (.Name x p) X.env:=by rfl)(hfew:((backTo cpos (starEach [e] X.env)).all (fun x=>!x.1)&&(backToKw cpos (keywordEach [] X.env)).all (fun x=>x.1.isSome)&&decide ([e].length+([]:List Keyword).length+(if ([]:List Keyword).isEmpty then 0 else 1)<30))=true:=by rfl)(hline:(apos.endLine==cpos.line)=true:=by rfl)(hs:starEach [e] X.env=(false,eval e X.env)::starEach [] X.env:=by rfl):QE X (.Call (.Attribute (.Name x p) "index" apos) [e] [] cpos) (LE X.K (xI zs g)):=⟨M1 (hg:=hg) (hm:=hm) (hk:=hk) (he:=he.pe) (hd:=hd) (hbase:=hbase) (hfew:=hfew) (hline:=hline) (hs:=hs)⟩
end
section
variable {X:Cx}{a e o:Expr}{es:List Expr}{f g:DE}{ga:DA}{pos p p1 p2:Pos}
theorem Zo{tg:Expr}(hg:Gl X "reversed")(hm:X.mg "reversed"=none)(ha:QE X e (LE X.K f))(hs:starEach [e] X.env=[(false,eval e X.env)]:=by rfl):QI X tg (.Call (.Name "reversed" p) [e] [] pos) (LI X.K (uM f)):=⟨E3 (hg:=hg) (hm:=hm) (ha:=ha.pe) (hs:=hs)⟩
end
section
variable {X:Cx}{tg iter elt:Expr}{ifs:List Expr}{scope:Scope}{fi:DI}{g:DG}{t:DT}{f:DE}{pos:Pos}
theorem jM(NC:List Str)(src:List (Option Nat))(hc:X.calm=true)(hi:QI X tg iter (LI X.K fi))(hg:∀ cl C s2 H2 pins fp,QG (aQ X scope cl C NC s2 H2 pins fp) tg (LG X.K g))(ht:∀ cl C s2 H2 pins fp,QF (aQ X scope cl C NC s2 H2 pins fp) ifs (LT X.K t))(he:∀ cl C s2 H2 pins fp,QE (aQ X scope cl C NC s2 H2 pins fp) elt (LE X.K f))(hkind:scope.kind=.function:=by rfl)(hB:chkB scope X.env=true:=by rfl)(hS:chkS X.N scope X.env NC src=true:=by rfl)(hs:∀ x,foldedSetIterable iter X.env x=pure x:=by intro _;rfl):QE X (.ListComp elt [⟨tg,iter,ifs,0⟩] scope pos) (LE X.K (dU src fi g t f)):=⟨T8 (NC:=NC) (src:=src) (hc:=hc) (hi:=hi.pe) (hg:=fun cl C s2 H2 pins fp=>(hg cl C s2 H2 pins fp).pe) (ht:=fun cl C s2 H2 pins fp=>(ht cl C s2 H2 pins fp).pe) (he:=fun cl C s2 H2 pins fp=>(he cl C s2 H2 pins fp).pe) (hkind:=hkind) (hB:=hB) (hS:=hS) (hs:=hs)⟩
end
section
variable {X:Cx}{a b:Expr}{elts:List Expr}{j:Nat}{f g:DE}{pos p p2:Pos}
theorem Qi(hg:Gl X "zip")(hm:X.mg "zip"=none)(ha:QE X a (LE X.K f))(hb:QE X b (LE X.K g))(hs:starEach [a,b] X.env=[(false,eval a X.env),(false,eval b X.env)]:=by rfl)(hs2:starEach [b] X.env=[(false,eval b X.env)]:=by rfl):QI X (.Tuple elts j p2) (.Call (.Name "zip" p) [a,b] [] pos) (LI X.K (xP f g)):=⟨t8 (hg:=hg) (hm:=hm) (ha:=ha.pe) (hb:=hb.pe) (hs:=hs) (hs2:=hs2)⟩
end
section
variable {X:Cx}{a e o:Expr}{es:List Expr}{f g:DE}{ga:DA}{pos p p1 p2:Pos}
theorem jJ{lo hi:Option Expr}{tl th:DO}(ha:QE X a (LE X.K f))(hl:QO X lo (LO X.K tl))(hu:QO X hi (LO X.K th)):QE X (.Subscript a (.Slice lo hi none p2) pos) (LE X.K (fN f tl th)):=⟨i6 (ha:=ha.pe) (hl:=hl.pe) (hu:=hu.pe)⟩
end
section
variable {X:Cx}{o i e:Expr}{fo fi f:DE}{pos tpos:Pos}
theorem Th  : QE X (.Dict [] [] pos) (LE X.K Ah):=⟨Yb ⟩
end
section
variable {X:Cx}{o i e:Expr}{fo fi f:DE}{pos tpos:Pos}
theorem qR(hu:X.A.units+100<cLine)(he:QE X e (LE X.K f))(ho:QE X o (LE X.K fo))(hi:QE X i (LE X.K fi))(hs:swapsWith e (some (.Subscript o i tpos)) pos.line X.env=pure false:=by rfl):QS X (.Assign [.Subscript o i tpos] e pos) (LS X.K (lU fo fi f)):=⟨Rh (hu:=hu) (he:=he.pe) (ho:=ho.pe) (hi:=hi.pe) (hs:=hs)⟩
end
section
variable {X:Cx}{o i e:Expr}{fo fi f:DE}{pos tpos:Pos}
theorem gK(hu:X.A.units+100<cLine)(ho:QE X o (LE X.K fo))(hi:QE X i (LE X.K fi))(hs:kF i:=by exact fun _ _=>rfl):QE X (.Subscript o i pos) (LE X.K (eF fo fi)):=⟨BB (hu:=hu) (ho:=ho.pe) (hi:=hi.pe) (hs:=hs)⟩
end
section
variable {X:Cx}{i e g:Expr}{fi f fg:DE}{p pos apos cpos:Pos}
theorem lG{x:Str}{c:Addr}{kvs:List (Str×PyData)}(hg:Gl X x)(hm:X.mg x=some (.ref c))(hk:KD X.K X.w c kvs)(hi:QE X i (LE X.K fi))(hd:(x==("__debug__" : Str))=false:=by decide)(hs:kF i:=by exact fun _ _=>rfl):QE X (.Subscript (.Name x p) i pos) (LE X.K (iV kvs fi)):=⟨U3 (hg:=hg) (hm:=hm) (hk:=hk) (hi:=hi.pe) (hd:=hd) (hs:=hs)⟩
end
section
variable {X:Cx}{tg iter tg2 iter2 elt:Expr}{ifs ifs2:List Expr}{scope:Scope}{NC:List Str}{fi fi2:DI}{g g2:DG}{t t2:DT}{f:DE}{pos:Pos}
theorem Nt(NC:List Str)(src:List (Option Nat))(hc:X.calm=true)(hi:QI X tg iter (LI X.K fi))(hg:∀ cl C s2 H2 pins fp,QG (aQ X scope cl C NC s2 H2 pins fp) tg (LG X.K g))(ht:∀ cl C s2 H2 pins fp,QF (aQ X scope cl C NC s2 H2 pins fp) ifs (LT X.K t))(hi2:∀ cl C s2 H2 pins fp,QI (aQ X scope cl C NC s2 H2 pins fp) tg2 iter2 (LI X.K fi2))(hg2:∀ cl C s2 H2 pins fp,QG (aQ X scope cl C NC s2 H2 pins fp) tg2 (LG X.K g2))(ht2:∀ cl C s2 H2 pins fp,QF (aQ X scope cl C NC s2 H2 pins fp) ifs2 (LT X.K t2))(he:∀ cl C s2 H2 pins fp,QE (aQ X scope cl C NC s2 H2 pins fp) elt (LE X.K f))(hkind:scope.kind=.function:=by rfl)(hB:chkB scope X.env=true:=by rfl)(hS:chkS X.N scope X.env NC src=true:=by rfl)(hs2:∀ cl C x,foldedSetIterable iter2 (compEnvC scope cl C X.env) x=pure x:=by intro _ _ _;rfl)(hs:∀ x,foldedSetIterable iter X.env x=pure x:=by intro _;rfl):QE X (.ListComp elt [⟨tg,iter,ifs,0⟩,⟨tg2,iter2,ifs2,0⟩] scope pos) (LE X.K (rK src fi g t fi2 g2 t2 f)):=⟨AB (NC:=NC) (src:=src) (hc:=hc) (hi:=hi.pe) (hg:=fun cl C s2 H2 pins fp=>(hg cl C s2 H2 pins fp).pe) (ht:=fun cl C s2 H2 pins fp=>(ht cl C s2 H2 pins fp).pe) (hi2:=fun cl C s2 H2 pins fp=>(hi2 cl C s2 H2 pins fp).pe) (hg2:=fun cl C s2 H2 pins fp=>(hg2 cl C s2 H2 pins fp).pe) (ht2:=fun cl C s2 H2 pins fp=>(ht2 cl C s2 H2 pins fp).pe) (he:=fun cl C s2 H2 pins fp=>(he cl C s2 H2 pins fp).pe) (hkind:=hkind) (hB:=hB) (hS:=hS) (hs2:=hs2) (hs:=hs)⟩
end
section
variable {X:Cx}{e g:Expr}{fi fg:DE}{p apos cpos:Pos}
theorem p8{x:Str}{c:Addr}{kvs:List (List Str×PyData)}(hu:X.A.units+100<cLine)(hg:Gl X x)(hm:X.mg x=some (.ref c))(hk:uS X.K X.w c kvs)(he:QE X e (LE X.K fi))(hf:QE X g (LE X.K fg))(hd:(x==("__debug__" : Str))=false:=by decide)(hbase:attributeBase (.Name x p) "get" X.env (eval (.Name x p) X.env)=eval (.Name x p) X.env:=by rfl)(hfew:((backTo cpos (starEach [e,g] X.env)).all (fun x=>!x.1)&&(backToKw cpos (keywordEach [] X.env)).all (fun x=>x.1.isSome)&&decide (([e,g]:List Expr).length+([]:List Keyword).length+(if ([]:List Keyword).isEmpty then 0 else 1)<30))=true:=by rfl)(hline:(apos.endLine==cpos.line)=true:=by rfl)(hs:backTo cpos (starEach [e,g] X.env)=[(false,eval e X.env),(false,eval g X.env)]:=by rfl):QE X (.Call (.Attribute (.Name x p) "get" apos) [e,g] [] cpos) (LE X.K (vF kvs fi fg)):=⟨Rr (hu:=hu) (hg:=hg) (hm:=hm) (hk:=hk) (he:=he.pe) (hf:=hf.pe) (hd:=hd) (hbase:=hbase) (hfew:=hfew) (hline:=hline) (hs:=hs)⟩
end
section
variable {X:Cx}{a b:Expr}{elts:List Expr}{j:Nat}{f g:DE}{pos p p2:Pos}
theorem Yj(hg:Gl X "zip")(hm:X.mg "zip"=none)(ha:QE X a (LE X.K f))(hb:QE X b (LE X.K g))(hs:starEach [a,b] X.env=[(false,eval a X.env),(false,eval b X.env)]:=by rfl)(hs2:starEach [b] X.env=[(false,eval b X.env)]:=by rfl):QI X (.Tuple elts j p2) (.Call (.Name "zip" p) [a,b] [] pos) (LI X.K (sM f g)):=⟨Zj (hg:=hg) (hm:=hm) (ha:=ha.pe) (hb:=hb.pe) (hs:=hs) (hs2:=hs2)⟩
end
section
variable {X:Cx}{pos:Pos}
theorem O3  : QD X pos [] [] []:=⟨AU ⟩
end
section
variable {X:Cx}{pos:Pos}
theorem tG{k v:Expr}{ks:List (Option Expr)}{vs:List Expr}{fk fv:DE}{ps:List (DE×DE)}(hk:QE X k (LE X.K fk))(hv:QE X v (LE X.K fv))(hr:QD X pos ks vs ps):QD X pos (some k::ks) (v::vs) ((fk,fv)::ps):=⟨Uv (hk:=hk.pe) (hv:=hv.pe) (hr:=hr.pe)⟩
end
section
variable {X:Cx}{pos:Pos}
theorem To{keys:List (Option Expr)}{values:List Expr}{ps:List (DE×DE)}(h:QD X pos keys values ps)(hall:keys.all (·.isSome)=true:=by rfl)(hl:keys.length=values.length:=by rfl)(h0:keys≠[]:=by exact List.cons_ne_nil _ _)(h15:keys.length<=15:=by decide):QE X (.Dict keys values pos) (LE X.K (yE ps)):=⟨W7 (h:=h.pe) (hall:=hall) (hl:=hl) (h0:=h0) (h15:=h15)⟩
end
section
variable {X:Cx}{a lo st:Expr}{f g h:DE}{pos p2:Pos}
theorem Ry(ha:QE X a (LE X.K f))(hl:QE X lo (LE X.K g))(hs:QE X st (LE X.K h)):QE X (.Subscript a (.Slice (some lo) none (some st) p2) pos) (LE X.K (vV f g h)):=⟨Yw (ha:=ha.pe) (hl:=hl.pe) (hs:=hs.pe)⟩
end
section
variable {X:Cx}{o e:Expr}{es:List Expr}{fo fe:DE}{ga:DA}{pos pos' tpos apos p:Pos}{N f:Str}{C:Addr}
theorem Cf(g:PySem.W.nsIn X.K mainGlobals N=some (some (.ref C)))(c:Cls X.K C)(n:NoAttr X.K C f)(ho:QE X o (LE X.K fo))(hb:attributeBase o f X.env (eval o X.env)=eval o X.env:=by rfl):QE X (.Attribute o f pos) (LE X.K (kB N f fo)):=⟨Ta (g:=g) (c:=c) (n:=n) (ho:=ho.pe) (hb:=hb)⟩
end
section
variable {X:Cx}{o e:Expr}{es:List Expr}{fo fe:DE}{ga:DA}{pos pos' tpos apos p:Pos}{N f:Str}{C:Addr}
theorem Hc(g:PySem.W.nsIn X.K mainGlobals N=some (some (.ref C)))(c:Cls X.K C)(n:NoAttr X.K C f)(he:QE X e (LE X.K fe))(ho:QE X o (LE X.K fo))(hs:swapsWith e (some (.Attribute o f pos')) pos.line X.env=pure false:=by rfl):QS X (.Assign [.Attribute o f pos'] e pos) (LS X.K (uT N f fo fe)):=⟨U7 (g:=g) (c:=c) (n:=n) (he:=he.pe) (ho:=ho.pe) (hs:=hs)⟩
end
section
variable {X:Cx}{o e:Expr}{es:List Expr}{fo fe:DE}{ga:DA}{pos pos' tpos apos p:Pos}{N f:Str}{C:Addr}
theorem Hm{k n:Nat}{fa:Addr}{fd:FuncData}{ps:List Str}{sp:DC}(g:PySem.W.nsIn X.K mainGlobals N=some (some (.ref C)))(c:Cls X.K C)(hm:Meth X.K C f fa)(F:FnOk X.prog X.w X.K X.mg X.base aP k fa fd ps (LSp X.K n sp))(hr:Room k X.A)(hb:Binds X.K fd ps [])(hx:X.xe=fun _ _=>False)(ho:QE X o (LE X.K fo))(ha:QA X (e::es) (LA X.K ga))(hst:starEach (e::es) X.env=(false,eval e X.env)::starEach es X.env:=by rfl)(hpl:(backTo pos (starEach es X.env)).any (·.1)=false:=by rfl){pl:Sem Bool}(ht:eval (.Call (.Attribute o f apos) (e::es) [] pos) X.env=(do
   let ov <- eval o X.env
   standAt apos.atName
   let (f,first) <- holding [ov] (getMethod ov f pl)
   callWith pos f first (backTo pos (starEach (e::es) X.env)) (backToKw pos (keywordEach [] X.env))):=by rfl):QE X (.Call (.Attribute o f apos) (e::es) [] pos) (LE X.K (qJ N f n sp fo ga)):=⟨Ty (g:=g) (c:=c) (hm:=hm) (F:=F) (hr:=hr) (hb:=hb) (hx:=hx) (ho:=ho.pe) (ha:=ha.pe) (hst:=hst) (hpl:=hpl) (ht:=ht)⟩
end
section
variable {X:Cx}{o e:Expr}{es:List Expr}{fo fe:DE}{ga:DA}{pos pos' tpos apos p:Pos}{N f:Str}{C:Addr}
theorem Pn{k n:Nat}{fa:Addr}{fd:FuncData}{ps:List Str}{sp:DC}(g:PySem.W.nsIn X.K mainGlobals N=some (some (.ref C)))(M:Mk X.K C fa)(hm:X.mg N=some (.ref C))(F:FnOk X.prog X.w X.K X.mg X.base aP k fa fd ps (LSp X.K n sp))(hr:Room (k+1) X.A)(hb:Binds X.K fd ps [])(hg:Gl X N:=by rfl)(hdb:(N==("__debug__" : Str))=false:=by decide):QE X (.Call (.Name N p) [] [] pos) (LE X.K (tL N n sp aN)):=⟨Pb (g:=g) (M:=M) (hm:=hm) (F:=F) (hr:=hr) (hb:=hb) (hg:=hg) (hdb:=hdb)⟩
end
section
variable {X:Cx}{o i e:Expr}{fo fi f:DE}{pos tpos:Pos}
theorem Nq  : QE X (.Dict [] [] pos) (LE X.K tQ):=⟨Yr ⟩
end
section
variable {X:Cx}{o i e:Expr}{fo fi f:DE}{pos tpos:Pos}
theorem Ym(hu:X.A.units+100<cLine)(ho:QE X o (LE X.K fo))(hi:QE X i (LE X.K fi))(hs:kF i:=by exact fun _ _=>rfl):QE X (.Subscript o i pos) (LE X.K (sY fo fi)):=⟨W4 (hu:=hu) (ho:=ho.pe) (hi:=hi.pe) (hs:=hs)⟩
end
section
variable {X:Cx}{o i e:Expr}{fo fi f:DE}{pos tpos:Pos}
theorem j7(hu:X.A.units+100<cLine)(he:QE X e (LE X.K f))(ho:QE X o (LE X.K fo))(hi:QE X i (LE X.K fi))(hs:swapsWith e (some (.Subscript o i tpos)) pos.line X.env=pure false:=by rfl):QS X (.Assign [.Subscript o i tpos] e pos) (LS X.K (wL fo fi f)):=⟨O9 (hu:=hu) (he:=he.pe) (ho:=ho.pe) (hi:=hi.pe) (hs:=hs)⟩
end
section
variable {X:Cx}{elt tg iter:Expr}{ifs:List Expr}{scope:Scope}{NC:List Str}{fi:DI}{g:DG}{t:DT}{f:DE}{pos:Pos}
theorem V9{p pos2:Pos}(NC:List Str)(src:List (Option Nat))(hc:X.calm=true)(hg0:Gl X "sorted")(hm0:X.mg "sorted"=none)(hi:QI X tg iter (LI X.K fi))(hg:∀ cl C s2 H2 pins fp,QG (aQ X scope cl C NC s2 H2 pins fp) tg (LG X.K g))(ht:∀ cl C s2 H2 pins fp,QF (aQ X scope cl C NC s2 H2 pins fp) ifs (LT X.K t))(he:∀ cl C s2 H2 pins fp,QE (aQ X scope cl C NC s2 H2 pins fp) elt (LE X.K f))(hkind:scope.kind=.function:=by rfl)(hB:chkB scope X.env=true:=by rfl)(hS:chkS X.N scope X.env NC src=true:=by rfl)(hs:∀ x,foldedSetIterable iter X.env x=pure x:=by intro _;rfl)(hs2:starEach [.SetComp elt [⟨tg,iter,ifs,0⟩] scope pos2] X.env=[(false,eval (.SetComp elt [⟨tg,iter,ifs,0⟩] scope pos2) X.env)]:=by rfl):QE X (.Call (.Name "sorted" p) [.SetComp elt [⟨tg,iter,ifs,0⟩] scope pos2] [] pos) (LE X.K (uD src fi g t f)):=⟨U0 (NC:=NC) (src:=src) (hc:=hc) (hg0:=hg0) (hm0:=hm0) (hi:=hi.pe) (hg:=fun cl C s2 H2 pins fp=>(hg cl C s2 H2 pins fp).pe) (ht:=fun cl C s2 H2 pins fp=>(ht cl C s2 H2 pins fp).pe) (he:=fun cl C s2 H2 pins fp=>(he cl C s2 H2 pins fp).pe) (hkind:=hkind) (hB:=hB) (hS:=hS) (hs:=hs) (hs2:=hs2)⟩
end
section
variable {X:Cx}{a:Expr}{f:DE}{pos p2 p3:Pos}
theorem Hb(k:Nat){j:Nat}(ha:QE X a (LE X.K f))(hk:2<=k:=by decide):QE X (.Subscript a (.Slice none none (some (.Constant (.int (k:Int)) j p3)) p2) pos) (LE X.K (xF k f)):=⟨Xd (k:=k) (ha:=ha.pe) (hk:=hk)⟩
end
section
variable {X:Cx}{a b:Expr}{elts:List Expr}{j:Nat}{f g:DE}{pos p p2:Pos}
theorem Z3(hg:Gl X "zip")(hm:X.mg "zip"=none)(ha:QE X a (LE X.K f))(hb:QE X b (LE X.K g))(hs:starEach [a,b] X.env=[(false,eval a X.env),(false,eval b X.env)]:=by rfl)(hs2:starEach [b] X.env=[(false,eval b X.env)]:=by rfl):QI X (.Tuple elts j p2) (.Call (.Name "zip" p) [a,b] [] pos) (LI X.K (vR f g)):=⟨Ww (hg:=hg) (hm:=hm) (ha:=ha.pe) (hb:=hb.pe) (hs:=hs) (hs2:=hs2)⟩
end
section
variable {P:Program}{w:World}{K:PySem.W.Frag}{mg:Str->Option Value}{base:Heap}
theorem cG{x qual:Str}{st:Stmt}{fa:Addr}{fd:FuncData}{N ps:List Str}{k:Nat}{sp:DC}{body:DS}(F:Fun K x qual st fa fd)(S:FnScope N ps (aO st))
  (hb:∀ (cdv:Value) (A:Around) (outer:List Env) (s:Shared) (H:Hp) (E:XK),Room k (A.deeper (envOfC qual (aO st) s.heap.objs.size fa cdv))->QSs (kG aP P w K mg base N qual (aO st) fa cdv A outer s H E).nox (aX st) (LS K body))
  (hv:∀ ds m R,ds.length=ps.length->sp ds m R->body {nx:=fun _ m=>R (.dat .none) m,rt:=R} (aW N ds) m):FnOk P w K mg base aP (k+1) fa fd ps (LSp K ps.length sp):=C0 F S (fun cdv A outer s H E hr=>(hb cdv A outer s H E hr).pe) hv
end
end DL
set_option maxHeartbeats 1000000
namespace K01
open PySem PySem.Spec PyProof.Rows L2 DL
def Bd(n:Nat)(i:Int):Prop:=i.natAbs<2^n
theorem Bd.mono{m n:Nat}{i:Int}(h:Bd m i)(hl:m<=n):Bd n i:=Nat.lt_of_lt_of_le h (Nat.pow_le_pow_right (by decide) hl)
theorem Bd.mul{m n:Nat}{i j:Int}(h:Bd m i)(g:Bd n j):Bd (m+n) (i*j):=by
 unfold Bd at *;rw[Int.natAbs_mul,Nat.pow_add];exact Nat.mul_lt_mul'' h g
theorem Bd.add{n:Nat}{i j:Int}(h:Bd n i)(g:Bd n j):Bd (n+1) (i+j):=by
 unfold Bd at *;have:=Int.natAbs_add_le i j
 rw[Nat.pow_succ];omega
theorem Bd.neg{n:Nat}{i:Int}(h:Bd n i):Bd n (-i):=by
 unfold Bd at *;rw[Int.natAbs_neg];exact h
theorem Bd.sub{n:Nat}{i j:Int}(h:Bd n i)(g:Bd n j):Bd (n+1) (i-j):=by
 rw[Int.sub_eq_add_neg];exact h.add g.neg
def fr(t b:Int):PyData:=.tuple [.int (t / (Int.gcd t b:Int)),.int (b / (Int.gcd t b:Int))]
end K01
namespace K01
open PySem PySem.Spec PyProof.Rows L2 DL
def Sv(B w e:Nat)(p:PyData):Prop:=p.showable=true/\p.leavesShort B=true/\p.weight<=w/\p.depth<=e
theorem Sv.mono{B w e w' e':Nat}{p:PyData}(h:Sv B w e p)(h1:w<=w')(h2:e<=e'):Sv B w' e' p:=⟨h.1,h.2.1,Nat.le_trans h.2.2.1 h1,Nat.le_trans h.2.2.2 h2⟩
end K01
namespace K39
open PySem PySem.Spec PyProof.Rows L2 DL K01
def Kn(m m':Mu):Prop:=∀ c,(m c).isSome=true->m' c=m c
abbrev I(i:Int):D:=.dat (.int i)
def cU:List Str:=["ahead","meets","overlaps","begins","within","ends","same","ended","holds","begun","lapped","met","behind"]
def kd(k:Bool):Str:=if k then "stretch" else "point"
def WS:Bool->Bool->List Str
 | true,true=>cU
 | false,false=>["ahead","same","behind"]
 | false,true=>["ahead","begins","within","ends","behind"]
 | true,false=>["ahead","ended","holds","begun","behind"]
abbrev dF(k l:Bool):PyData:=.tuple [.str (kd k),.str (kd l)]
def WT:List (Str×List Int):=[("ahead",[-1,-1,-1,-1]),("meets",[-1,-1,0,-1]),("overlaps",[-1,-1,1,-1]),("begins",[0,-1,1,-1]),("within",[1,-1,1,-1]),("ends",[1,-1,1,0]),("same",[0,-1,1,0]),("ended",[-1,-1,1,0]),("holds",[-1,-1,1,1]),("begun",[0,-1,1,1]),("lapped",[1,-1,1,1]),("met",[1,0,1,1]),("behind",[1,1,1,1])]
def w4(z:Str):List Int:=((WT.find? fun kv=>decide (kv.1=z)).map (·.2)).getD []
def WB(k l:Bool)(z:Str):List Int:=match k,l with
 | true,true=>w4 z
 | false,false=>(w4 z).take 1
 | _,_=>[(w4 z).getD 0 0,(w4 z).getD 3 0]
def aM(k:Bool):Nat:=if k then 2 else 1
abbrev cO(k l n:Bool):PyData:=.tuple [.str (kd k),.str (kd l),.str (kd n)]
def oD:Option Int->PyData
 | none=>.none
 | some i=>.int i
def sR(a b:Int):Option Int:=if a=0 then some b else if b=0\/b=a then some a else none
def rW:List (Int×Int)->Option Int
 | []=>none
 | (a,b)::r=>match sR a b with
  | some i=>some i
  | none=>rW r
def gQ(k l n:Bool)(z w:Str)(x y:Nat):Option Int:=rW ((gH (WB k l z) (some ((x:Int)*aM l)) (some (((x:Int)+1)*aM l))).zip (pick (WB l n w) (cC (WB l n w).length y (aM n))))
def FW(k l n:Bool)(z w:Str):List (Option Int):=((List.range (aM k)).map fun x=>(List.range (aM n)).map fun y=>gQ k l n z w x y).flatten
def gA:List (Option Int)->List Int->Bool
 | some i::r,w::ws=>decide (i=w)&&gA r ws
 | none::r,_::ws=>gA r ws
 | _,_=>true
def BW(k l n:Bool)(z w:Str):List Str:=(WS k n).filter fun u=>gA (FW k l n z w) (WB k n u)
def fZ:DC:=fun ds m R=>∃ k l,ds=[.dat (dF k l)]/\R (.dat (.tuple ((WS k l).map .str))) m
def dY:DC:=fun ds m R=>∃ k l z,ds=[.dat (dF k l),.dat (.str z)]/\z∈cU/\R (.dat (.tuple ((WB k l z).map .int))) m
def qP:DC:=fun ds m R=>∃ a b:Int,ds=[I a,I b]/\R (.dat (oD (sR a b))) m
def oK:DC:=fun ds m R=>∃ xs ys:List Int,ds=[.dat (.tuple (xs.map .int)),.dat (.tuple (ys.map .int))]/\R (.dat (oD (rW (xs.zip ys)))) m
def rD:DC:=fun ds m R=>∃ k l n z w,ds=[.dat (cO k l n),.dat (.str z),.dat (.str w)]/\z∈WS k l/\w∈WS l n/\R (.dat (.list ((FW k l n z w).map oD))) m
def oZ:DC:=fun ds m R=>∃ (fs:List (Option Int)) (ws:List Int),ds=[.dat (.list (fs.map oD)),.dat (.tuple (ws.map .int))]/\fs.length<=4/\ws.length<=4/\R (.dat (.bool (gA fs ws))) m
def lT:DC:=fun ds m R=>∃ k l n z w,ds=[.dat (cO k l n),.dat (.str z),.dat (.str w)]/\z∈WS k l/\w∈WS l n/\R (.dat (.tuple ((BW k l n z w).map .str))) m
def BM(k l n:Bool)(zs ws:List Str):List Str:=(WS k n).filter fun u=>zs.any fun z=>ws.any fun w=>decide (u∈BW k l n z w)
def Lu(kvs:List (List PyData×D)):Prop:=∀ ks x,cJ kvs ks=some x->∃ k l n z w,ks=[cO k l n,.str z,.str w]/\x=.dat (.tuple ((BW k l n z w).map .str))
structure Bh (m:Mu) (a c1 c2:Addr) (q:Nat):Prop where
 ob:m a=some (.o "Behinds" [("by_words",.cel c1),("by_mays",.cel c2)])
 t1:∃ kvs,m c1=some (.n kvs)/\kvs.length<=q/\Lu kvs
 n1:a≠c1
def sA:DC:=fun ds m R=>∃ a,ds=[.cel a]/\m a=some (.o "Behinds" [])/\∀ c1 c2 m',m c1=none->m c2=none->(∀ b,b≠a->b≠c1->b≠c2->m' b=m b)->Bh m' a c1 c2 0->R (.dat .none) m'
def rP:DC:=fun ds m R=>∃ a c1 c2 q k l n z w,ds=[.cel a,.dat (cO k l n),.dat (.str z),.dat (.str w)]/\z∈WS k l/\w∈WS l n/\Bh m a c1 c2 q/\q<=500/\∀ m',Bh m' a c1 c2 (q+1)->(∀ b,b≠c1->m' b=m b)->R (.dat (.tuple ((BW k l n z w).map .str))) m'
def rE:DC:=fun ds m R=>∃ a c1 c2 k l n zs ws,ds=[.cel a,.dat (cO k l n),.dat (.tuple (zs.map .str)),.dat (.tuple (ws.map .str))]/\zs.length<=13/\ws.length<=13/\(∀ z∈zs,z∈WS k l)/\(∀ w∈ws,w∈WS l n)/\Bh m a c1 c2 0 /\
 ∀ m',(∀ b,b≠c1->(m b).isSome=true->m' b=m b)->R (.dat (.tuple ((BM k l n zs ws).map .str))) m'
def sD:DC:=fun ds m R=>∃ k l n zs ws,ds=[.dat (cO k l n),.dat (.tuple (zs.map .str)),.dat (.tuple (ws.map .str))]/\zs.length<=13/\ws.length<=13/\(∀ z∈zs,z∈WS k l)/\(∀ w∈ws,w∈WS l n) /\
 ∀ m',Kn m m'->R (.dat (.tuple ((BM k l n zs ws).map .str))) m'
def tn(z:Str):Str:=cU.getD (12-cU.idxOf z) ""
def qN:DC:=fun ds m R=>∃ z:Str,ds=[.dat (.str z)]/\z∈cU/\R (.dat (.str (tn z))) m
def pV:DC:=fun ds m R=>∃ zs:List Str,ds=[.dat (.tuple (zs.map .str))]/\(∀ z∈zs,z∈cU)/\zs.length<=100/\R (.dat (.tuple ((zs.reverse.map tn).map .str))) m
def FD(ns:List PyData)(i j t:Int):List (aJ×PyData):=[(.inr "cells",.list ns),(.inr "at",.int i),(.inr "left",.int j),(.inr "turn",.int t)]
def Tp(n:Int)(m:Mu)(a:Addr):Prop:=∃ (ns:List Int) (i j t:Int),m a=some (.d (FD (ns.map .int) i j t))/\0<=t/\t<=n
def Fed(b:Int)(n:Int)(m m':Mu)(a:Addr):Prop:=Tp (n+b) m' a/\∀ c,c≠a->(m c).isSome=true->m' c=m c
def dP(k l:Bool)(x y:Nat)(z:Str):Int:=(WB k l z).getD (x*aM l+y) 0
def bY(k l:Bool)(zs:List Str)(x y:Nat):List Int:=dM (zs.foldl (fun acc z=>bW acc (dP k l x y z)) [])
def aY(s:List Int):List Int:=if -1∈s/\1∈s then [-1,0,1] else s
def cT(k l:Bool)(zs:List Str):List (List Int):=((List.range (aM k)).map fun x=>(List.range (aM l)).map fun y=>aY (bY k l zs x y)).flatten
def PA(k l:Bool)(zs:List Str):List Str:=(WS k l).filter fun z=>((WB k l z).zip (cT k l zs)).all fun p=>decide (p.1∈p.2)
def oQ:DC:=fun ds m R=>∃ (k l:Bool) (z:Str) (x y:Nat),ds=[.dat (dF k l),.dat (.str z),I (x:Int),I (y:Int)]/\z∈WS k l/\x<aM k/\y<aM l/\R (I (dP k l x y z)) m
def pC:DC:=fun ds m R=>∃ (k l:Bool) (zs:List Str) (x y:Nat),ds=[.dat (dF k l),.dat (.tuple (zs.map .str)),I (x:Int),I (y:Int)]/\(∀ z∈zs,z∈WS k l)/\x<aM k/\y<aM l/\R (.dat (.tuple ((bY k l zs x y).map .int))) m
def nV:DC:=fun ds m R=>∃ s:List Int,ds=[.dat (.tuple (s.map .int))]/\R (.dat (.tuple ((aY s).map .int))) m
def rX:DC:=fun ds m R=>∃ (k l:Bool) (zs:List Str),ds=[.dat (dF k l),.dat (.tuple (zs.map .str))]/\(∀ z∈zs,z∈WS k l)/\R (.dat (.list ((cT k l zs).map fun s=>.tuple (s.map .int)))) m
def mJ:DC:=fun ds m R=>∃ (k l:Bool) (zs:List Str),ds=[.dat (dF k l),.dat (.tuple (zs.map .str))]/\(∀ z∈zs,z∈WS k l)/\R (.dat (.tuple ((PA k l zs).map .str))) m
def jQ:DC:=fun ds m R=>∃ (k l:Bool) (zs:List Str),ds=[.dat (dF k l),.dat (.tuple (zs.map .str))]/\(∀ z∈zs,z∈WS k l)/\R (.dat (.bool (decide (PA k l zs=zs)))) m
def Pl(k l:Bool)(zs:List Str):Prop:=(∀ z∈zs,z∈WS k l)/\PA k l zs=zs
def sE:DC:=fun ds m R=>∃ ns:List Int,ds=[.dat (.list (ns.map .int))]/\ns.length<=63/\∀ a m',Tp 0 m' a->R (.cel a) m'
def iG:DC:=fun ds m R=>∃ (a:Addr) (n L:Int),ds=[.cel a,I n]/\0<n/\n<=1000/\L<=10000000/\Tp L m a/\∀ (r:Int) m',0<=r->r<n->Fed 1 L m m' a->R (I r) m'
def lK:DC:=fun ds m R=>∃ (a:Addr) (k l:Bool) (L:Int),ds=[.cel a,.dat (dF k l)]/\L<=9000000/\Tp L m a/\∀ (zs:List Str) m',Pl k l zs->Fed 20 L m m' a->R (.dat (.tuple (zs.map .str))) m'
def nF:DC:=fun ds m R=>∃ (k l:Bool) (zs:List Str),ds=[.dat (dF k l),.dat (.tuple (zs.map .str))]/\Pl k l zs/\R (.dat (.bool true)) m
def pU:DC:=fun ds m R=>∃ (k l n:Bool) (zs ws:List Str),ds=[.dat (cO k l n),.dat (.tuple (zs.map .str)),.dat (.tuple (ws.map .str))]/\Pl k l zs/\Pl l n ws/\∀ m',Kn m m'->R (.dat (.bool true)) m'
def pR:DC:=fun ds m R=>∃ ns:List Int,ds=[.dat (.list (ns.map .int))]/\ns.length<=63/\∀ m',R (.dat (.bool true)) m'
end K39
namespace K39
open PySem PySem.Spec PyProof.Rows L2 DL
-- ranks: words_of 1,turned 1,turned_may 2,ways_by 1,how_ends 2,signs_in 3,span_of 1,spans_of 4,plain_around 5,is_plain 6,forced_way 1,forced_by 2,forced_ways 3,go_with 1,behind_words 4,Behinds___init__ 1,Behinds_words 5,Behinds_gathered 6,behind_mays 7,_law_feed 1,_law_draw 1,_law_plain 6,_law_turned_right 7,_law_behind_right 8,law 9
def cH(i:Nat):Stmt:=PySem.Challenge.pw_whens_k39_whole_plain_stays_plain.main.body.getD i (.Pass ⟨0,0,0,0⟩)
abbrev vB:List (Str×PyData):=[("ahead",.tuple [.int (-1),.int (-1),.int (-1),.int (-1)]),("meets",.tuple [.int (-1),.int (-1),.int (0),.int (-1)]),("overlaps",.tuple [.int (-1),.int (-1),.int (1),.int (-1)]),("begins",.tuple [.int (0),.int (-1),.int (1),.int (-1)]),("within",.tuple [.int (1),.int (-1),.int (1),.int (-1)]),("ends",.tuple [.int (1),.int (-1),.int (1),.int (0)]),("same",.tuple [.int (0),.int (-1),.int (1),.int (0)]),("ended",.tuple [.int (-1),.int (-1),.int (1),.int (0)]),("holds",.tuple [.int (-1),.int (-1),.int (1),.int (1)]),("begun",.tuple [.int (0),.int (-1),.int (1),.int (1)]),("lapped",.tuple [.int (1),.int (-1),.int (1),.int (1)]),("met",.tuple [.int (1),.int (0),.int (1),.int (1)]),("behind",.tuple [.int (1),.int (1),.int (1),.int (1)])]
abbrev gG:List (Str×PyData):=[("point",.int (1)),("stretch",.int (2))]
abbrev yA:List (List Str×PyData):=[(["point","point"],.tuple (List.map PyData.str ["ahead","same","behind"])),(["point","stretch"],.tuple (List.map PyData.str ["ahead","begins","within","ends","behind"])),(["stretch","point"],.tuple (List.map PyData.str ["ahead","ended","holds","begun","behind"]))]
abbrev eJ:Stmt:=cH 5
abbrev Aq:List Str:=["kinds"]
abbrev eG:List Str:=["kinds"]
theorem Ip:FnScope Aq eG (aO eJ):=⟨rfl,rfl,rfl,by decide +kernel,rfl,by decide +kernel,by decide +kernel⟩
def wP:DS:=(aF (bD (vF yA (aA 0) (aH (.tuple (List.map PyData.str ["ahead","meets","overlaps","begins","within","ends","same","ended","holds","begun","lapped","met","behind"]))))) aS)
abbrev gU:Stmt:=cH 6
abbrev Fi:List Str:=["word"]
abbrev mO:List Str:=["word"]
theorem Ma:FnScope Fi mO (aO gU):=⟨rfl,rfl,rfl,by decide +kernel,rfl,by decide +kernel,by decide +kernel⟩
def tD:DS:=(aF (bD (aL cZ (aH (.tuple (List.map PyData.str ["ahead","meets","overlaps","begins","within","ends","same","ended","holds","begun","lapped","met","behind"]))) (aL wK (aH (.int 12)) (xI ["ahead","meets","overlaps","begins","within","ends","same","ended","holds","begun","lapped","met","behind"] (aA 0))))) aS)
abbrev gX:Stmt:=cH 7
abbrev yG:List Str:=["may"]
abbrev kY:List Str:=["may"]
theorem Iw:FnScope yG kY (aO gX):=⟨rfl,rfl,rfl,by decide +kernel,rfl,by decide +kernel,by decide +kernel⟩
theorem O1:List.Nodup (["word"]:List Str):=by decide +kernel
def vL:DS:=(aF (bD (cM gF (aC (dU [none] (uM (aA 0)) (gN 0) dW (bA 1 qN (aC (aA 0) aN))) aN))) aS)
abbrev eW:Stmt:=cH 8
abbrev Dq:List Str:=["kinds","word","ways"]
abbrev eK:List Str:=["kinds","word"]
theorem Hz:FnScope Dq eK (aO eW):=⟨rfl,rfl,rfl,by decide +kernel,rfl,by decide +kernel,by decide +kernel⟩
def Hj:DS:=(aF (bD (eS (aC (aL cZ (aA 2) (aH (.int 0))) (aC (aL cZ (aA 2) (aH (.int 3))) aN)))) aS)
def Lp:DS:=(aF (cX (bG (aL eE (aA 0) (eS (aC (aH (.str "point")) (aC (aH (.str "point")) aN))))) (aF (bD (fN (aA 2) iR (eB (aH (.int 1))))) aS) aS) Hj)
def He:DS:=(aF (cX (bG (aL eE (aA 0) (eS (aC (aH (.str "stretch")) (aC (aH (.str "stretch")) aN))))) (aF (bD (aA 2)) aS) aS) Lp)
def tJ:DS:=(aF (bN 2 (iV vB (aA 1))) He)
abbrev jB:Stmt:=cH 9
abbrev xU:List Str:=["kinds","word","x","y"]
abbrev lQ:List Str:=["kinds","word","x","y"]
theorem Lz:FnScope xU lQ (aO jB):=⟨rfl,rfl,rfl,by decide +kernel,rfl,by decide +kernel,by decide +kernel⟩
def Bm:DS:=(aF (bD (aL cZ (bA 2 dY (aC (aA 0) (aC (aA 1) aN))) (aL jU (aL fV (aA 2) (iV gG (aL cZ (aA 0) (aH (.int 1))))) (aA 3)))) aS)
abbrev hR:Stmt:=cH 11
abbrev Ey:List Str:=["kinds","may","x","y"]
abbrev mS:List Str:=["kinds","may","x","y"]
theorem Gh:FnScope Ey mS (aO hR):=⟨rfl,rfl,rfl,by decide +kernel,rfl,by decide +kernel,by decide +kernel⟩
theorem Y2:List.Nodup (["word","kinds","x","y"]:List Str):=by decide +kernel
def Dz:DS:=(aF (bD (cM gF (aC (uD [none,some 0,some 2,some 3] (dH (aA 1)) (gN 0) dW (bA 4 oQ (aC (aA 1) (aC (aA 0) (aC (aA 2) (aC (aA 3) aN)))))) aN))) aS)
abbrev gV:Stmt:=cH 12
abbrev Dt:List Str:=["signs"]
abbrev lV:List Str:=["signs"]
theorem Jm:FnScope Dt lV (aO gV):=⟨rfl,rfl,rfl,by decide +kernel,rfl,by decide +kernel,by decide +kernel⟩
def Dk:DS:=(aF (bD (Fh (qV (bG (aL jV (wG (aH (.int 1))) (aA 0))) (bG (aL jV (aH (.int 1)) (aA 0)))) (eS (aC (wG (aH (.int 1))) (aC (aH (.int 0)) (aC (aH (.int 1)) aN)))) (aA 0))) aS)
abbrev iB:Stmt:=cH 13
abbrev zS:List Str:=["kinds","may"]
abbrev mY:List Str:=["kinds","may"]
theorem Lg:FnScope zS mY (aO iB):=⟨rfl,rfl,rfl,by decide +kernel,rfl,by decide +kernel,by decide +kernel⟩
theorem Kr:List.Nodup (["x","y","kinds","may"]:List Str):=by decide +kernel
def Fe:DS:=(aF (bD (rK [none,none,some 0,some 1] (kA (iV gG (aL cZ (aA 0) (aH (.int 0))))) (gN 0) dW (kA (iV gG (aL cZ (aA 2) (aH (.int 1))))) (gN 1) dW (bA 1 nV (aC (bA 4 pC (aC (aA 2) (aC (aA 3) (aC (aA 0) (aC (aA 1) aN))))) aN)))) aS)
abbrev gM:Stmt:=cH 14
abbrev Fl:List Str:=["kinds","may","spans"]
abbrev jO:List Str:=["kinds","may"]
theorem Jl:FnScope Fl jO (aO gM):=⟨rfl,rfl,rfl,by decide +kernel,rfl,by decide +kernel,by decide +kernel⟩
theorem Vq:List.Nodup (["word","kinds","spans"]:List Str):=by decide +kernel
theorem Oi:List.Nodup (["way","span"]:List Str):=by decide +kernel
def BP:DS:=(aF (bD (cM gF (aC (dU [none,some 0,some 2] (dH (bA 1 fZ (aC (aA 0) aN))) (gN 0) (bG (cM wN (aC (dU [none,none] (vR (bA 2 dY (aC (aA 1) (aC (aA 0) aN))) (aA 2)) (gT 2 (cQ (gN 0) (cQ (gN 1) fY))) dW (aL jV (aA 0) (aA 1))) aN))) (aA 0)) aN))) aS)
def Dj:DS:=(aF (bN 2 (bA 2 rX (aC (aA 0) (aC (aA 1) aN)))) BP)
abbrev fB:Stmt:=cH 15
abbrev yO:List Str:=["kinds","may"]
abbrev gC:List Str:=["kinds","may"]
theorem Nu:FnScope yO gC (aO fB):=⟨rfl,rfl,rfl,by decide +kernel,rfl,by decide +kernel,by decide +kernel⟩
def Bw:DS:=(aF (bD (aL eE (bA 2 mJ (aC (aA 0) (aC (aA 1) aN))) (aA 1))) aS)
abbrev iY:Stmt:=cH 17
abbrev An:List Str:=["one","other"]
abbrev mH:List Str:=["one","other"]
theorem Gb:FnScope An mH (aO iY):=⟨rfl,rfl,rfl,by decide +kernel,rfl,by decide +kernel,by decide +kernel⟩
def Kq:DS:=(aF (bD (aH .none)) aS)
def Ob:DS:=(aF (cX (lS (bG (aL eE (aA 1) (aH (.int 0)))) (bG (aL eE (aA 1) (aA 0)))) (aF (bD (aA 0)) aS) aS) Kq)
def tT:DS:=(aF (cX (bG (aL eE (aA 0) (aH (.int 0)))) (aF (bD (aA 1)) aS) aS) Ob)
abbrev iO:Stmt:=cH 18
abbrev zP:List Str:=["ones","others","one","other","way"]
abbrev mF:List Str:=["ones","others"]
theorem Ki:FnScope zP mF (aO iO):=⟨rfl,rfl,rfl,by decide +kernel,rfl,by decide +kernel,by decide +kernel⟩
def At:DS:=(aF (cX (bG (aL tK (aA 4) (aH .none))) (aF (bD (aA 4)) aS) aS) aS)
def uI:DS:=(aF (bN 4 (bA 2 qP (aC (aA 2) (aC (aA 3) aN)))) At)
def Cv:DS:=(aF (bD (aH .none)) aS)
def sU:DS:=(aF (dS (xP (aA 0) (aA 1)) (gT 2 (cQ (gN 2) (cQ (gN 3) fY))) uI) Cv)
abbrev gP:Stmt:=cH 19
abbrev Fd:List Str:=["kinds","one","other","first","second","third","many","step","left","right"]
abbrev lN:List Str:=["kinds","one","other"]
theorem Lj:FnScope Fd lN (aO gP):=⟨rfl,rfl,rfl,by decide +kernel,rfl,by decide +kernel,by decide +kernel⟩
theorem Ng:List.Nodup (["x","z","many","step","left","right"]:List Str):=by decide +kernel
def Mr:DS:=(aF (bD (rK [none,none,some 6,some 7,some 8,some 9] (kA (iV gG (aA 3))) (gN 0) dW (kA (aA 3)) (gN 1) dW (bA 2 oK (aC (fN (aA 4) (eB (aL fV (aA 0) (aA 2))) (eB (aL fV (aL jU (aA 0) (aH (.int 1))) (aA 2)))) (aC (vV (aA 5) (aA 1) (aA 3)) aN))))) aS)
def Lo:DS:=(aF (bN 9 (bA 2 dY (aC (eS (aC (aA 4) (aC (aA 5) aN))) (aC (aA 2) aN)))) Mr)
def Jn:DS:=(aF (bN 8 (bA 2 dY (aC (eS (aC (aA 3) (aC (aA 4) aN))) (aC (aA 1) aN)))) Lo)
def Lr:DS:=(aF (bN 7 (iV gG (aA 5))) Jn)
def Ka:DS:=(aF (bN 6 (iV gG (aA 4))) Lr)
def sQ:DS:=(aF (tE (aA 0) (gT 3 (cQ (gN 3) (cQ (gN 4) (cQ (gN 5) fY))))) Ka)
abbrev iT:Stmt:=cH 20
abbrev Ee:List Str:=["forced","ways","must","way"]
abbrev lZ:List Str:=["forced","ways"]
theorem Hf:FnScope Ee lZ (aO iT):=⟨rfl,rfl,rfl,by decide +kernel,rfl,by decide +kernel,by decide +kernel⟩
def rN:DS:=(aF (cX (qV (bG (aL tK (aA 2) (aH .none))) (bG (aL rY (aA 2) (aA 3)))) (aF (bD (aH (.bool false))) aS) aS) aS)
def uF:DS:=(aF (bD (aH (.bool true))) aS)
def wT:DS:=(aF (dS (sM (aA 0) (aA 1)) (gT 2 (cQ (gN 2) (cQ (gN 3) fY))) rN) uF)
abbrev gB:Stmt:=cH 21
abbrev yX:List Str:=["kinds","one","other","first","second","third","ends","forced"]
abbrev jD:List Str:=["kinds","one","other"]
theorem Io:FnScope yX jD (aO gB):=⟨rfl,rfl,rfl,by decide +kernel,rfl,by decide +kernel,by decide +kernel⟩
theorem Pw:List.Nodup (["word","ends","forced"]:List Str):=by decide +kernel
def Jr:DS:=(aF (bD (cM gF (aC (dU [none,some 6,some 7] (dH (bA 1 fZ (aC (aA 6) aN))) (gN 0) (bG (bA 2 oZ (aC (aA 2) (aC (bA 2 dY (aC (aA 1) (aC (aA 0) aN))) aN)))) (aA 0)) aN))) aS)
def Ke:DS:=(aF (bN 7 (bA 3 rD (aC (aA 0) (aC (aA 1) (aC (aA 2) aN))))) Jr)
def Kj:DS:=(aF (bN 6 (eS (aC (aA 3) (aC (aA 5) aN)))) Ke)
def wE:DS:=(aF (tE (aA 0) (gT 3 (cQ (gN 3) (cQ (gN 4) (cQ (gN 5) fY))))) Kj)
abbrev gW:Stmt:=Ei (cH 22) 0
abbrev Af:List Str:=["self"]
abbrev lL:List Str:=["self"]
theorem Ht:FnScope Af lL (aO gW):=⟨rfl,rfl,rfl,by decide +kernel,rfl,by decide +kernel,by decide +kernel⟩
def Ih:DS:=(aF (uT "Behinds" "by_mays" (aA 0) tQ) aS)
def uA:DS:=(aF (uT "Behinds" "by_words" (aA 0) tQ) Ih)
abbrev iK:Stmt:=Ei (cH 22) 1
abbrev Fa:List Str:=["self","kinds","one","other","key"]
abbrev mU:List Str:=["self","kinds","one","other"]
theorem Jp:FnScope Fa mU (aO iK):=⟨rfl,rfl,rfl,by decide +kernel,rfl,by decide +kernel,by decide +kernel⟩
def Bs:DS:=(aF (bD (sY (kB "Behinds" "by_words" (aA 0)) (aA 4))) aS)
def Gd:DS:=(aF (cX (bG (aL Bl (aA 4) (kB "Behinds" "by_words" (aA 0)))) (aF (wL (kB "Behinds" "by_words" (aA 0)) (aA 4) (bA 3 lT (aC (aA 1) (aC (aA 2) (aC (aA 3) aN))))) aS) aS) Bs)
def vH:DS:=(aF (bN 4 (eS (aC (aA 1) (aC (aA 2) (aC (aA 3) aN))))) Gd)
abbrev gY:Stmt:=Ei (cH 22) 3
abbrev yC:List Str:=["self","kinds","one","other","words","found","word","next_word","third"]
abbrev lI:List Str:=["self","kinds","one","other"]
theorem Me:FnScope yC lI (aO gY):=⟨rfl,rfl,rfl,by decide +kernel,rfl,by decide +kernel,by decide +kernel⟩
theorem j0:List.Nodup (["word","found"]:List Str):=by decide +kernel
def Mh:DS:=(aF (lU (aA 5) (aA 8) (aH (.bool true))) aS)
def Jk:DS:=(aF (dS (dH (qJ "Behinds" "words" 4 rP (aA 0) (aC (aA 1) (aC (aA 6) (aC (aA 7) aN))))) (gN 8) Mh) aS)
def Hq:DS:=(aF (cX (bG (aL eE (cM Bq (aC (aA 5) aN)) (cM nJ (aC (aA 4) aN)))) (aF (bD (aA 4)) aS) aS) Jk)
def My:DS:=(aF (dS (dH (aA 3)) (gN 7) Hq) aS)
def Jb:DS:=(aF (bD (cM gF (aC (dU [none,some 5] (dH (aA 4)) (gN 0) (bG (aL Ai (aA 0) (aA 1))) (aA 0)) aN))) aS)
def Iu:DS:=(aF (dS (dH (aA 2)) (gN 6) My) Jb)
def Mf:DS:=(aF (bN 5 Ah) Iu)
def wF:DS:=(aF (bN 4 (bA 1 fZ (aC (eS (aC (aL cZ (aA 1) (aH (.int 0))) (aC (aL cZ (aA 1) (aH (.int 2))) aN))) aN))) Mf)
abbrev gR:Stmt:=cH 23
abbrev yU:List Str:=["kinds","one","other"]
abbrev mW:List Str:=["kinds","one","other"]
theorem Ni:FnScope yU mW (aO gR):=⟨rfl,rfl,rfl,by decide +kernel,rfl,by decide +kernel,by decide +kernel⟩
def sL:DS:=(aF (bD (qJ "Behinds" "gathered" 4 rE (tL "Behinds" 1 sA aN) (aC (aA 0) (aC (aA 1) (aC (aA 2) aN))))) aS)
abbrev iX:Stmt:=cH 25
abbrev Fb:List Str:=["_law_script"]
abbrev mE:List Str:=["_law_script"]
theorem Nw:FnScope Fb mE (aO iX):=⟨rfl,rfl,rfl,by decide +kernel,rfl,by decide +kernel,by decide +kernel⟩
def tN:DS:=(aF (bD (yE [((aH (.str "cells")),(cM Cu (aC (fN (aA 0) iR (eB (aH (.int 63)))) aN))),((aH (.str "at")),(aH (.int 0))),((aH (.str "left")),(aH (.int 0))),((aH (.str "turn")),(aH (.int 0)))])) aS)
abbrev gI:Stmt:=cH 26
abbrev Ae:List Str:=["_law_feed_here","_law_many","_law_found","_law_spot","_law_cell","_law_mixed"]
abbrev jI:List Str:=["_law_feed_here","_law_many"]
theorem Lc:FnScope Ae jI (aO gI):=⟨rfl,rfl,rfl,by decide +kernel,rfl,by decide +kernel,by decide +kernel⟩
def v9:DS:=(aF (bD (aA 2)) aS)
def M3:DS:=(aF (lU (aA 0) (aH (.str "left")) (aL nC (eF (aA 0) (aH (.str "left"))) (aA 1))) v9)
def Vo:DS:=(aF (bD (aL jG (aA 4) (aA 1))) aS)
def R4:DS:=(aF (lU (aA 0) (aH (.str "left")) (aL nC (aA 4) (aA 1))) Vo)
def S5:DS:=(aF (bD (aL jG (aL nC (aA 5) (aH (.int 64))) (aA 1))) aS)
def O7:DS:=(aF (bN 5 (aL jG (aL fV (aL jU (aL nC (aA 5) (aH (.int 64))) (aL fV (aH (.int 37)) (eF (aA 0) (aH (.str "turn"))))) (aH (.int 69621))) (aH (.int 2147483587)))) S5)
def Gj:DS:=(aF (bN 5 (aL jG (aL fV (aL jU (aL jG (aA 4) (aH (.int 2147483629))) (aL fV (aH (.int 1013)) (eF (aA 0) (aH (.str "turn"))))) (aH (.int 48271))) (aH (.int 2147483647)))) O7)
def Hl:DS:=(aF (cX (qV (bG (aL yW (aA 4) (aL Fq (aH (.int 10)) (aH (.int 18))))) (bG (aL Eu (aA 3) (cM nJ (aC (eF (aA 0) (aH (.str "cells"))) aN))))) R4 aS) Gj)
def Pr:DS:=(aF (cX (bG (aL rY (eF (aA 0) (aH (.str "cells"))) (qY aN))) (aF (bN 4 (aL cZ (eF (aA 0) (aH (.str "cells"))) (aL jG (aA 3) (cM nJ (aC (eF (aA 0) (aH (.str "cells"))) aN))))) aS) aS) Hl)
def Mi:DS:=(aF (bN 4 (aH (.int 0))) Pr)
def U4:DS:=(aF (lU (aA 0) (aH (.str "at")) (aL jU (aA 3) (aH (.int 1)))) Mi)
def N5:DS:=(aF (bN 3 (eF (aA 0) (aH (.str "at")))) U4)
def AL:DS:=(aF (cX (bG (aL vG (eF (aA 0) (aH (.str "left"))) (aH (.int 0)))) M3 aS) N5)
def Ii:DS:=(aF (bN 2 (aL jG (eF (aA 0) (aH (.str "left"))) (aA 1))) AL)
def Ea:DS:=(aF (lU (aA 0) (aH (.str "turn")) (aL jU (eF (aA 0) (aH (.str "turn"))) (aH (.int 1)))) Ii)
abbrev hX:Stmt:=cH 27
abbrev Fx:List Str:=["_law_feed_here","_law_kinds","_law_every","_law_first","_law_words"]
abbrev mQ:List Str:=["_law_feed_here","_law_kinds"]
theorem Gn:FnScope Fx mQ (aO hX):=⟨rfl,rfl,rfl,by decide +kernel,rfl,by decide +kernel,by decide +kernel⟩
theorem AI:List.Nodup (["_law_word","_law_feed_here","_law_every","_law_first"]:List Str):=by decide +kernel
def Hu:DS:=(aF (bD (bA 2 mJ (aC (aA 1) (aC (aA 4) aN)))) aS)
def V1:DS:=(aF (bN 4 (cM gF (aC (dU [none,some 0,some 2,some 3] (dH (aA 2)) (gN 0) (lS (bG (aL eE (aA 0) (aL cZ (aA 2) (aA 3)))) (bG (aL eE (bA 2 iG (aC (aA 1) (aC (aH (.int 5)) aN))) (aH (.int 0))))) (aA 0)) aN))) Hu)
def Yv:DS:=(aF (bN 3 (bA 2 iG (aC (aA 0) (aC (cM nJ (aC (aA 2) aN)) aN)))) V1)
def Fp:DS:=(aF (bN 2 (bA 1 fZ (aC (aA 1) aN))) Yv)
abbrev hJ:Stmt:=cH 28
abbrev Fs:List Str:=["_law_kinds","_law_words","_law_other"]
abbrev mR:List Str:=["_law_kinds","_law_words"]
theorem Kx:FnScope Fs mR (aO hJ):=⟨rfl,rfl,rfl,by decide +kernel,rfl,by decide +kernel,by decide +kernel⟩
def K6:DS:=(aF (bD (yQ (aL Aj (bA 2 jQ (aC (Da (aA 0)) (aC (aA 2) aN))) (aH (.bool true))) (aL eE (bA 1 pV (aC (aA 2) aN)) (aA 1)))) aS)
def Bi:DS:=(aF (bN 2 (bA 1 pV (aC (aA 1) aN))) K6)
abbrev hZ:Stmt:=cH 29
abbrev xS:List Str:=["_law_kinds","_law_one","_law_other","_law_found","_law_word","_law_more"]
abbrev mB:List Str:=["_law_kinds","_law_one","_law_other"]
theorem Gi:FnScope xS mB (aO hZ):=⟨rfl,rfl,rfl,by decide +kernel,rfl,by decide +kernel,by decide +kernel⟩
theorem AS:List.Nodup (["_law_last","_law_found"]:List Str):=by decide +kernel
def Rj:DS:=(aF (cX (bG (aL rY (dU [none,some 3] (dH (bA 3 lT (aC (aA 0) (aC (aA 4) (aC (aA 5) aN))))) (gN 0) (bG (aL wY (aA 0) (aA 1))) (aA 0)) (qY aN))) (aF (bD (aH (.bool false))) aS) aS) aS)
def P9:DS:=(aF (dS (dH (xF 4 (aA 2))) (gN 5) Rj) aS)
def G0:DS:=(aF (bD (aH (.bool true))) aS)
def CM:DS:=(aF (dS (dH (xF 4 (aA 1))) (gN 4) P9) G0)
def Po:DS:=(aF (cX (bG (aL vK (bA 2 jQ (aC (eS (aC (aL cZ (aA 0) (aH (.int 0))) (aC (aL cZ (aA 0) (aH (.int 2))) aN))) (aC (aA 3) aN))) (aH (.bool true)))) (aF (bD (aH (.bool false))) aS) aS) CM)
def yV:DS:=(aF (bN 3 (bA 3 sD (aC (aA 0) (aC (aA 1) (aC (aA 2) aN))))) Po)
abbrev fR:Stmt:=cH 30
abbrev Bg:List Str:=["_law_script","_law_feed_here","_law_some","_law_k","_law_kinds","_law_one","_law_other","_law_last","_law_both"]
abbrev vI:List Str:=["_law_script"]
theorem Hg:FnScope Bg vI (aO fR):=⟨rfl,rfl,rfl,by decide +kernel,rfl,by decide +kernel,by decide +kernel⟩
theorem Zb:List.Nodup (["_law_j","_law_feed_here","_law_some"]:List Str):=by decide +kernel
theorem Z6:List.Nodup (["_law_word","_law_other"]:List Str):=by decide +kernel
def AK:DS:=(aF (cX (lS (pO (bG (bA 3 pU (aC (aA 4) (aC (aA 5) (aC (aA 7) aN)))))) (pO (bG (bA 3 pU (aC (aA 4) (aC (aA 8) (aC (aA 7) aN))))))) (aF (bD (aH (.bool false))) aS) aS) aS)
def Qw:DS:=(aF (cX (bG (aL vK (bA 2 jQ (aC (fN (aA 4) iR (eB (aH (.int 2)))) (aC (aA 8) aN))) (aH (.bool true)))) (aF (bD (aH (.bool false))) aS) aS) AK)
def Wh:DS:=(aF (bN 8 (cM gF (aC (dU [none,some 6] (dH (aA 5)) (gN 0) (bG (aL jV (aA 0) (aA 1))) (aA 0)) aN))) Qw)
def A3:DS:=(aF (cX (lS (pO (bG (bA 2 nF (aC (fN (aA 4) iR (eB (aH (.int 2)))) (aC (aA 5) aN))))) (pO (bG (bA 2 nF (aC (fN (aA 4) (eB (aH (.int 1))) iR) (aC (aA 7) aN)))))) (aF (bD (aH (.bool false))) aS) aS) Wh)
def Vf:DS:=(aF (bN 7 (bA 2 lK (aC (aA 1) (aC (fN (aA 4) (eB (aH (.int 1))) iR) aN)))) A3)
def AD:DS:=(aF (bN 6 (bA 2 lK (aC (aA 1) (aC (fN (aA 4) iR (eB (aH (.int 2)))) aN)))) Vf)
def Gu:DS:=(aF (bN 5 (bA 2 lK (aC (aA 1) (aC (fN (aA 4) iR (eB (aH (.int 2)))) aN)))) AD)
def v8:DS:=(aF (bN 4 (cM gF (aC (dU [none,some 1,some 2] (kA (aH (.int 3))) (gN 0) dW (aL cZ (aA 2) (cM Au (aC (aL vG (bA 2 iG (aC (aA 1) (aC (aH (.int 4)) aN))) (aH (.int 0))) aN)))) aN))) Gu)
def Kl:DS:=(aF (bD (aH (.bool true))) aS)
def Qg:DS:=(aF (dS (kA (aH (.int 2))) (gN 3) v8) Kl)
def CT:DS:=(aF (bN 2 (qY (aC (aH (.str "point")) (aC (aH (.str "stretch")) aN)))) Qg)
def Ad:DS:=(aF (bN 1 (bA 1 sE (aC (aA 0) aN))) CT)
end K39
namespace K39
open PySem PySem.Spec PyProof.Rows L2 DL
section
variable {P:Program}{w:World}{K:PySem.W.Frag}{mg:Str->Option Value}{base:Heap}
theorem Xs{dC:Addr}{dG:FuncData}(dR:Fun K "words_of" "words_of" eJ dC dG){jY:Addr}(Cz:mg "POINT_WORDS"=some (.ref jY))(Co:uS K w jY yA){gS:Addr}(mN:mg "ORDER"=some (.ref gS))(mV:KT K gS ["ahead","meets","overlaps","begins","within","ends","same","ended","holds","begun","lapped","met","behind"])
  (vc:∀ ds m R,ds.length=eG.length->fZ ds m R->wP {nx:=fun _ m=>R (.dat .none) m,rt:=R} (aW Aq ds) m):FnOk P w K mg base aP 1 dC dG eG (LSp K 1 fZ) :=
 cG (k:=0) dR Ip (body:=wP) (fun cdv A outer s H E hr=>have nd:=(Ip).nd;(aK (bJ (p8 hr.u100 rfl Cz Co (aB 0) (Nh rfl mN mV))) aU)) vc
theorem w9{oN:Addr}{oJ:FuncData}(lP:Fun K "turned" "turned" gU oN oJ){gS:Addr}(mN:mg "ORDER"=some (.ref gS))(mV:KT K gS ["ahead","meets","overlaps","begins","within","ends","same","ended","holds","begun","lapped","met","behind"])
  (vc:∀ ds m R,ds.length=mO.length->qN ds m R->tD {nx:=fun _ m=>R (.dat .none) m,rt:=R} (aW Fi ds) m):FnOk P w K mg base aP 1 oN oJ mO (LSp K 1 qN) :=
 cG (k:=0) lP Ma (body:=tD) (fun cdv A outer s H E hr=>have nd:=(Ma).nd;(aK (bJ (dZ (Nh rfl mN mV) (cE Uj bB (Vw rfl mN mV (aB 0))))) aU)) vc
theorem y0{oT:Addr}{pA:FuncData}(kE:Fun K "turned_may" "turned_may" gX oT pA){oN:Addr}{oJ:FuncData}(lP:Fun K "turned" "turned" gU oN oJ)(yP:Binds K oJ mO [])(zE:mg "turned"=some (.ref oN))(Dy:FnOk P w K mg base aP 1 oN oJ mO (LSp K 1 qN))(cP:mg "tuple"=none)(Cw:mg "reversed"=none)
  (vc:∀ ds m R,ds.length=kY.length->pV ds m R->vL {nx:=fun _ m=>R (.dat .none) m,rt:=R} (aW yG ds) m):FnOk P w K mg base aP 2 oT pA kY (LSp K 1 pV) :=
 cG (k:=1) kE Iw (body:=vL) (fun cdv A outer s H E hr=>have nd:=(Iw).nd;(aK (bJ (iU kU rfl cP kD (aD (jM ["word"] [none] rfl (Zo rfl Cw (aB 0)) (fun cl C s2 H2 pins fp=>(bU 0 O1)) (fun cl C s2 H2 pins fp=>kJ) (fun cl C s2 H2 pins fp=>(bI Dy (hr.mono (by decide)) zE lP.kp yP rfl (aD (aB 0) aR)))) aR))) aU)) vc
theorem Te{dD:Addr}{dA:FuncData}(dJ:Fun K "ways_by" "ways_by" eW dD dA){kR:Addr}(Es:mg "WAYS"=some (.ref kR))(Fo:KD K w kR vB)
  (vc:∀ ds m R,ds.length=eK.length->dY ds m R->tJ {nx:=fun _ m=>R (.dat .none) m,rt:=R} (aW Dq ds) m):FnOk P w K mg base aP 1 dD dA eK (LSp K 2 dY) :=
 cG (k:=0) dJ Hz (body:=tJ) (fun cdv A outer s H E hr=>have nd:=(Hz).nd;(aK (bV 2 nd (lG rfl Es Fo (aB 1))) (aK (dQ (cN (iH hr.u100) (aB 0) (iW (aD cL (aD cL aR)))) (aK (bJ (aB 2)) aU) aU) (aK (dQ (cN (iH hr.u100) (aB 0) (iW (aD cL (aD cL aR)))) (aK (bJ (jJ (aB 2) kQ (iA bB))) aU) aU) (aK (bJ (iW (aD (dZ (aB 2) bB) (aD (dZ (aB 2) bB) aR)))) aU))))) vc
theorem Ra{oR:Addr}{nH:FuncData}(lH:Fun K "how_ends" "how_ends" jB oR nH){dD:Addr}{dA:FuncData}(dJ:Fun K "ways_by" "ways_by" eW dD dA)(eQ:Binds K dA eK [])(eV:mg "ways_by"=some (.ref dD))(eO:FnOk P w K mg base aP 1 dD dA eK (LSp K 2 dY)){eA:Addr}(fA:mg "END_COUNTS"=some (.ref eA))(fH:KD K w eA gG)
  (vc:∀ ds m R,ds.length=lQ.length->oQ ds m R->Bm {nx:=fun _ m=>R (.dat .none) m,rt:=R} (aW xU ds) m):FnOk P w K mg base aP 2 oR nH lQ (LSp K 4 oQ) :=
 cG (k:=1) lH Lz (body:=Bm) (fun cdv A outer s H E hr=>have nd:=(Lz).nd;(aK (bJ (dZ (bI eO (hr.mono (by decide)) eV dJ.kp eQ rfl (aD (aB 0) (aD (aB 1) aR))) (cE pS (cE kZ (aB 2) (lG rfl fA fH (dZ (aB 0) bB))) (aB 3)))) aU)) vc
theorem B0{oM:Addr}{pZ:FuncData}(mK:Fun K "signs_in" "signs_in" hR oM pZ){oR:Addr}{nH:FuncData}(lH:Fun K "how_ends" "how_ends" jB oR nH)(zQ:Binds K nH lQ [])(Dg:mg "how_ends"=some (.ref oR))(zV:FnOk P w K mg base aP 2 oR nH lQ (LSp K 4 oQ))(cP:mg "tuple"=none)(Ar:mg "sorted"=none)
  (vc:∀ ds m R,ds.length=mS.length->pC ds m R->Dz {nx:=fun _ m=>R (.dat .none) m,rt:=R} (aW Ey ds) m):FnOk P w K mg base aP 3 oM pZ mS (LSp K 4 pC) :=
 cG (k:=2) mK Gh (body:=Dz) (fun cdv A outer s H E hr=>have nd:=(Gh).nd;(aK (bJ (iU kU rfl cP kD (aD (V9 ["word","kinds","x","y"] [none,some 0,some 2,some 3] rfl rfl Ar (fL (aB 1)) (fun cl C s2 H2 pins fp=>(bU 0 Y2)) (fun cl C s2 H2 pins fp=>kJ) (fun cl C s2 H2 pins fp=>(bI zV (hr.mono (by decide)) Dg lH.kp zQ rfl (aD (aB 1) (aD (aB 0) (aD (aB 2) (aD (aB 3) aR))))))) aR))) aU)) vc
theorem Yh{pP:Addr}{nO:FuncData}(lO:Fun K "span_of" "span_of" gV pP nO) 
  (vc:∀ ds m R,ds.length=lV.length->nV ds m R->Dk {nx:=fun _ m=>R (.dat .none) m,rt:=R} (aW Dt ds) m):FnOk P w K mg base aP 1 pP nO lV (LSp K 1 nV) :=
 cG (k:=0) lO Jm (body:=Dk) (fun cdv A outer s H E hr=>have nd:=(Jm).nd;(aK (bJ (Xu (QW.pt (Di (cN sJ (Oj bB) (aB 0) (hm:=by with_unfolding_all rfl)) (El (cN sJ bB (aB 0) (hm:=by with_unfolding_all rfl))))) (iW (aD (Oj bB) (aD bB (aD bB aR)))) (aB 0))) aU)) vc
theorem Sz{nB:Addr}{pJ:FuncData}(lY:Fun K "spans_of" "spans_of" iB nB pJ){pP:Addr}{nO:FuncData}(lO:Fun K "span_of" "span_of" gV pP nO)(Ec:Binds K nO lV [])(yR:mg "span_of"=some (.ref pP))(yN:FnOk P w K mg base aP 1 pP nO lV (LSp K 1 nV)){oM:Addr}{pZ:FuncData}(mK:Fun K "signs_in" "signs_in" hR oM pZ)(Ek:Binds K pZ mS [])(zY:mg "signs_in"=some (.ref oM))(Ak:FnOk P w K mg base aP 3 oM pZ mS (LSp K 4 pC)){eA:Addr}(fA:mg "END_COUNTS"=some (.ref eA))(fH:KD K w eA gG)(fU:mg "range"=none)
  (vc:∀ ds m R,ds.length=mY.length->rX ds m R->Fe {nx:=fun _ m=>R (.dat .none) m,rt:=R} (aW zS ds) m):FnOk P w K mg base aP 4 nB pJ mY (LSp K 2 rX) :=
 cG (k:=3) lY Lg (body:=Fe) (fun cdv A outer s H E hr=>have nd:=(Lg).nd;(aK (bJ (Nt ["x","y","kinds","may"] [none,none,some 0,some 1] rfl (pQ rfl fU (lG rfl fA fH (dZ (aB 0) bB))) (fun cl C s2 H2 pins fp=>(bU 0 Kr)) (fun cl C s2 H2 pins fp=>kJ) (fun cl C s2 H2 pins fp=>(pQ rfl fU (lG rfl fA fH (dZ (aB 2) bB)))) (fun cl C s2 H2 pins fp=>(bU 1 Kr)) (fun cl C s2 H2 pins fp=>kJ) (fun cl C s2 H2 pins fp=>(bI yN (hr.mono (by decide)) yR lO.kp Ec rfl (aD (bI Ak (hr.mono (by decide)) zY mK.kp Ek rfl (aD (aB 2) (aD (aB 3) (aD (aB 0) (aD (aB 1) aR))))) aR))))) aU)) vc
theorem Ud{jA:Addr}{iP:FuncData}(iE:Fun K "plain_around" "plain_around" gM jA iP){nB:Addr}{pJ:FuncData}(lY:Fun K "spans_of" "spans_of" iB nB pJ)(Dl:Binds K pJ mY [])(Ap:mg "spans_of"=some (.ref nB))(xX:FnOk P w K mg base aP 4 nB pJ mY (LSp K 2 rX)){dC:Addr}{dG:FuncData}(dR:Fun K "words_of" "words_of" eJ dC dG)(fM:Binds K dG eG [])(fP:mg "words_of"=some (.ref dC))(fK:FnOk P w K mg base aP 1 dC dG eG (LSp K 1 fZ)){dD:Addr}{dA:FuncData}(dJ:Fun K "ways_by" "ways_by" eW dD dA)(eQ:Binds K dA eK [])(eV:mg "ways_by"=some (.ref dD))(eO:FnOk P w K mg base aP 1 dD dA eK (LSp K 2 dY))(cP:mg "tuple"=none)(Cq:mg "all"=none)(jK:mg "zip"=none)
  (vc:∀ ds m R,ds.length=jO.length->mJ ds m R->Dj {nx:=fun _ m=>R (.dat .none) m,rt:=R} (aW Fl ds) m):FnOk P w K mg base aP 5 jA iP jO (LSp K 2 mJ) :=
 cG (k:=4) iE Jl (body:=Dj) (fun cdv A outer s H E hr=>have nd:=(Jl).nd;(aK (bV 2 nd (bI xX (hr.mono (by decide)) Ap lY.kp Dl rfl (aD (aB 0) (aD (aB 1) aR)))) (aK (bJ (iU kU rfl cP kD (aD (jM ["word","kinds","spans"] [none,some 0,some 2] rfl (fL (bI fK (hr.mono (by decide)) fP dR.kp fM rfl (aD (aB 0) aR))) (fun cl C s2 H2 pins fp=>(bU 0 Vq)) (fun cl C s2 H2 pins fp=>(pW (qF (pE (Pt rfl) rfl Cq i7 (aD (jM ["way","span"] [none,none] rfl (Z3 rfl jK (bI eO (hr.mono (by decide)) eV dJ.kp eQ rfl (aD (aB 1) (aD (aB 0) aR))) (aB 2)) (fun cl C s2 H2 pins fp=>(rR rfl (fO (bU 0 Oi) (fO (bU 1 Oi) rZ)))) (fun cl C s2 H2 pins fp=>kJ) (fun cl C s2 H2 pins fp=>(sC sJ (aB 0) (aB 1) (hm:=by with_unfolding_all rfl)))) aR))))) (fun cl C s2 H2 pins fp=>(aB 0))) aR))) aU))) vc
theorem g8{eD:Addr}{eC:FuncData}(eM:Fun K "is_plain" "is_plain" fB eD eC){jA:Addr}{iP:FuncData}(iE:Fun K "plain_around" "plain_around" gM jA iP)(pK:Binds K iP jO [])(nM:mg "plain_around"=some (.ref jA))(nY:FnOk P w K mg base aP 5 jA iP jO (LSp K 2 mJ))
  (vc:∀ ds m R,ds.length=gC.length->jQ ds m R->Bw {nx:=fun _ m=>R (.dat .none) m,rt:=R} (aW yO ds) m):FnOk P w K mg base aP 6 eD eC gC (LSp K 2 jQ) :=
 cG (k:=5) eM Nu (body:=Bw) (fun cdv A outer s H E hr=>have nd:=(Nu).nd;(aK (bJ (sC (iH hr.u100) (bI nY (hr.mono (by decide)) nM iE.kp pK rfl (aD (aB 0) (aD (aB 1) aR))) (aB 1))) aU)) vc
theorem Qv{pI:Addr}{pN:FuncData}(lR:Fun K "forced_way" "forced_way" iY pI pN) 
  (vc:∀ ds m R,ds.length=mH.length->qP ds m R->tT {nx:=fun _ m=>R (.dat .none) m,rt:=R} (aW An ds) m):FnOk P w K mg base aP 1 pI pN mH (LSp K 2 qP) :=
 cG (k:=0) lR Gb (body:=tT) (fun cdv A outer s H E hr=>have nd:=(Gb).nd;(aK (dQ (cN (iH hr.u100) (aB 0) bB) (aK (bJ (aB 1)) aU) aU) (aK (dQ (QW.pt (wX (cN (iH hr.u100) (aB 1) bB) (uX (cN (iH hr.u100) (aB 1) (aB 0))))) (aK (bJ (aB 0)) aU) aU) (aK (bJ uC) aU)))) vc
theorem y8{nE:Addr}{pD:FuncData}(lM:Fun K "forced_by" "forced_by" iO nE pD){pI:Addr}{pN:FuncData}(lR:Fun K "forced_way" "forced_way" iY pI pN)(zD:Binds K pN mH [])(Al:mg "forced_way"=some (.ref pI))(By:FnOk P w K mg base aP 1 pI pN mH (LSp K 2 qP))(jK:mg "zip"=none)
  (vc:∀ ds m R,ds.length=mF.length->oK ds m R->sU {nx:=fun _ m=>R (.dat .none) m,rt:=R} (aW zP ds) m):FnOk P w K mg base aP 2 nE pD mF (LSp K 2 oK) :=
 cG (k:=1) lM Ki (body:=sU) (fun cdv A outer s H E hr=>have nd:=(Ki).nd;(aK (kL PassesOwn.never rfl (Qi rfl jK (aB 0) (aB 1)) (rR rfl (fO (bU 2 nd) (fO (bU 3 nd) rZ))) (aK (bV 4 nd (bI By (hr.mono (by decide)) Al lR.kp zD rfl (aD (aB 2) (aD (aB 3) aR)))) (aK (dQ (cN Hy (aB 4) uC) (aK (bJ (aB 4)) aU) aU) aU))) (aK (bJ uC) aU))) vc
theorem u4{qE:Addr}{pG:FuncData}(lE:Fun K "forced_ways" "forced_ways" gP qE pG){dD:Addr}{dA:FuncData}(dJ:Fun K "ways_by" "ways_by" eW dD dA)(eQ:Binds K dA eK [])(eV:mg "ways_by"=some (.ref dD))(eO:FnOk P w K mg base aP 1 dD dA eK (LSp K 2 dY)){nE:Addr}{pD:FuncData}(lM:Fun K "forced_by" "forced_by" iO nE pD)(Fn:Binds K pD mF [])(zN:mg "forced_by"=some (.ref nE))(Am:FnOk P w K mg base aP 2 nE pD mF (LSp K 2 oK)){eA:Addr}(fA:mg "END_COUNTS"=some (.ref eA))(fH:KD K w eA gG)(fU:mg "range"=none)
  (vc:∀ ds m R,ds.length=lN.length->rD ds m R->sQ {nx:=fun _ m=>R (.dat .none) m,rt:=R} (aW Fd ds) m):FnOk P w K mg base aP 3 qE pG lN (LSp K 3 rD) :=
 cG (k:=2) lE Lj (body:=sQ) (fun cdv A outer s H E hr=>have nd:=(Lj).nd;(aK (Kd (aB 0) (rR rfl (fO (bU 3 nd) (fO (bU 4 nd) (fO (bU 5 nd) rZ))))) (aK (bV 6 nd (lG rfl fA fH (aB 4))) (aK (bV 7 nd (lG rfl fA fH (aB 5))) (aK (bV 8 nd (bI eO (hr.mono (by decide)) eV dJ.kp eQ rfl (aD (iW (aD (aB 3) (aD (aB 4) aR))) (aD (aB 1) aR)))) (aK (bV 9 nd (bI eO (hr.mono (by decide)) eV dJ.kp eQ rfl (aD (iW (aD (aB 4) (aD (aB 5) aR))) (aD (aB 2) aR)))) (aK (bJ (Nt ["x","z","many","step","left","right"] [none,none,some 6,some 7,some 8,some 9] rfl (pQ rfl fU (lG rfl fA fH (aB 3))) (fun cl C s2 H2 pins fp=>(bU 0 Ng)) (fun cl C s2 H2 pins fp=>kJ) (fun cl C s2 H2 pins fp=>(pQ rfl fU (aB 3))) (fun cl C s2 H2 pins fp=>(bU 1 Ng)) (fun cl C s2 H2 pins fp=>kJ) (fun cl C s2 H2 pins fp=>(bI Am (hr.mono (by decide)) zN lM.kp Fn rfl (aD (jJ (aB 4) (iA (cE kZ (aB 0) (aB 2))) (iA (cE kZ (cE pS (aB 0) bB) (aB 2)))) (aD (Ry (aB 5) (aB 1) (aB 3)) aR)))))) aU))))))) vc
theorem A8{oI:Addr}{nI:FuncData}(lD:Fun K "go_with" "go_with" iT oI nI)(jK:mg "zip"=none)
  (vc:∀ ds m R,ds.length=lZ.length->oZ ds m R->wT {nx:=fun _ m=>R (.dat .none) m,rt:=R} (aW Ee ds) m):FnOk P w K mg base aP 1 oI nI lZ (LSp K 2 oZ) :=
 cG (k:=0) lD Hf (body:=wT) (fun cdv A outer s H E hr=>have nd:=(Hf).nd;(aK (kL PassesOwn.never rfl (Yj rfl jK (aB 0) (aB 1)) (rR rfl (fO (bU 2 nd) (fO (bU 3 nd) rZ))) (aK (dQ (QW.pt (Di (cN Hy (aB 2) uC) (El (cN (Fc hr.u100) (aB 2) (aB 3))))) (aK (bJ eI) aU) aU) aU)) (aK (bJ eI) aU))) vc
theorem Zi{iJ:Addr}{iS:FuncData}(iM:Fun K "behind_words" "behind_words" gB iJ iS){qE:Addr}{pG:FuncData}(lE:Fun K "forced_ways" "forced_ways" gP qE pG)(Ep:Binds K pG lN [])(zX:mg "forced_ways"=some (.ref qE))(yI:FnOk P w K mg base aP 3 qE pG lN (LSp K 3 rD)){dC:Addr}{dG:FuncData}(dR:Fun K "words_of" "words_of" eJ dC dG)(fM:Binds K dG eG [])(fP:mg "words_of"=some (.ref dC))(fK:FnOk P w K mg base aP 1 dC dG eG (LSp K 1 fZ)){oI:Addr}{nI:FuncData}(lD:Fun K "go_with" "go_with" iT oI nI)(Ck:Binds K nI lZ [])(Ej:mg "go_with"=some (.ref oI))(Bf:FnOk P w K mg base aP 1 oI nI lZ (LSp K 2 oZ)){dD:Addr}{dA:FuncData}(dJ:Fun K "ways_by" "ways_by" eW dD dA)(eQ:Binds K dA eK [])(eV:mg "ways_by"=some (.ref dD))(eO:FnOk P w K mg base aP 1 dD dA eK (LSp K 2 dY))(cP:mg "tuple"=none)
  (vc:∀ ds m R,ds.length=jD.length->lT ds m R->wE {nx:=fun _ m=>R (.dat .none) m,rt:=R} (aW yX ds) m):FnOk P w K mg base aP 4 iJ iS jD (LSp K 3 lT) :=
 cG (k:=3) iM Io (body:=wE) (fun cdv A outer s H E hr=>have nd:=(Io).nd;(aK (Kd (aB 0) (rR rfl (fO (bU 3 nd) (fO (bU 4 nd) (fO (bU 5 nd) rZ))))) (aK (bV 6 nd (iW (aD (aB 3) (aD (aB 5) aR)))) (aK (bV 7 nd (bI yI (hr.mono (by decide)) zX lE.kp Ep rfl (aD (aB 0) (aD (aB 1) (aD (aB 2) aR))))) (aK (bJ (iU kU rfl cP kD (aD (jM ["word","ends","forced"] [none,some 6,some 7] rfl (fL (bI fK (hr.mono (by decide)) fP dR.kp fM rfl (aD (aB 6) aR))) (fun cl C s2 H2 pins fp=>(bU 0 Pw)) (fun cl C s2 H2 pins fp=>(pW (qF (bI Bf (hr.mono (by decide)) Ej lD.kp Ck rfl (aD (aB 2) (aD (bI eO (hr.mono (by decide)) eV dJ.kp eQ rfl (aD (aB 1) (aD (aB 0) aR))) aR)))))) (fun cl C s2 H2 pins fp=>(aB 0))) aR))) aU))))) vc
theorem Sh{nD:Addr}{qH:FuncData}(nL:Fun K "__init__" "Behinds.__init__" gW nD qH){bL:Addr}(G_Behinds:PySem.W.nsIn K mainGlobals "Behinds"=some (some (.ref bL)))(T_Behinds:Cls K bL)(A_Behinds_by_words:NoAttr K bL "by_words")(A_Behinds_by_mays:NoAttr K bL "by_mays")
  (vc:∀ ds m R,ds.length=lL.length->sA ds m R->uA {nx:=fun _ m=>R (.dat .none) m,rt:=R} (aW Af ds) m):FnOk P w K mg base aP 1 nD qH lL (LSp K 1 sA) :=
 cG (k:=0) nL Ht (body:=uA) (fun cdv A outer s H E hr=>have nd:=(Ht).nd;(aK (Hc G_Behinds T_Behinds A_Behinds_by_words Nq (aB 0)) (aK (Hc G_Behinds T_Behinds A_Behinds_by_mays Nq (aB 0)) aU))) vc
theorem T2{nG:Addr}{pL:FuncData}(nR:Fun K "words" "Behinds.words" iK nG pL){bL:Addr}(G_Behinds:PySem.W.nsIn K mainGlobals "Behinds"=some (some (.ref bL)))(T_Behinds:Cls K bL)(A_Behinds_by_words:NoAttr K bL "by_words"){iJ:Addr}{iS:FuncData}(iM:Fun K "behind_words" "behind_words" gB iJ iS)(pF:Binds K iS jD [])(pB:mg "behind_words"=some (.ref iJ))(oU:FnOk P w K mg base aP 4 iJ iS jD (LSp K 3 lT))
  (vc:∀ ds m R,ds.length=mU.length->rP ds m R->vH {nx:=fun _ m=>R (.dat .none) m,rt:=R} (aW Fa ds) m):FnOk P w K mg base aP 5 nG pL mU (LSp K 4 rP) :=
 cG (k:=4) nR Jp (body:=vH) (fun cdv A outer s H E hr=>have nd:=(Jp).nd;(aK (bV 4 nd (iW (aD (aB 1) (aD (aB 2) (aD (aB 3) aR))))) (aK (dQ (cN (X1 hr.u100) (aB 4) (Cf G_Behinds T_Behinds A_Behinds_by_words (aB 0)) (hm:=by with_unfolding_all rfl)) (aK (j7 hr.u100 (bI oU (hr.mono (by decide)) pB iM.kp pF rfl (aD (aB 1) (aD (aB 2) (aD (aB 3) aR)))) (Cf G_Behinds T_Behinds A_Behinds_by_words (aB 0)) (aB 4)) aU) aU) (aK (bJ (Ym hr.u100 (Cf G_Behinds T_Behinds A_Behinds_by_words (aB 0)) (aB 4))) aU)))) vc
theorem Xp{oW:Addr}{oA:FuncData}(oF:Fun K "gathered" "Behinds.gathered" gY oW oA){bL:Addr}(G_Behinds:PySem.W.nsIn K mainGlobals "Behinds"=some (some (.ref bL)))(T_Behinds:Cls K bL){dC:Addr}{dG:FuncData}(dR:Fun K "words_of" "words_of" eJ dC dG)(fM:Binds K dG eG [])(fP:mg "words_of"=some (.ref dC))(fK:FnOk P w K mg base aP 1 dC dG eG (LSp K 1 fZ)){nG:Addr}{pL:FuncData}(nR:Fun K "words" "Behinds.words" iK nG pL)(Ez:Binds K pL mU [])(H_Behinds_words:Meth K bL "words" nG)(xV:FnOk P w K mg base aP 5 nG pL mU (LSp K 4 rP))(fX:mg "len"=none)(cP:mg "tuple"=none)
  (vc:∀ ds m R,ds.length=lI.length->rE ds m R->wF {nx:=fun _ m=>R (.dat .none) m,rt:=R} (aW yC ds) m):FnOk P w K mg base aP 6 oW oA lI (LSp K 4 rE) :=
 cG (k:=5) oF Me (body:=wF) (fun cdv A outer s H E hr=>have nd:=(Me).nd;(aK (bV 4 nd (bI fK (hr.mono (by decide)) fP dR.kp fM rfl (aD (iW (aD (dZ (aB 1) bB) (aD (dZ (aB 1) bB) aR))) aR))) (aK (bV 5 nd Th) (aK (kL PassesOwn.never rfl (fL (aB 2)) (bU 6 nd) (aK (kL PassesOwn.never rfl (fL (aB 3)) (bU 7 nd) (aK (dQ (cN (iH hr.u100) (pE Y6 rfl fX qU (aD (aB 5) aR)) (pE vY rfl fX qU (aD (aB 4) aR))) (aK (bJ (aB 4)) aU) aU) (aK (kL PassesOwn.never rfl (fL (Hm G_Behinds T_Behinds H_Behinds_words xV (hr.mono (by decide)) Ez rfl (aB 0) (aD (aB 1) (aD (aB 6) (aD (aB 7) aR))))) (bU 8 nd) (aK (qR hr.u100 eI (aB 5) (aB 8)) aU)) aU))) aU)) (aK (bJ (iU kU rfl cP kD (aD (jM ["word","found"] [none,some 5] rfl (fL (aB 4)) (fun cl C s2 H2 pins fp=>(bU 0 j0)) (fun cl C s2 H2 pins fp=>(pW (cN (d9 hr.u100) (aB 0) (aB 1) (hm:=by with_unfolding_all rfl)))) (fun cl C s2 H2 pins fp=>(aB 0))) aR))) aU))))) vc
theorem Pk{oX:Addr}{nA:FuncData}(lW:Fun K "behind_mays" "behind_mays" gR oX nA){bL:Addr}(G_Behinds:PySem.W.nsIn K mainGlobals "Behinds"=some (some (.ref bL)))(T_Behinds:Cls K bL){oW:Addr}{oA:FuncData}(oF:Fun K "gathered" "Behinds.gathered" gY oW oA)(Ed:Binds K oA lI [])(H_Behinds_gathered:Meth K bL "gathered" oW)(zB:FnOk P w K mg base aP 6 oW oA lI (LSp K 4 rE)){nD:Addr}{qH:FuncData}(nL:Fun K "__init__" "Behinds.__init__" gW nD qH)(xZ:Binds K qH lL [])  (Dr:FnOk P w K mg base aP 1 nD qH lL (LSp K 1 sA))(Eb:mg "Behinds"=some (.ref bL))(zT:Mk K bL nD)
  (vc:∀ ds m R,ds.length=mW.length->sD ds m R->sL {nx:=fun _ m=>R (.dat .none) m,rt:=R} (aW yU ds) m):FnOk P w K mg base aP 7 oX nA mW (LSp K 3 sD) :=
 cG (k:=6) lW Ni (body:=sL) (fun cdv A outer s H E hr=>have nd:=(Ni).nd;(aK (bJ (Hm G_Behinds T_Behinds H_Behinds_gathered zB (hr.mono (by decide)) Ed rfl (Pn G_Behinds zT Eb Dr (hr.mono (by decide)) xZ) (aD (aB 0) (aD (aB 1) (aD (aB 2) aR))))) aU)) vc
theorem P5{qD:Addr}{pM:FuncData}(mC:Fun K "_law_feed" "_law_feed" iX qD pM)(zL:mg "list"=none)
  (vc:∀ ds m R,ds.length=mE.length->sE ds m R->tN {nx:=fun _ m=>R (.dat .none) m,rt:=R} (aW Fb ds) m):FnOk P w K mg base aP 1 qD pM mE (LSp K 1 sE) :=
 cG (k:=0) mC Nw (body:=tN) (fun cdv A outer s H E hr=>have nd:=(Nw).nd;(aK (bJ (To (tG cL (iU Sc rfl zL Y8 (aD (jJ (aB 0) kQ (iA bB)) aR)) (tG cL bB (tG cL bB (tG cL bB O3)))))) aU)) vc
theorem D7{gZ:Addr}{iZ:FuncData}(gL:Fun K "_law_draw" "_law_draw" gI gZ iZ)(fX:mg "len"=none)
  (vc:∀ ds m R,ds.length=jI.length->iG ds m R->Ea {nx:=fun _ m=>R (.dat .none) m,rt:=R} (aW Ae ds) m):FnOk P w K mg base aP 1 gZ iZ jI (LSp K 2 iG) :=
 cG (k:=0) gL Lc (body:=Ea) (fun cdv A outer s H E hr=>have nd:=(Lc).nd;(aK (qR hr.u100 (cE pS (gK hr.u100 (aB 0) cL) bB) (aB 0) cL) (aK (bV 2 nd (cE mI (gK hr.u100 (aB 0) cL) (aB 1))) (aK (dQ (cN Ko (gK hr.u100 (aB 0) cL) bB) (aK (qR hr.u100 (cE vT (gK hr.u100 (aB 0) cL) (aB 1)) (aB 0) cL) (aK (bJ (aB 2)) aU)) aU) (aK (bV 3 nd (gK hr.u100 (aB 0) cL)) (aK (qR hr.u100 (cE pS (aB 3) bB) (aB 0) cL) (aK (bV 4 nd bB) (aK (dQ (cN (Fc hr.u100) (gK hr.u100 (aB 0) cL) (zG aR)) (aK (bV 4 nd (dZ (gK hr.u100 (aB 0) cL) (cE mI (aB 3) (pE vY rfl fX qU (aD (gK hr.u100 (aB 0) cL) aR))))) aU) aU) (aK (dQ (QW.pt (Di (cN Pi (aB 4) (cE Z9 bB bB)) (El (cN T4 (aB 3) (pE vY rfl fX qU (aD (gK hr.u100 (aB 0) cL) aR)))))) (aK (qR hr.u100 (cE vT (aB 4) (aB 1)) (aB 0) cL) (aK (bJ (cE mI (aB 4) (aB 1))) aU)) aU) (aK (bV 5 nd (cE mI (cE kZ (cE pS (cE mI (aB 4) bB) (cE kZ bB (gK hr.u100 (aB 0) cL))) bB) bB)) (aK (bV 5 nd (cE mI (cE kZ (cE pS (cE vT (aB 5) bB) (cE kZ bB (gK hr.u100 (aB 0) cL))) bB) bB)) (aK (bJ (cE mI (cE vT (aB 5) bB) (aB 1))) aU)))))))))))) vc
theorem Vr{nT:Addr}{nW:FuncData}(jS:Fun K "_law_plain" "_law_plain" hX nT nW){dC:Addr}{dG:FuncData}(dR:Fun K "words_of" "words_of" eJ dC dG)(fM:Binds K dG eG [])(fP:mg "words_of"=some (.ref dC))(fK:FnOk P w K mg base aP 1 dC dG eG (LSp K 1 fZ)){gZ:Addr}{iZ:FuncData}(gL:Fun K "_law_draw" "_law_draw" gI gZ iZ)(lA:Binds K iZ jI [])(mP:mg "_law_draw"=some (.ref gZ))(mG:FnOk P w K mg base aP 1 gZ iZ jI (LSp K 2 iG)){jA:Addr}{iP:FuncData}(iE:Fun K "plain_around" "plain_around" gM jA iP)(pK:Binds K iP jO [])(nM:mg "plain_around"=some (.ref jA))(nY:FnOk P w K mg base aP 5 jA iP jO (LSp K 2 mJ))(fX:mg "len"=none)(cP:mg "tuple"=none)
  (vc:∀ ds m R,ds.length=mQ.length->lK ds m R->Fp {nx:=fun _ m=>R (.dat .none) m,rt:=R} (aW Fx ds) m):FnOk P w K mg base aP 6 nT nW mQ (LSp K 2 lK) :=
 cG (k:=5) jS Gn (body:=Fp) (fun cdv A outer s H E hr=>have nd:=(Gn).nd;(aK (bV 2 nd (bI fK (hr.mono (by decide)) fP dR.kp fM rfl (aD (aB 1) aR))) (aK (bV 3 nd (bI mG (hr.mono (by decide)) mP gL.kp lA rfl (aD (aB 0) (aD (pE vY rfl fX qU (aD (aB 2) aR)) aR)))) (aK (bV 4 nd (iU kU rfl cP kD (aD (jM ["_law_word","_law_feed_here","_law_every","_law_first"] [none,some 0,some 2,some 3] rfl (fL (aB 2)) (fun cl C s2 H2 pins fp=>(bU 0 AI)) (fun cl C s2 H2 pins fp=>(pW (QW.pt (wX (cN (iH hr.u100) (aB 0) (dZ (aB 2) (aB 3))) (uX (cN (iH hr.u100) (bI mG (hr.mono (by decide)) mP gL.kp lA rfl (aD (aB 1) (aD bB aR))) bB)))))) (fun cl C s2 H2 pins fp=>(aB 0))) aR))) (aK (bJ (bI nY (hr.mono (by decide)) nM iE.kp pK rfl (aD (aB 1) (aD (aB 4) aR)))) aU))))) vc
theorem D3{oB:Addr}{pX:FuncData}(kH:Fun K "_law_turned_right" "_law_turned_right" hJ oB pX){oT:Addr}{pA:FuncData}(kE:Fun K "turned_may" "turned_may" gX oT pA)(xG:Binds K pA kY [])(sO:mg "turned_may"=some (.ref oT))(tH:FnOk P w K mg base aP 2 oT pA kY (LSp K 1 pV)){eD:Addr}{eC:FuncData}(eM:Fun K "is_plain" "is_plain" fB eD eC)(jC:Binds K eC gC [])(jR:mg "is_plain"=some (.ref eD))(jP:FnOk P w K mg base aP 6 eD eC gC (LSp K 2 jQ))
  (vc:∀ ds m R,ds.length=mR.length->nF ds m R->Bi {nx:=fun _ m=>R (.dat .none) m,rt:=R} (aW Fs ds) m):FnOk P w K mg base aP 7 oB pX mR (LSp K 2 nF) :=
 cG (k:=6) kH Kx (body:=Bi) (fun cdv A outer s H E hr=>have nd:=(Kx).nd;(aK (bV 2 nd (bI tH (hr.mono (by decide)) sO kE.kp xG rfl (aD (aB 1) aR))) (aK (bJ (j4 (sC A1 (bI jP (hr.mono (by decide)) jR eM.kp jC rfl (aD (V6 (aB 0)) (aD (aB 2) aR))) eI) (Us (sC (iH hr.u100) (bI tH (hr.mono (by decide)) sO kE.kp xG rfl (aD (aB 2) aR)) (aB 1))))) aU))) vc
theorem E2{oE:Addr}{nX:FuncData}(kK:Fun K "_law_behind_right" "_law_behind_right" hZ oE nX){oX:Addr}{nA:FuncData}(lW:Fun K "behind_mays" "behind_mays" gR oX nA)(Db:Binds K nA mW [])(Fw:mg "behind_mays"=some (.ref oX))(yM:FnOk P w K mg base aP 7 oX nA mW (LSp K 3 sD)){eD:Addr}{eC:FuncData}(eM:Fun K "is_plain" "is_plain" fB eD eC)(jC:Binds K eC gC [])(jR:mg "is_plain"=some (.ref eD))(jP:FnOk P w K mg base aP 6 eD eC gC (LSp K 2 jQ)){iJ:Addr}{iS:FuncData}(iM:Fun K "behind_words" "behind_words" gB iJ iS)(pF:Binds K iS jD [])(pB:mg "behind_words"=some (.ref iJ))(oU:FnOk P w K mg base aP 4 iJ iS jD (LSp K 3 lT))
  (vc:∀ ds m R,ds.length=mB.length->pU ds m R->yV {nx:=fun _ m=>R (.dat .none) m,rt:=R} (aW xS ds) m):FnOk P w K mg base aP 8 oE nX mB (LSp K 3 pU) :=
 cG (k:=7) kK Gi (body:=yV) (fun cdv A outer s H E hr=>have nd:=(Gi).nd;(aK (bV 3 nd (bI yM (hr.mono (by decide)) Fw lW.kp Db rfl (aD (aB 0) (aD (aB 1) (aD (aB 2) aR))))) (aK (dQ (cN Gz (bI jP (hr.mono (by decide)) jR eM.kp jC rfl (aD (iW (aD (dZ (aB 0) bB) (aD (dZ (aB 0) bB) aR))) (aD (aB 3) aR))) eI) (aK (bJ eI) aU) aU) (aK (kL PassesOwn.never rfl (fL (Hb 4 (aB 1))) (bU 4 nd) (aK (kL PassesOwn.never rfl (fL (Hb 4 (aB 2))) (bU 5 nd) (aK (dQ (cN (Fc hr.u100) (jM ["_law_last","_law_found"] [none,some 3] rfl (fL (bI oU (hr.mono (by decide)) pB iM.kp pF rfl (aD (aB 0) (aD (aB 4) (aD (aB 5) aR))))) (fun cl C s2 H2 pins fp=>(bU 0 AS)) (fun cl C s2 H2 pins fp=>(pW (cN R5 (aB 0) (aB 1) (hm:=by with_unfolding_all rfl)))) (fun cl C s2 H2 pins fp=>(aB 0))) (zG aR)) (aK (bJ eI) aU) aU) aU)) aU)) (aK (bJ eI) aU))))) vc
theorem Yo{Oo:Addr}{Ix:FuncData}(Aa:Fun K "law" "law" fR Oo Ix){qD:Addr}{pM:FuncData}(mC:Fun K "_law_feed" "_law_feed" iX qD pM)(Cn:Binds K pM mE [])(xR:mg "_law_feed"=some (.ref qD))(Fk:FnOk P w K mg base aP 1 qD pM mE (LSp K 1 sE)){gZ:Addr}{iZ:FuncData}(gL:Fun K "_law_draw" "_law_draw" gI gZ iZ)(lA:Binds K iZ jI [])(mP:mg "_law_draw"=some (.ref gZ))(mG:FnOk P w K mg base aP 1 gZ iZ jI (LSp K 2 iG)){nT:Addr}{nW:FuncData}(jS:Fun K "_law_plain" "_law_plain" hX nT nW)(rB:Binds K nW mQ [])(rF:mg "_law_plain"=some (.ref nT))(rM:FnOk P w K mg base aP 6 nT nW mQ (LSp K 2 lK)){oB:Addr}{pX:FuncData}(kH:Fun K "_law_turned_right" "_law_turned_right" hJ oB pX)(uP:Binds K pX mR [])(tY:mg "_law_turned_right"=some (.ref oB))(vZ:FnOk P w K mg base aP 7 oB pX mR (LSp K 2 nF)){eD:Addr}{eC:FuncData}(eM:Fun K "is_plain" "is_plain" fB eD eC)(jC:Binds K eC gC [])(jR:mg "is_plain"=some (.ref eD))(jP:FnOk P w K mg base aP 6 eD eC gC (LSp K 2 jQ)){oE:Addr}{nX:FuncData}(kK:Fun K "_law_behind_right" "_law_behind_right" hZ oE nX)(tU:Binds K nX mB [])(vD:mg "_law_behind_right"=some (.ref oE))(wV:FnOk P w K mg base aP 8 oE nX mB (LSp K 3 pU))(cP:mg "tuple"=none)(fU:mg "range"=none)(Er:mg "int"=none)
  (vc:∀ ds m R,ds.length=vI.length->pR ds m R->Ad {nx:=fun _ m=>R (.dat .none) m,rt:=R} (aW Bg ds) m):FnOk P w K mg base aP 9 Oo Ix vI (LSp K 1 pR) :=
 cG (k:=8) Aa Hg (body:=Ad) (fun cdv A outer s H E hr=>have nd:=(Hg).nd;(aK (bV 1 nd (bI Fk (hr.mono (by decide)) xR mC.kp Cn rfl (aD (aB 0) aR))) (aK (bV 2 nd (zG (aD cL (aD cL aR)))) (aK (kL PassesOwn.never rfl (pQ rfl fU bB) (bU 3 nd) (aK (bV 4 nd (iU kU rfl cP kD (aD (jM ["_law_j","_law_feed_here","_law_some"] [none,some 1,some 2] rfl (pQ rfl fU bB) (fun cl C s2 H2 pins fp=>(bU 0 Zb)) (fun cl C s2 H2 pins fp=>kJ) (fun cl C s2 H2 pins fp=>(dZ (aB 2) (iU Qe rfl Er j3 (aD (sC Ko (bI mG (hr.mono (by decide)) mP gL.kp lA rfl (aD (aB 1) (aD bB aR))) bB) aR))))) aR))) (aK (bV 5 nd (bI rM (hr.mono (by decide)) rF jS.kp rB rfl (aD (aB 1) (aD (jJ (aB 4) kQ (iA bB)) aR)))) (aK (bV 6 nd (bI rM (hr.mono (by decide)) rF jS.kp rB rfl (aD (aB 1) (aD (jJ (aB 4) kQ (iA bB)) aR)))) (aK (bV 7 nd (bI rM (hr.mono (by decide)) rF jS.kp rB rfl (aD (aB 1) (aD (jJ (aB 4) (iA bB) kQ) aR)))) (aK (dQ (QW.pt (wX (uH (qF (bI vZ (hr.mono (by decide)) tY kH.kp uP rfl (aD (jJ (aB 4) kQ (iA bB)) (aD (aB 5) aR))))) (uX (uH (qF (bI vZ (hr.mono (by decide)) tY kH.kp uP rfl (aD (jJ (aB 4) (iA bB) kQ) (aD (aB 7) aR)))))))) (aK (bJ eI) aU) aU) (aK (bV 8 nd (iU kU rfl cP kD (aD (jM ["_law_word","_law_other"] [none,some 6] rfl (fL (aB 5)) (fun cl C s2 H2 pins fp=>(bU 0 Z6)) (fun cl C s2 H2 pins fp=>(pW (cN sJ (aB 0) (aB 1) (hm:=by with_unfolding_all rfl)))) (fun cl C s2 H2 pins fp=>(aB 0))) aR))) (aK (dQ (cN Gz (bI jP (hr.mono (by decide)) jR eM.kp jC rfl (aD (jJ (aB 4) kQ (iA bB)) (aD (aB 8) aR))) eI) (aK (bJ eI) aU) aU) (aK (dQ (QW.pt (wX (uH (qF (bI wV (hr.mono (by decide)) vD kK.kp tU rfl (aD (aB 4) (aD (aB 5) (aD (aB 7) aR)))))) (uX (uH (qF (bI wV (hr.mono (by decide)) vD kK.kp tU rfl (aD (aB 4) (aD (aB 8) (aD (aB 7) aR))))))))) (aK (bJ eI) aU) aU) aU))))))))) (aK (bJ eI) aU))))) vc
end
end K39
namespace K39
open PySem PySem.Spec PyProof.Rows L2 DL K01
@[simp] theorem CV:PyData.strOk (Str.ofString "point")=true:=by decide +kernel
@[simp] theorem CW:PyData.strOk (Str.ofString "stretch")=true:=by decide +kernel
@[simp] theorem Kz(x:PyData)(xs:List PyData):cD (x::xs) 0=some x:=by simp[cD,fS]
@[simp] theorem Gy(x y:PyData)(xs:List PyData):cD (x::y::xs) 1=some y:=by
 have:(1:Int)<xs.length+1+1:=by omega
 simp[cD,fS,this]
abbrev EN(R:DK):Ends2:={nx:=fun _ m=>R (.dat .none) m,rt:=R}
theorem sz{n:Nat}(h:n<=1000):n<=sizeLine:=Nat.le_trans h (by rw[sizeLine_eq];decide)
theorem sB{i j:Int}(h:Bd 64 i):IntMulOk i j:=IntMulOk.of_left (intBits_le_iff.mpr h)
theorem Md{i j:Int}(h:Bd 64 j):IntMulOk i j:=IntMulOk.of_right (intBits_le_iff.mpr h)
set_option exponentiation.threshold 3000 in
theorem wZ{i:Int}{n:Nat}(h:i.natAbs<2^n:=by decide):Bd n i:=h
theorem Bu{g:DG}{b:DS}{E:Ends2}(J:aT->Mu->Prop)(hd:∀ d m,J d m->E.nx d m):∀ (xs:List D),
  (∀ x∈xs,∀ (k:aT->Mu->Prop),(∀ d m,J d m->k d m)->∀ d m,J d m->g x d m fun d' m'=>b {E with nx:=k,ct:=k,bk:=E.nx} d' m')->∀ d m,J d m->dB g b E xs d m
 | [],_,d,m,h=>hd d m h
 | x::xs,step,d,m,h=>step x List.mem_cons_self _ (Bu J hd xs fun y hy=>step y (List.mem_cons_of_mem _ hy)) d m h
theorem Kb{xs:List PyData}{P:PyData->Prop}{r:Int}(h:∀ p∈xs,P p)(h0:0<=r)(h1:r<(xs.length:Int)):∃ p,cD xs r=some p/\P p:=by
 obtain⟨k,rfl⟩:∃ k:Nat,r=k:=⟨r.toNat,by omega⟩
 have hk:k<xs.length:=by omega
 exact⟨xs[k],zF (List.getElem?_eq_getElem hk),h _ (List.getElem_mem hk)⟩
theorem tZ{g:DG}{t:DT}{f:DE}{Q:List PyData->Mu->Prop}(J:List D->List PyData->aT->Mu->Prop)(fin:∀ acc d m,J [] acc d m->Q acc m)
  (step:∀ x xs acc d m (k:List PyData->aT->Mu->Prop),J (x::xs) acc d m->(∀ acc' d' m',J xs acc' d' m'->k acc' d' m')->g x d m fun d1 m1=>t d1 m1 fun b m2=>if b=true then f d1 m2 fun y m3=>∃ p,y=.dat p/\acc.length<sizeLine/\k (acc++[p]) d1 m3 else k acc d1 m2) :
  ∀ xs acc d m,J xs acc d m->cA g t f xs acc d m Q
 | [],acc,d,m,h=>fin acc d m h
 | x::xs,acc,d,m,h=>step x xs acc d m (fun acc' d' m'=>cA g t f xs acc' d' m' Q) h (tZ J fin step xs)
theorem U6:∀ z∈cU,cR vB z=some (.tuple ((w4 z).map .int))/\∃ a b c d,w4 z=[a,b,c,d]:=by
 intro z hz;unfold cU at hz;simp only[List.mem_cons,List.not_mem_nil,or_false]at hz;rcases hz with rfl | rfl | rfl | rfl | rfl | rfl | rfl | rfl | rfl | rfl | rfl | rfl | rfl<;>exact⟨rfl,_,_,_,_,rfl⟩
theorem F3:∀ ds m R,ds.length=eK.length->dY ds m R->tJ (EN R) (aW Dq ds) m:=by
 rintro ds m R hl ⟨k,l,z,rfl,hz,h⟩;obtain⟨v,a,b,c,d,e⟩:=U6 z hz;unfold tJ;simp only[aF,bN,iV,aA,aW];refine⟨_,rfl,z,_,rfl,v,?_⟩;unfold WB at h;rw[e]at h ⊢
 cases k<;>cases l<;>simp (decide:=true) [He,Lp,Hj,kd,PyData.eqv,PyData.eqvAll,PyData.canLay0,PyData.canLayAll0,PyData.depth,PyData.depthAll,cD,fS,and_assoc,sz]at h ⊢
 all_goals exact h
theorem eP(k l:Bool):∀ z∈WS k l,z∈cU:=by cases k<;>cases l<;>decide +kernel
theorem Dp:∀ ns:List Int,PyData.canLayAll0 (ns.map .int)=true/\PyData.depthAll (ns.map .int)<=1
 | []=>by simp[PyData.canLayAll0,PyData.depthAll]
 | n::ns=>by
  obtain⟨h1,h2⟩:=Dp ns;simp only[List.map_cons,PyData.canLayAll0,PyData.depthAll,PyData.canLay0,PyData.depth,h1,Bool.and_self];exact⟨trivial,by omega⟩
theorem Ay{i:Int}(h0:-100000000<=i)(h1:i<=100000000):Bd 64 i:=by
 unfold Bd;have e:(2:Nat)^64=18446744073709551616:=by decide
 omega
theorem Ca{n i:Nat}(h:i<n):(cV 0 n).drop i=I (i:Int)::(cV 0 n).drop (i+1):=by
 have hl:i<(cV 0 n).length:=by unfold cV;simpa using h
 rw[List.drop_eq_getElem_cons hl]
 congr 1
 unfold cV;simp
theorem Na{n:Nat}:(cV 0 n).drop n=[]:=by
 rw[List.drop_eq_nil_iff];unfold cV;simp
theorem Si{g:DG}{t:DT}{f:DE}{Q:List PyData->Mu->Prop}{n:Nat}(J:Nat->List PyData->aT->Mu->Prop)(fin:∀ acc d m,J n acc d m->Q acc m)
  (step:∀ i acc d m (k:List PyData->aT->Mu->Prop),i<n->J i acc d m->(∀ acc' d' m',J (i+1) acc' d' m'->k acc' d' m')->g (I (i:Int)) d m fun d1 m1=>t d1 m1 fun b m2=>if b=true then f d1 m2 fun y m3=>∃ p,y=.dat p/\acc.length<sizeLine/\k (acc++[p]) d1 m3 else k acc d1 m2) :
  ∀ acc d m,J 0 acc d m->cA g t f (cV 0 n) acc d m Q:=by
 intro acc d m h;refine tZ (fun rest acc d m=>∃ i,i<=n/\rest=(cV 0 n).drop i/\J i acc d m) ?_ ?_ _ _ _ _ ⟨0,Nat.zero_le _,rfl,h⟩
 ·rintro acc d m ⟨i,hi,e,hj⟩;have:i=n:=by
   have:=congrArg List.length e
   unfold cV at this;simp at this;omega
  subst this;exact fin _ _ _ hj
 ·rintro x xs acc d m k ⟨i,hi,e,hj⟩ hk;have hlt:i<n:=by
   have:=congrArg List.length e
   unfold cV at this;simp at this;omega
  rw[Ca hlt]at e;obtain⟨rfl,rfl⟩:=List.cons.inj e;exact step i acc d m k hlt hj fun acc' d' m' h'=>hk _ _ _ ⟨i+1,hlt,rfl,h'⟩
theorem CF{g:DG}{b:DS}{E:Ends2}{n:Nat}(J:Nat->aT->Mu->Prop)(hd:∀ d m,J n d m->E.nx d m)
  (step:∀ i,i<n->∀ (k:aT->Mu->Prop),(∀ d m,J (i+1) d m->k d m)->∀ d m,J i d m->g (I (i:Int)) d m fun d' m'=>b {E with nx:=k,ct:=k,bk:=E.nx} d' m'):∀ d m,J 0 d m->dB g b E (cV 0 n) d m:=by
 have key:∀ (r i:Nat),r+i=n->∀ d m,J i d m->dB g b E ((cV 0 n).drop i) d m:=by
  intro r
  induction r with
  | zero =>
   intro i hi d m hj;have:i=n:=by omega
   subst this;rw[Na];exact hd d m hj
  | succ r ih =>
   intro i hi d m hj;rw[Ca (by omega)]
   exact step i (by omega) _ (ih (i+1) (by omega)) d m hj
 intro d m h;have:=key n 0 (by omega) d m h
 simpa using this
theorem Kn.refl{m:Mu}:Kn m m:=fun _ _=>rfl
theorem Kn.trans{m m1 m2:Mu}(h:Kn m m1)(g:Kn m1 m2):Kn m m2:=fun c hc=>by
 have e:=h c hc
 rw[g c (by rw[e];exact hc),e]
theorem Kn.new{m m1:Mu}{c:Addr}{x:Cel}(h:Kn m m1)(hc:m c=none):Kn m (bC m1 c x):=fun y hy=>by
 have ne:y≠c:=by rintro rfl;rw[hc]at hy;cases hy
 rw[bF ne];exact h y hy
theorem oV(k l:Bool):1<=(WS k l).length/\(WS k l).length<=13:=by cases k<;>cases l<;>decide
theorem BU{g:DE}{pr:Str->Bool}{ws:List Str}{d1:aT}{m:Mu}{o:Option D}{op:D2}{f:DE}{Q:List PyData->Mu->Prop}(hn:ws.length<=13)(ht:∀ (z:Str) (Q':Bool->Mu->Prop),z∈ws->Q' (pr z) m->bG (aL op f g) (some (.dat (.str z))::d1) m Q')(h:Q ((ws.filter pr).map .str) m) :
  cA (gN 0) (bG (aL op f g)) (aA 0) (ws.map (D.dat∘PyData.str)) [] (o::d1) m Q:=by
 refine tZ (fun rest acc d m'=>m'=m/\(∃ o,d=o::d1)/\∃ done todo,ws=done++todo/\rest=todo.map (D.dat∘PyData.str)/\acc=(done.filter pr).map .str) ?_ ?_ _ _ _ _ ⟨rfl,⟨o,rfl⟩,[],ws,rfl,rfl,rfl⟩
 ·rintro acc d m' ⟨rfl,_,done,todo,e1,e2,rfl⟩;have e3:todo=[]:=by simpa using e2.symm
  subst e3;rw[List.append_nil]at e1;rw[<- e1];exact h
 ·rintro x xs acc d m' k ⟨rfl,⟨o,rfl⟩,done,todo,e1,e2,rfl⟩ hk
  cases todo with
  | nil=>simp at e2
  | cons z todo =>
   obtain⟨rfl,rfl⟩:=List.cons.inj e2;have hln:(done.filter pr).length<14:=by
    have:=congrArg List.length e1
    have q:=List.length_filter_le pr done
    simp at this;omega
   have e3:ws=(done++[z])++todo:=by rw[e1];simp
   show bG (aL op f g) (some (.dat (.str z))::d1) m' _
   refine ht z _ (by rw[e1];simp) ?_
   cases c:pr z with
   | true =>
    simp;exact⟨Nat.lt_of_lt_of_le hln (sz (by decide)),hk _ _ _ ⟨rfl,⟨_,rfl⟩,done++[z],todo,e3,rfl,by simp[c]⟩⟩
   | false =>
    simp;exact hk _ _ _ ⟨rfl,⟨_,rfl⟩,done++[z],todo,e3,rfl,by simp[c]⟩
theorem Rl:∀ ds m R,ds.length=eG.length->fZ ds m R->wP (EN R) (aW Aq ds) m:=by
 rintro ds m R hl ⟨k,l,rfl,h⟩;unfold wP;simp only[aF,bD,vF,aA,aH,aW];refine⟨_,rfl,[kd k,kd l],rfl,?_⟩
 cases k<;>cases l<;>exact h
theorem U2:∀ ds m R,ds.length=mH.length->qP ds m R->tT (EN R) (aW An ds) m:=by
 rintro ds m R hl ⟨a,b,rfl,h⟩;unfold sR at h;simp[tT,PyData.eqv,PyData.canLay0,PyData.depth]
 by_cases c1:a=0
 ·rw[if_pos c1]at h;exact .inr ⟨c1,h⟩
 ·rw[if_neg c1]at h;refine .inl ⟨c1,?_⟩;simp[Ob,PyData.eqv,PyData.canLay0,PyData.depth]
  by_cases c2:b=0\/b=a
  ·rw[if_pos c2]at h
   by_cases c3:b=0
   ·exact .inr ⟨c3,h⟩
   ·refine .inl ⟨c3,.inr ⟨by rcases c2 with q | q;exact absurd q c3;exact q,h⟩⟩
  ·rw[if_neg c2]at h;refine .inl ⟨fun q=>c2 (.inl q),.inl ⟨fun q=>c2 (.inr q),?_⟩⟩;simp[Kq];exact h
theorem Oy:∀ ds m R,ds.length=mF.length->oK ds m R->sU (EN R) (aW zP ds) m:=by
 rintro ds m R hl ⟨xs,ys,rfl,h⟩;simp only[sU,aF,dS,xP,aA];refine⟨_,rfl,_,rfl,_,_,rfl,rfl,?_⟩;have e:((xs.map PyData.int).zip (ys.map PyData.int))=(xs.zip ys).map fun z=>(PyData.int z.1,PyData.int z.2):=by
  rw[List.zip_map];rfl
 rw[e,List.map_map]
 generalize hps:xs.zip ys=ps at h
 have key:∀ (ps:List (Int×Int)) (o2 o3 o4:Option D),R (.dat (oD (rW ps))) m->dB (gT 2 (cQ (gN 2) (cQ (gN 3) fY))) uI {nx:=Cv (EN R),rt:=R} (ps.map ((fun z=>D.dat (PyData.tuple [z.1,z.2]))∘fun z=>(PyData.int z.1,PyData.int z.2))) [some (.dat (.tuple (xs.map .int))),some (.dat (.tuple (ys.map .int))),o2,o3,o4] m:=by
  intro ps
  induction ps with
  | nil =>
   intro o2 o3 o4 h;simp[dB,Cv];exact h
  | cons p ps ih =>
   intro o2 o3 o4 h;simp only[List.map_cons,dB]
   generalize hG:dB _ uI _ (ps.map _)=G at ih ⊢
   simp[uI];refine⟨p.1,p.2,rfl,?_⟩;simp only[rW]at h
   cases c:sR p.1 p.2 with
   | none =>
    simp[At,oD];exact ih _ _ _ (by simpa[c] using h)
   | some i =>
    simp[At,oD];simpa[c,oD] using h
 exact key ps _ _ _ h
theorem Xj(fs:List (Option Int)):gA fs []=true:=by
 cases fs with
 | nil=>rfl
 | cons f r=>cases f<;>rfl
theorem K7:∀ ds m R,ds.length=lZ.length->oZ ds m R->wT (EN R) (aW Ee ds) m:=by
 rintro ds m R hl ⟨fs,ws,rfl,f4,w4',h⟩;simp only[wT,aF,dS,sM,aA];refine⟨_,rfl,_,rfl,_,_,rfl,rfl,?_⟩;have key:∀ (fs:List (Option Int)) (ws:List Int) (x0 x1 o2 o3:Option D),R (.dat (.bool (gA fs ws))) m->dB (gT 2 (cQ (gN 2) (cQ (gN 3) fY))) rN {nx:=uF (EN R),rt:=R} (((fs.map oD).zip (ws.map PyData.int)).map fun z=>.dat (.tuple [z.1,z.2])) [x0,x1,o2,o3] m:=by
  intro fs
  induction fs with
  | nil =>
   intro ws x0 x1 o2 o3 h;simp[dB,uF];exact h
  | cons f fs ih =>
   intro ws x0 x1 o2 o3 h
   cases ws with
   | nil =>
    rw[Xj]at h;simp[dB,uF];exact h
   | cons w ws =>
    have ih:=ih ws x0 x1
    simp only[List.map_cons,List.zip_cons_cons,dB]
    generalize hG:dB _ rN _ (((fs.map oD).zip (ws.map PyData.int)).map _)=G at ih ⊢
    cases f with
    | none =>
     simp[rN,oD];exact ih _ _ h
    | some i =>
     simp only[gA]at h;simp[rN,oD,PyData.eqv,PyData.canLay0,PyData.depth]
     by_cases c:i=w
     ·refine .inl ⟨c,ih _ _ ?_⟩;simpa[c] using h
     ·refine .inr ⟨c,?_⟩;simpa[c] using h
 exact key fs ws _ _ _ _ h
theorem eN(k:Bool):1<=aM k/\aM k<=2:=by cases k<;>decide
theorem wO{st:rL}{Q:List PyData->aT->Mu->Prop}{n:Nat}(J:Nat->List PyData->aT->Mu->Prop)(fin:∀ acc d m,J n acc d m->Q acc d m)
  (step:∀ i acc d m (K:List PyData->aT->Mu->Prop),i<n->J i acc d m->(∀ acc' d' m',J (i+1) acc' d' m'->K acc' d' m')->st (I (i:Int)) acc d m K):∀ acc d m,J 0 acc d m->bX st (cV 0 n) acc d m Q:=by
 have key:∀ (r i:Nat),r+i=n->∀ acc d m,J i acc d m->bX st ((cV 0 n).drop i) acc d m Q:=by
  intro r
  induction r with
  | zero =>
   intro i hi acc d m hj;have:i=n:=by omega
   subst this;rw[Na];exact fin acc d m hj
  | succ r ih =>
   intro i hi acc d m hj;rw[Ca (by omega)]
   exact step i acc d m _ (by omega) hj fun acc' d' m' h'=>ih (i+1) (by omega) acc' d' m' h'
 intro acc d m h;have:=key n 0 (by omega) acc d m h
 simpa using this
theorem sF{α:Type}(f:Nat->Nat->α){c:Nat}(hc:c<=2):∀ x:Nat,(((List.range x).map fun i=>(List.range c).map (f i)).flatten).length<=2*x
 | 0=>by simp
 | x+1=>by
  have ih:=sF f hc x
  rw[List.range_succ,List.map_append,List.flatten_append,List.length_append];have e:(([x].map fun i=>(List.range c).map (f i)).flatten).length=c:=by simp
  rw[e];omega
theorem Il{α β:Type}(f:α->β)(xs:List α)(lo hi:Option Int):gH (xs.map f) lo hi=(gH xs lo hi).map f:=by
 unfold gH;rw[List.length_map,List.map_take,List.map_drop]
theorem Nf{α β:Type}(f:α->β)(xs:List α):∀ is:List Nat,pick (xs.map f) is=(pick xs is).map f
 | []=>rfl
 | i::is=>by
  have ih:=Nf f xs is
  unfold pick at ih ⊢;rw[List.filterMap_cons,List.filterMap_cons,List.getElem?_map,ih]
  cases xs[i]?<;>rfl
theorem oG(l:Bool):cR gG (kd l)=some (.int (aM l)):=by cases l<;>rfl
theorem oP(k l:Bool):∀ z∈WS k l,(WB k l z).length=aM k*aM l:=by cases k<;>cases l<;>decide +kernel
theorem B1:∀ ds m R,ds.length=lN.length->rD ds m R->sQ (EN R) (aW Fd ds) m:=by
 rintro ds m R hl ⟨k,l,n,z,w,rfl,hz,hw,h⟩;have lz:=oP k l z hz
 have lw:=oP l n w hw
 simp[sQ];simp[Ka,oG];simp[Lr,oG];simp[Jn,sz];refine⟨k,l,z,rfl,eP k l z hz,?_⟩;simp[Lo,sz];refine⟨l,n,w,rfl,eP l n w hw,?_⟩;simp[Mr,bH,oG];have ck:=eN k
 have cl:=eN l
 have cn:=eN n
 refine⟨by omega,?_⟩
 have one:∀ (x y:Nat) (Q:DK),x<aM k->y<aM n->Q (.dat (oD (gQ k l n z w x y))) m->bA 2 oK (aC (fN (aA 4) (eB (aL fV (aA 0) (aA 2))) (eB (aL fV (aL jU (aA 0) (aH (PyData.int 1))) (aA 2)))) (aC (vV (aA 5) (aA 1) (aA 3)) aN))
   [some (I x),some (I y),some (I (aM l)),some (I (aM n)),some (.dat (.tuple ((WB k l z).map .int))),some (.dat (.tuple ((WB l n w).map .int)))] m Q:=fun x y Q hx hy hq=>by
  simp;refine⟨sB (Ay (by omega) (by omega)),sB (Ay (by omega) (by omega)),?_⟩
  have m1:y<=(WB l n w).length:=by
   rw[lw];have:=Nat.mul_le_mul_right (aM n) cl.1
   omega
  refine⟨y,rfl,aM n,rfl,m1,cn.1,?_⟩;rw[Il,Nf];exact⟨_,_,rfl,hq⟩
 refine wO (n:=aM k) (fun i acc d m'=>m'=m/\acc=(((List.range i).map fun x=>(List.range (aM n)).map fun y=>gQ k l n z w x y).flatten).map oD/\∃ o0 o1,d=[o0,o1,some (I (aM l)),some (I (aM n)),some (.dat (.tuple ((WB k l z).map .int))),some (.dat (.tuple ((WB l n w).map .int)))]) ?_ ?_ _ _ _ ⟨rfl,rfl,_,_,rfl⟩
 ·rintro acc d m' ⟨rfl,rfl,_⟩;exact h
 ·rintro x acc d m' K hx ⟨rfl,rfl,o0,o1,rfl⟩ hK;simp[gD];refine⟨by omega,?_⟩
  refine wO (n:=aM n) (fun j acc d m''=>m''=m'/\acc=((((List.range x).map fun x=>(List.range (aM n)).map fun y=>gQ k l n z w x y).flatten)++(List.range j).map fun y=>gQ k l n z w x y).map oD/\∃ o1,d=[some (I x),o1,some (I (aM l)),some (I (aM n)),some (.dat (.tuple ((WB k l z).map .int))),some (.dat (.tuple ((WB l n w).map .int)))]) ?_ ?_ _ _ _ ⟨rfl,by simp,_,rfl⟩
  ·rintro acc d m'' ⟨rfl,rfl,o1,rfl⟩;refine hK _ _ _ ⟨rfl,?_,_,_,rfl⟩;rw[List.range_succ];simp
  ·rintro y acc d m'' K2 hy ⟨rfl,rfl,o1,rfl⟩ hK2;have al:((((List.range x).map fun x=>(List.range (aM n)).map fun y=>gQ k l n z w x y).flatten)++(List.range y).map fun y=>gQ k l n z w x y).length<=10:=by
    have q:=sF (gQ k l n z w) cn.2 x
    rw[List.length_append,List.length_map,List.length_range];exact Nat.le_trans (Nat.add_le_add (show _<=2*x from q) (Nat.le_of_lt hy)) (by omega)
   simp only[DL.stepI,gN,dW];refine one x y _ hx hy ⟨_,rfl,?_,hK2 _ _ _ ⟨rfl,?_,_,rfl⟩⟩
   ·rw[List.length_map];exact Nat.lt_of_lt_of_le (Nat.lt_succ_of_le al) (sz (by decide))
   ·rw[List.range_succ,List.map_append (f:=fun y=>gQ k l n z w x y),<- List.append_assoc,List.map_append (f:=oD) (l₂:=[y].map _)];rfl
theorem W1(k l n:Bool)(z w:Str):(FW k l n z w).length<=4:=by
 have q:=sF (gQ k l n z w) (eN n).2 (aM k)
 have:=eN k
 exact Nat.le_trans (show(FW k l n z w).length<=2*aM k from q) (by omega)
theorem Q6(k l:Bool):∀ z∈WS k l,(WB k l z).length<=4:=fun z hz=>by
 rw[oP k l z hz];exact Nat.mul_le_mul (eN k).2 (eN l).2
theorem Se:∀ ds m R,ds.length=jD.length->lT ds m R->wE (EN R) (aW yX ds) m:=by
 rintro ds m R hl ⟨k,l,n,z,w,rfl,hz,hw,h⟩;simp[wE];simp[Kj,sz];simp[Ke];refine⟨k,l,n,z,w,rfl,hz,hw,?_⟩;simp[Jr,bH];refine⟨k,n,rfl,?_⟩;simp;have lp:∀ (todo done:List Str) (o0:Option D),WS k n=done++todo->cA (gN 0) (bG (bA 2 oZ (aC (aA 2) (aC (bA 2 dY (aC (aA 1) (aC (aA 0) aN))) aN)))) (aA 0) (todo.map (D.dat∘PyData.str)) ((done.filter fun u=>gA (FW k l n z w) (WB k n u)).map .str) [o0,some (.dat (dF k n)),some (.dat (.list ((FW k l n z w).map oD)))] m (fun ps m2=>R (.dat (.tuple ps)) m2):=by
  intro todo
  induction todo with
  | nil =>
   intro done o0 e;rw[List.append_nil]at e;simp only[List.map_nil,cA];unfold BW at h;rw[e]at h;exact h
  | cons u todo ih =>
   intro done o0 e;have ih:=ih (done++[u]) (some (.dat (.str u))) (by rw[e];simp)
   have hu:u∈WS k n:=by rw[e];simp
   have dl:(done.filter fun u=>gA (FW k l n z w) (WB k n u)).length<14:=by
    have q1:=congrArg List.length e
    have q2:=(oV k n).2
    have q3:=List.length_filter_le (fun u=>gA (FW k l n z w) (WB k n u)) done
    simp at q1;omega
   simp only[List.map_cons,cA]
   generalize hG:cA _ _ _ (todo.map _)=G at ih ⊢
   simp;refine⟨k,n,u,rfl,eP k n u hu,?_⟩;refine⟨FW k l n z w,WB k n u,rfl,W1 k l n z w,Q6 k n u hu,?_⟩
   cases c:gA (FW k l n z w) (WB k n u) with
   | true =>
    simp[c]at ih ⊢;exact⟨Nat.lt_of_lt_of_le dl (sz (by decide)),ih⟩
   | false =>
    simp[c]at ih ⊢;exact ih
 exact lp (WS k n) [] none rfl
theorem L3:∀ ds m R,ds.length=lL.length->sA ds m R->uA (EN R) (aW Af ds) m:=by
 rintro ds m R hl ⟨a,rfl,ha,h⟩;simp[uA];intro c1 h1;have ac1:a≠c1:=by rintro rfl;rw[ha]at h1;cases h1
 refine⟨_,by rw[bF ac1];exact ha,by decide,?_⟩
 simp[Ih,putO];intro c2 h2;have ac2:a≠c2:=by rintro rfl;rw[bZ]at h2;cases h2
 have c12:c1≠c2:=by rintro rfl;rw[bF ac1.symm,bZ]at h2;cases h2
 rw[bF ac2.symm,bF c12.symm]at h2;refine⟨_,by rw[bF ac2,bZ],by simp,?_⟩
 simp[putO,show ¬ (("by_words" : Str)="by_mays") by decide]
 refine h c1 c2 _ h1 h2 (fun b n1 n2 n3=>by rw[bF n1,bF n3,bF n1,bF n2]) ⟨bZ,⟨[],by rw[bF ac1.symm,bF c12,bF ac1.symm,bZ],Nat.le_refl _,fun ks x e=>by cases e⟩,ac1⟩
theorem AM(k:Bool):PyData.strOk (kd k)=true:=by cases k<;>decide +kernel
theorem Cr:∀ z∈cU,PyData.strOk z=true:=by decide +kernel
theorem Cs{k l:Bool}(h:kd k=kd l):k=l:=by
 cases k<;>cases l<;>first | rfl | exact absurd h (by decide)
theorem A2{k l n:Bool}{z w:Str}(hz:z∈cU)(hw:w∈cU):gJ (.dat (.tuple [cO k l n,.str z,.str w]))=some [cO k l n,.str z,.str w]:=by
 simp[gJ,L2.isKs,L2.isK,AM,Cr z hz,Cr w hw,PyData.depthAll,PyData.depth]
theorem Pd{k l n k' l' n':Bool}{z w z' w':Str}(h:([cO k l n,.str z,.str w]:List PyData)=[cO k' l' n',.str z',.str w']):k=k'/\l=l'/\n=n'/\z=z'/\w=w':=by
 simp at h;obtain⟨⟨h1,h2,h3⟩,h4,h5⟩:=h;exact⟨Cs h1,Cs h2,Cs h3,h4,h5⟩
theorem Wq:∀ ds m R,ds.length=mU.length->rP ds m R->vH (EN R) (aW Fa ds) m:=by
 rintro ds m R hl ⟨a,c1,c2,q,k,l,n,z,w,rfl,hz,hw,B,hq,h⟩;obtain⟨ob,⟨kvs,t1,tl,tg⟩,n1⟩:=B;have hkey:=A2 (k:=k) (l:=l) (n:=n) (eP k l z hz) (eP l n w hw)
 have last:∀ m' kvs',m' a=some (.o "Behinds" [("by_words",.cel c1),("by_mays",.cel c2)])->m' c1=some (.n kvs')->kvs'.length<=q+1->Lu kvs'->(∀ b,b≠c1->m' b=m b)->(cJ kvs' [cO k l n,.str z,.str w]).isSome=true ->
   Bs (EN R) [some (.cel a),some (.dat (cO k l n)),some (.dat (.str z)),some (.dat (.str w)),some (.dat (.tuple [cO k l n,.str z,.str w]))] m':=fun m' kvs' ob' t1' tl' tg' fr hv=>by
  obtain⟨x,hx⟩:=Option.isSome_iff_exists.mp hv;obtain⟨k',l',n',z',w',e,rfl⟩:=tg' _ _ hx;obtain⟨rfl,rfl,rfl,rfl,rfl⟩:=Pd e;simp only[Bs,aF,bD,sY,kB,aA];refine⟨_,rfl,a,_,_,rfl,ob',rfl,fun b e=>by cases e;rw[t1'];rfl,_,rfl,c1,_,_,_,rfl,hkey,t1',hx,fun b e=>(nomatch e),?_⟩
  exact h m' ⟨ob',⟨kvs',t1',tl',tg'⟩,n1⟩ fr
 simp[vH];refine⟨sz (by decide),?_⟩
 simp only[Gd,aF,cX,bG,aL,aA,kB];refine⟨_,rfl,_,rfl,a,_,_,rfl,ob,rfl,fun b e=>by cases e;rw[t1];rfl,?_⟩
 refine⟨_,_,hkey,t1,_,rfl,?_⟩
 cases e:cJ kvs [cO k l n,.str z,.str w] with
 | some x =>
  simp;exact last m kvs ob t1 (by omega) tg (fun _ _=>rfl) (by rw[e];rfl)
 | none =>
  simp only[Option.isSome_none,Bool.not_false,if_true];simp only[aF,wL,bA,aC,aN,aA,kB,aS];refine⟨_,rfl,_,rfl,_,rfl,rfl,k,l,n,z,w,rfl,hz,hw,?_⟩;refine⟨_,rfl,a,_,_,rfl,ob,rfl,fun b e=>by cases e;rw[t1];rfl,_,rfl,c1,_,_,rfl,hkey,t1,Nat.lt_of_le_of_lt tl (Nat.lt_of_lt_of_le (show q<1000 by omega) (sz (Nat.le_refl _))),?_⟩
  refine last _ (fD kvs [cO k l n,.str z,.str w] (.dat (.tuple ((BW k l n z w).map .str)))) (by rw[bF n1];exact ob) bZ ?_ ?_ (fun b hb=>bF hb) ?_
  ·have:=Y9 kvs [cO k l n,.str z,.str w] (.dat (.tuple ((BW k l n z w).map .str)))
   omega
  ·intro ks x hx;rw[Lx]at hx
   split at hx
   ·rename_i e
    cases hx
    exact⟨k,l,n,z,w,e,rfl⟩
   ·exact tg ks x hx
  ·rw[Lx,if_pos rfl];rfl
def tr(u:Str):aJ×PyData:=(.inr u,.bool true)
def lF(us:List Str)(u:Str):List Str:=if u∈us then us else us++[u]
theorem Of(v:Str):∀ us:List Str,cR (us.map tr) (.inr v)=if v∈us then some (.bool true) else none
 | []=>rfl
 | u::us=>by
  have ih:=Of v us
  unfold cR at ih ⊢;rw[List.map_cons,List.find?_cons]
  by_cases e:u=v
  ·subst e;simp[tr]
  ·have d:decide ((tr u).1=(Sum.inr v:aJ))=false:=by simp[tr,e]
   rw[d];simp only[ih,List.mem_cons,Ne.symm e,false_or]
theorem u0(v:Str)(us:List Str):((us.map tr).any fun kv=>decide (kv.1=(.inr v:aJ)))=decide (v∈us):=by
 induction us with
 | nil=>rfl
 | cons u us ih =>
  rw[List.map_cons,List.any_cons,ih]
  by_cases e:u=v
  ·simp[tr,e]
  ·simp[tr,e,Ne.symm e]
theorem Yq(us:List Str)(u:Str):jT (us.map tr) (.inr u) (.bool true)=(lF us u).map tr:=by
 unfold jT lF;rw[u0]
 by_cases e:u∈us
 ·rw[if_pos (decide_eq_true e),if_pos e,List.map_map];refine List.map_congr_left fun x _=>?_;show(if (tr x).1=_ then ((tr x).1,PyData.bool true) else tr x)=tr x
  split<;>rfl
 ·rw[if_neg (by simpa using e),if_neg e,List.map_append]
  rfl
theorem Oa{us:List Str}{u v:Str}:v∈lF us u↔v∈us\/v=u:=by
 unfold lF
 split
 ·rename_i h;exact⟨.inl,fun q=>q.elim id fun e=>e▸h⟩
 ·simp
theorem Xq{us:List Str}{u:Str}(h:us.Nodup):(lF us u).Nodup:=by
 unfold lF
 split
 ·exact h
 ·rename_i q;rw[List.nodup_append];exact⟨h,by simp,fun a ha b hb e=>q (by simp at hb;rw[<- hb,<- e];exact ha)⟩
theorem Ew:∀ {us ws:List Str},us.Nodup->(∀ u∈us,u∈ws)->us.length<=ws.length
 | [],_,_,_=>Nat.zero_le _
 | u::us,ws,nd,h=>by
  have hu:=h u List.mem_cons_self
  rw[List.nodup_cons]at nd;have:=Ew (us:=us) (ws:=ws.erase u) nd.2 fun v hv=>by
   refine(List.mem_erase_of_ne ?_).mpr (h v (List.mem_cons_of_mem _ hv));rintro rfl;exact nd.1 hv
  rw[List.length_erase_of_mem hu]at this;have:=List.length_pos_of_mem hu
  rw[List.length_cons];omega
theorem BE{us ws:List Str}(nd:us.Nodup)(h:∀ u∈us,u∈ws)(hl:us.length=ws.length):∀ w∈ws,w∈us:=fun w hw=>by
 by_cases c:w∈us
 ·exact c
 ·have:=Ew (us:=w::us) (ws:=ws) (List.nodup_cons.mpr ⟨c,nd⟩) fun v hv=>by
   rcases List.mem_cons.mp hv with e | e
   ·rw[e];exact hw
   ·exact h v e
  rw[List.length_cons]at this;omega
theorem vO{g:DG}{b:DS}{E:Ends2}(J:List D->aT->Mu->Prop)(fin:∀ d m,J [] d m->E.nx d m)
  (step:∀ x rest (k:aT->Mu->Prop) d m,J (x::rest) d m->(∀ d' m',J rest d' m'->k d' m')->g x d m fun d' m'=>b {E with nx:=k,ct:=k,bk:=E.nx} d' m'):∀ xs d m,J xs d m->dB g b E xs d m
 | [],d,m,h=>fin d m h
 | x::xs,d,m,h=>step x xs _ d m h (vO J fin step xs)
theorem j8{k l n:Bool}{z w:Str}:∀ u∈BW k l n z w,u∈WS k n:=fun u hu=>(List.mem_filter.mp hu).1
structure Ga (m0 m:Mu) (a c1 c2 f:Addr) (k l n:Bool) (done:List (Str×Str)):Prop where
 b:Bh m a c1 c2 done.length
 us:∃ us:List Str,m f=some (.d (us.map tr))/\us.Nodup/\(∀ u∈us,u∈WS k n)/\∀ u,u∈us ↔ ∃ p∈done,u∈BW k l n p.1 p.2
 fr:∀ b,b≠c1->b≠f->m b=m0 b
theorem Ml{k l n:Bool}{zs ws:List Str}{u:Str}:(zs.any fun z=>ws.any fun w=>decide (u∈BW k l n z w))=true ↔ ∃ z∈zs,∃ w∈ws,u∈BW k l n z w:=by
 simp[List.any_eq_true]
theorem AJ(x:PyData)(xs:List PyData):cD (x::xs) 0=some x:=by
 have:(0:Int)<xs.length+1:=by omega
 simp[cD,fS,this]
theorem Ms(x y z:PyData)(xs:List PyData):cD (x::y::z::xs) 2=some z:=by
 have:(2:Int)<xs.length+1+1+1:=by omega
 simp[cD,fS,this]
theorem BS:∀ ds m R,ds.length=lI.length->rE ds m R->wF (EN R) (aW yC ds) m:=by
 rintro ds m R hl ⟨a,c1,c2,k,l,n,zs,ws,rfl,lz,lw,hz,hw,B,h⟩;have h:∀ m' zs',(∀ b,b≠c1->(m b).isSome=true->m' b=m b)->zs'=BM k l n zs ws->R (.dat (.tuple (zs'.map .str))) m':=fun m' zs' q e=>by rw[e];exact h m' q
 simp only[wF,aF,bN,bA,aC,aN,eS,aL,aA,aH,cZ];refine⟨_,rfl,_,AJ _ _,_,rfl,_,Ms _ _ _ _,_,rfl,sz (by simp),rfl,k,n,rfl,?_⟩
 simp[Mf];intro f hf;have fa:f≠a:=by rintro rfl;rw[B.ob]at hf;cases hf
 have fc:f≠c1:=by rintro rfl;obtain⟨kvs,q,_⟩:=B.t1;rw[q]at hf;cases hf
 have g0:Ga (bC m f (.d [])) (bC m f (.d [])) a c1 c2 f k l n []:=by
  obtain⟨ob,⟨kvs,t1,t2,t3⟩,n1⟩:=B;exact⟨⟨by rw[bF fa.symm];exact ob,⟨kvs,by rw[bF fc.symm];exact t1,t2,t3⟩,n1⟩,⟨[],bZ,List.nodup_nil,by simp,by simp⟩,fun _ _ _=>rfl⟩
 have keep:∀ {m'} {done},Ga (bC m f (.d [])) m' a c1 c2 f k l n done->∀ b,b≠c1->(m b).isSome=true->m' b=m b:=fun {m' done} G b hb hs=>by
  have bf:b≠f:=by rintro rfl;rw[hf]at hs;cases hs
  rw[G.fr b hb bf,bF bf]
 simp only[Iu,aF,dS,dH,aA];refine⟨_,rfl,.inr ⟨_,rfl,?_⟩⟩;refine vO (fun rest d m'=>∃ zd zt,zs=zd++zt/\rest=(zt.map PyData.str).map .dat/\(∃ o6 o7 o8,d=[some (.cel a),some (.dat (cO k l n)),some (.dat (.tuple (zs.map .str))),some (.dat (.tuple (ws.map .str))),some (.dat (.tuple ((WS k n).map .str))),some (.cel f),o6,o7,o8]) /\
   ∃ done,Ga (bC m f (.d [])) m' a c1 c2 f k l n done/\done.length<=13*zd.length/\(∀ p,p∈done↔p.1∈zd/\p.2∈ws)) ?_ ?_ _ _ _ ⟨[],zs,rfl,rfl,⟨_,_,_,rfl⟩,[],g0,Nat.le_refl _,by simp⟩
 ·rintro d m' ⟨zd,zt,e1,e2,⟨o6,o7,o8,rfl⟩,done,G,_,hd⟩;have:zt=[]:=by simpa using e2.symm
  subst this;rw[List.append_nil]at e1;subst e1;obtain⟨us,mf,nd,sub,iff⟩:=G.us;simp only[Jb,aF,bD,cM,aC,aN,dU,dH,aA,bH];refine⟨_,rfl,.inr ⟨_,rfl,?_⟩⟩;rw[List.map_map];refine BU (pr:=fun u=>decide (u∈us)) (oV k n).2 (fun v Q' hv hq=>?_) ?_
  ·simp[mf,Of]
   by_cases c:v∈us<;>simp[c]at hq ⊢<;>exact hq
  ·simp;refine h _ _ (keep G) ?_;unfold BM;refine List.filter_congr fun u hu=>?_;rw[Bool.eq_iff_iff,Ml,decide_eq_true_iff,iff]
   constructor
   ·rintro⟨p,hp,q⟩;exact⟨p.1,((hd p).mp hp).1,p.2,((hd p).mp hp).2,q⟩
   ·rintro⟨z,h1,w,h2,q⟩;exact⟨(z,w),(hd (z,w)).mpr ⟨h1,h2⟩,q⟩
 ·rintro x rest K d m' ⟨zd,zt,e1,e2,⟨o6,o7,o8,rfl⟩,done,G,dl,hd⟩ hK
  cases zt with
  | nil=>simp at e2
  | cons z zt =>
   obtain⟨rfl,rfl⟩:=List.cons.inj e2;have hzz:z∈WS k l:=hz z (by rw[e1];simp)
   have zdl:zd.length<=12:=by have:=congrArg List.length e1;simp at this;omega
   simp only[gN,My,aF,dS,dH,aA];refine⟨_,rfl,.inr ⟨_,rfl,?_⟩⟩;refine vO (fun rest d m'=>∃ wd wt,ws=wd++wt/\rest=(wt.map PyData.str).map .dat/\(∃ o7 o8,d=[some (.cel a),some (.dat (cO k l n)),some (.dat (.tuple (zs.map .str))),some (.dat (.tuple (ws.map .str))),some (.dat (.tuple ((WS k n).map .str))),some (.cel f),some (.dat (.str z)),o7,o8]) /\
     ∃ done,Ga (bC m f (.d [])) m' a c1 c2 f k l n done/\done.length<=13*zd.length+wd.length/\(∀ p,p∈done↔(p.1∈zd/\p.2∈ws)\/(p.1=z/\p.2∈wd))) ?_ ?_ _ _ _ ⟨[],ws,rfl,rfl,⟨_,_,rfl⟩,done,G,by simpa using dl,by simpa using hd⟩
   ·rintro d m' ⟨wd,wt,f1,f2,⟨o7,o8,rfl⟩,done,G,dl,hd⟩;have:wt=[]:=by simpa using f2.symm
    subst this;rw[List.append_nil]at f1;subst f1;refine hK _ _ ⟨zd++[z],zt,by rw[e1];simp,rfl,⟨_,_,_,rfl⟩,done,G,by simp;omega,fun p=>?_⟩
    rw[hd p];simp
    constructor
    ·rintro (⟨q1,q2⟩ | ⟨q1,q2⟩)
     ·exact⟨.inl q1,q2⟩
     ·exact⟨.inr q1,q2⟩
    ·rintro⟨q1 | q1,q2⟩
     ·exact .inl ⟨q1,q2⟩
     ·exact .inr ⟨q1,q2⟩
   ·rintro x rest K2 d m' ⟨wd,wt,f1,f2,⟨o7,o8,rfl⟩,done,G,dl,hd⟩ hK2
    cases wt with
    | nil=>simp at f2
    | cons w wt =>
     obtain⟨rfl,rfl⟩:=List.cons.inj f2;have hww:w∈WS l n:=hw w (by rw[f1];simp)
     have wdl:wd.length<=12:=by have:=congrArg List.length f1;simp at this;omega
     obtain⟨us,mf,nd,sub,iff⟩:=G.us;simp only[gN,List.set_cons_succ,List.set_cons_zero];simp[Hq,mf,PyData.eqv,PyData.canLay0,PyData.depth]
     by_cases c:us.length=(WS k n).length
     ·refine .inr ⟨by omega,?_⟩
      refine h _ _ (keep G) ?_;have fl:=BE nd sub c
      unfold BM;rw[List.filter_eq_self.mpr fun u hu=>?_];rw[Ml];obtain⟨p,hp,q⟩:=(iff u).mp (fl u hu);rcases (hd p).mp hp with⟨q1,q2⟩ | ⟨q1,q2⟩
      ·exact⟨p.1,by rw[e1];simp[q1],p.2,q2,q⟩
      ·exact⟨p.1,by rw[e1,q1];simp,p.2,by rw[f1];simp[q2],q⟩
     ·refine .inl ⟨by omega,?_⟩
      simp only[Jk,aF,dS,dH,qJ,aC,aN,aA];refine⟨_,rfl,a,_,rfl,G.b.ob,rfl,_,rfl,_,rfl,_,rfl,rfl,?_⟩;refine⟨a,c1,c2,done.length,k,l,n,z,w,rfl,hzz,hww,G.b,by omega,fun m2 B2 fr2=>.inr ⟨_,rfl,?_⟩⟩
      have mf2:m2 f=some (.d (us.map tr)):=by rw[fr2 f fc];exact mf
      refine vO (fun rest d m'=>∃ ud ut,BW k l n z w=ud++ut/\rest=(ut.map PyData.str).map .dat/\(∃ o8,d=[some (.cel a),some (.dat (cO k l n)),some (.dat (.tuple (zs.map .str))),some (.dat (.tuple (ws.map .str))),some (.dat (.tuple ((WS k n).map .str))),some (.cel f),some (.dat (.str z)),some (.dat (.str w)),o8]) /\
        (∃ us',m' f=some (.d (us'.map tr))/\us'.Nodup/\(∀ u∈us',u∈WS k n)/\∀ u,u∈us'↔u∈us\/u∈ud)/\∀ b,b≠f->m' b=m2 b) ?_ ?_ _ _ _ ⟨[],_,rfl,rfl,⟨_,rfl⟩,⟨us,mf2,nd,sub,by simp⟩,fun _ _=>rfl⟩
      ·rintro d m' ⟨ud,ut,g1,g2,⟨o8,rfl⟩,⟨us',mf',nd',sub',iff'⟩,fr'⟩;have:ut=[]:=by simpa using g2.symm
       subst this;rw[List.append_nil]at g1;have B3:Bh m' a c1 c2 (done.length+1):=by
        obtain⟨ob,⟨kvs,t1,t2,t3⟩,n1⟩:=B2;exact⟨by rw[fr' a fa.symm];exact ob,⟨kvs,by rw[fr' c1 fc.symm];exact t1,t2,t3⟩,n1⟩
       refine hK2 _ _ ⟨wd++[w],wt,by rw[f1];simp,rfl,⟨_,_,rfl⟩,done++[(z,w)],⟨by simpa using B3,⟨us',mf',nd',sub',fun u=>?_⟩,fun b q1 q2=>?_⟩,by simp;omega,fun p=>?_⟩
       ·rw[iff' u,iff u,<- g1]
        constructor
        ·rintro (⟨p,hp,q⟩ | q)
         ·exact⟨p,by simp[hp],q⟩
         ·exact⟨(z,w),by simp,q⟩
        ·rintro⟨p,hp,q⟩;rcases List.mem_append.mp hp with hp | hp
         ·exact .inl ⟨p,hp,q⟩
         ·simp at hp;subst hp;exact .inr q
       ·rw[fr' b q2,fr2 b q1];exact G.fr b q1 q2
       ·rw[List.mem_append,hd p];simp
        constructor
        ·rintro ((q | q) | q)
         ·exact .inl q
         ·exact .inr ⟨q.1,.inl q.2⟩
         ·subst q;exact .inr ⟨rfl,.inr rfl⟩
        ·rintro (q | ⟨q1,q2 | q2⟩)
         ·exact .inl (.inl q)
         ·exact .inl (.inr ⟨q1,q2⟩)
         ·exact .inr (Prod.ext q1 q2)
      ·rintro x rest K3 d m' ⟨ud,ut,g1,g2,⟨o8,rfl⟩,⟨us',mf',nd',sub',iff'⟩,fr'⟩ hK3
       cases ut with
       | nil=>simp at g2
       | cons u ut =>
        obtain⟨rfl,rfl⟩:=List.cons.inj g2;have hu:u∈BW k l n z w:=by rw[g1];simp
        have ul:us'.length<=13:=Nat.le_trans (Ew nd' sub') (oV k n).2
        simp only[gN,List.set_cons_succ,List.set_cons_zero];simp[Mh,mf',Yq];refine⟨Nat.lt_of_le_of_lt ul (Nat.lt_of_lt_of_le (show 13<1000 by decide) (sz (Nat.le_refl _))),?_⟩
        refine hK3 _ _ ⟨ud++[u],ut,by rw[g1];simp,rfl,⟨_,rfl⟩,⟨lF us' u,bZ,Xq nd',fun v hv=>?_,fun v=>?_⟩,fun b hb=>by rw[bF hb];exact fr' b hb⟩
        ·rcases Oa.mp hv with q | q
         ·exact sub' v q
         ·rw[q];exact j8 u hu
        ·rw[Oa,iff' v];simp[or_assoc]
theorem F4:∀ ds m R,ds.length=mW.length->sD ds m R->sL (EN R) (aW yU ds) m:=by
 rintro ds m R hl ⟨k,l,n,zs,ws,rfl,lz,lw,hz,hw,h⟩;simp only[sL,aF,bD,qJ,tL,aC,aN,aA];refine⟨rfl,fun a ha=>?_⟩;refine⟨a,rfl,bZ,fun c1 c2 m1 h1 h2 fr B=>⟨rfl,?_⟩⟩;refine⟨a,_,rfl,B.ob,rfl,_,rfl,_,rfl,_,rfl,rfl,?_⟩;refine⟨a,c1,c2,k,l,n,zs,ws,rfl,lz,lw,hz,hw,B,fun m2 fr2=>?_⟩;refine h m2 fun c hc=>?_;have ca:c≠a:=by rintro rfl;rw[ha]at hc;cases hc
 have nn:∀ b,bC m a (.o "Behinds" []) b=none->c≠b:=fun b hb e=>by
  subst e;rw[bF ca]at hb;rw[hb]at hc
  cases hc
 have e1:m1 c=m c:=by rw[fr c ca (nn c1 h1) (nn c2 h2),bF ca]
 rw[fr2 c (nn c1 h1) (by rw[e1];exact hc),e1]
theorem u6:∀ z∈cU,cD (cU.map PyData.str) (12-(cU.idxOf z:Int))=some (.str (tn z)):=by
 intro z hz;have h1:cU.idxOf z<cU.length:=List.idxOf_lt_length_iff.mpr hz
 have h2:cU.length=13:=rfl
 obtain⟨k,hk⟩:∃ k,cU.idxOf z=k:=⟨_,rfl⟩;rw[h2,hk]at h1;unfold tn;rw[hk,show(12:Int)-(k:Int)=((12-k:Nat):Int) by omega]
 refine zF ?_;rw[List.getElem?_map,List.getD_eq_getElem?_getD,List.getElem?_eq_getElem (by omega)]
 rfl
theorem y4:∀ ds m R,ds.length=mO.length->qN ds m R->tD (EN R) (aW Fi ds) m:=by
 rintro ds m R hl ⟨z,rfl,hz,h⟩;have q:=u6 z hz
 unfold tD;simp only[aF,bD,aL,aH,wK,xI,aA,aW];refine⟨_,rfl,z,rfl,hz,?_⟩;exact⟨_,q,h⟩
theorem Qq:∀ ds m R,ds.length=kY.length->pV ds m R->vL (EN R) (aW yG ds) m:=by
 rintro ds m R hl ⟨zs,rfl,hz,hn,h⟩;unfold vL;simp only[aF,bD,cM,aC,aN,dU,uM,aA,aW];refine⟨_,rfl,_,rfl,?_⟩;refine tZ (fun rest acc d m'=>m'=m/\(∃ o,d=[o])/\∃ done todo,zs.reverse=done++todo/\rest=todo.map (fun z=>.dat (.str z))/\acc=(done.map tn).map .str) ?_ ?_ _ _ _ _ ⟨rfl,⟨none,rfl⟩,[],zs.reverse,rfl,by rw[<- List.map_reverse,List.map_map];rfl,rfl⟩
 ·rintro acc d m' ⟨rfl,_,done,todo,e1,e2,rfl⟩;have e3:todo=[]:=by simpa using e2.symm
  subst e3;rw[List.append_nil]at e1;simp only[gF];rw[<- e1];exact h
 ·rintro x xs acc d m' k ⟨rfl,⟨o,rfl⟩,done,todo,e1,e2,rfl⟩ hk
  cases todo with
  | nil=>simp at e2
  | cons z todo =>
   obtain⟨rfl,rfl⟩:=List.cons.inj e2;have hzz:z∈zs:=by
    rw[<- List.mem_reverse,e1];simp
   have hln:done.length<100:=by
    have:=congrArg List.length e1
    simp at this;omega
   simp only[gN,dW,if_true,bA,aC,aN,aA];refine⟨_,rfl,rfl,z,rfl,hz z hzz,_,rfl,by rw[List.length_map,List.length_map];exact Nat.lt_of_lt_of_le hln (sz (by decide)),hk _ _ _ ⟨rfl,⟨_,rfl⟩,done++[z],todo,by rw[e1];simp,rfl,by simp⟩⟩
theorem uY:∀ z∈cU,tn (tn z)=z:=by decide +kernel
end K39
namespace K39
open PySem PySem.Spec PyProof.Rows L2 DL K01
theorem fJ{c:Bool}{a b:Prop}(e:c=true)(h:a):if c=true then a else b:=by rw[if_pos e];exact h
theorem cW{c:Bool}{a b:Prop}(e:c=false)(h:b):if c=true then a else b:=by rw[if_neg (by rw[e];decide)];exact h
theorem w5:∀ ds m R,ds.length=lQ.length->oQ ds m R->Bm (EN R) (aW xU ds) m:=by
 rintro ds m R hl ⟨k,l,z,x,y,rfl,hz,hx,hy,h⟩;have ck:=eN k
 have cl:=eN l
 have lz:=oP k l z hz
 have lt:x*aM l+y<(WB k l z).length:=by
  rw[lz];have:(x+1)*aM l<=aM k*aM l:=Nat.mul_le_mul_right _ hx
  rw[Nat.add_mul]at this;omega
 refine⟨_,rfl,_,rfl,rfl,k,l,z,rfl,eP k l z hz,?_⟩;refine⟨_,rfl,_,rfl,_,Gy _ _ _,kd l,.int (aM l),rfl,oG l,sB (Ay (by omega) (by omega)),_,rfl,.int (dP k l x y z),?_,h⟩
 rw[show((x:Int)*(aM l:Int)+(y:Int))=((x*aM l+y:Nat):Int) by simp]
 refine zF ?_;rw[List.getElem?_map,List.getElem?_eq_getElem lt];simp[dP,lt]
theorem J4:∀ k l:Bool,∀ z∈WS k l,∀ i∈WB k l z,i∈([0,1,-1]:List Int):=by intro k l;cases k<;>cases l<;>decide +kernel
theorem Kc{k l:Bool}{x y:Nat}{z:Str}(hz:z∈WS k l)(hx:x<aM k)(hy:y<aM l):dP k l x y z∈([0,1,-1]:List Int):=by
 have lt:x*aM l+y<(WB k l z).length:=by
  rw[oP k l z hz];have:(x+1)*aM l<=aM k*aM l:=Nat.mul_le_mul_right _ hx
  rw[Nat.add_mul]at this;omega
 refine J4 k l z hz _ ?_;simp[dP,lt]
theorem X0:∀ ds m R,ds.length=mS.length->pC ds m R->Dz (EN R) (aW Ey ds) m:=by
 rintro ds m R hl ⟨k,l,zs,x,y,rfl,hz,hx,hy,h⟩;refine⟨_,rfl,.inr ⟨_,rfl,?_⟩⟩;have key:∀ (todo:List Str) (acc:List Int) (o:Option D),(∀ z∈todo,z∈WS k l)->R (.dat (.tuple ((dM (todo.foldl (fun acc z=>bW acc (dP k l x y z)) acc)).map .int))) m ->
   eZ (gN 0) dW (fun d m zs Q=>bA 4 oQ (aC (aA 1) (aC (aA 0) (aC (aA 2) (aC (aA 3) aN)))) d m fun x m1=>∃ z,tF x z/\Q (bW zs z) m1) ((todo.map .str).map .dat) acc [o,some (.dat (dF k l)),some (I x),some (I y)] m fun zs m2=>R (.dat (.tuple ((dM zs).map .int))) m2:=by
  intro todo
  induction todo with
  | nil=>exact fun acc o _ h=>h
  | cons z todo ih =>
   intro acc o ha h;have hz:=ha z List.mem_cons_self
   refine⟨_,rfl,_,rfl,_,rfl,_,rfl,rfl,k,l,z,x,y,rfl,hz,hx,hy,dP k l x y z,⟨rfl,Kc hz hx hy⟩,?_⟩;exact ih _ _ (fun w hw=>ha w (List.mem_cons_of_mem _ hw)) h
 have:=key zs [] none hz h
 exact this
theorem i0:∀ ds m R,ds.length=lV.length->nV ds m R->Dk (EN R) (aW Dt ds) m:=by
 rintro ds m R hl ⟨s,rfl,h⟩;refine⟨_,rfl,_,rfl,s,rfl,_,rfl,?_⟩;unfold aY at h
 by_cases c:-1∈s
 ·refine fJ (decide_eq_true c) ⟨_,rfl,s,rfl,_,rfl,?_⟩
  by_cases d:1∈s
  ·rw[if_pos ⟨c,d⟩]at h;exact fJ (decide_eq_true d) ⟨_,rfl,_,rfl,sz (by decide),h⟩
  ·rw[if_neg fun q=>d q.2]at h;exact cW (decide_eq_false d) ⟨_,rfl,h⟩
 ·rw[if_neg fun q=>c q.1]at h;exact cW (decide_eq_false c) (cW rfl ⟨_,rfl,h⟩)
end K39
namespace K39
open PySem PySem.Spec PyProof.Rows L2 DL K01
theorem O0:∀ ds m R,ds.length=mY.length->rX ds m R->Fe (EN R) (aW zS ds) m:=by
 rintro ds m R hl ⟨k,l,zs,rfl,hz,h⟩;have ck:=eN k
 have cl:=eN l
 have one:∀ (x y:Nat) (Q:DK),x<aM k->y<aM l->Q (.dat (.tuple ((aY (bY k l zs x y)).map .int))) m->bA 1 nV (aC (bA 4 pC (aC (aA 2) (aC (aA 3) (aC (aA 0) (aC (aA 1) aN))))) aN)
   [some (I x),some (I y),some (.dat (dF k l)),some (.dat (.tuple (zs.map .str)))] m Q:=fun x y Q hx hy hq =>
  ⟨_,rfl,_,rfl,_,rfl,_,rfl,rfl,k,l,zs,x,y,rfl,hz,hx,hy,rfl,_,rfl,hq⟩
 refine⟨_,rfl,_,Kz _ _,kd k,.int (aM k),rfl,oG k,(aM k:Int),rfl,by omega,by omega,?_⟩
 show bX _ (cV 0 (aM k)) [] [none,none,some (.dat (dF k l)),some (.dat (.tuple (zs.map .str)))] m _
 refine wO (n:=aM k) (fun i acc d m'=>m'=m/\acc=(((List.range i).map fun x=>(List.range (aM l)).map fun y=>aY (bY k l zs x y)).flatten).map (fun s=>PyData.tuple (s.map .int))/\∃ o0 o1,d=[o0,o1,some (.dat (dF k l)),some (.dat (.tuple (zs.map .str)))]) ?_ ?_ _ _ _ ⟨rfl,rfl,_,_,rfl⟩
 ·rintro acc d m' ⟨rfl,rfl,_⟩;exact h
 ·rintro x acc d m' K hx ⟨rfl,rfl,o0,o1,rfl⟩ hK;refine⟨_,rfl,_,Gy _ _ _,kd l,.int (aM l),rfl,oG l,(aM l:Int),rfl,by omega,by omega,?_⟩
  show bX _ (cV 0 (aM l)) _ [some (I x),o1,some (.dat (dF k l)),some (.dat (.tuple (zs.map .str)))] m' _
  refine wO (n:=aM l) (fun j acc d m''=>m''=m'/\acc=((((List.range x).map fun x=>(List.range (aM l)).map fun y=>aY (bY k l zs x y)).flatten)++(List.range j).map fun y=>aY (bY k l zs x y)).map (fun s=>PyData.tuple (s.map .int))/\∃ o1,d=[some (I x),o1,some (.dat (dF k l)),some (.dat (.tuple (zs.map .str)))]) ?_ ?_ _ _ _ ⟨rfl,by simp,_,rfl⟩
  ·rintro acc d m'' ⟨rfl,rfl,o1,rfl⟩;refine hK _ _ _ ⟨rfl,?_,_,_,rfl⟩;rw[List.range_succ];simp
  ·rintro y acc d m'' K2 hy ⟨rfl,rfl,o1,rfl⟩ hK2;have al:((((List.range x).map fun x=>(List.range (aM l)).map fun y=>aY (bY k l zs x y)).flatten)++(List.range y).map fun y=>aY (bY k l zs x y)).length<=10:=by
    have q:=sF (fun x y=>aY (bY k l zs x y)) cl.2 x
    rw[List.length_append,List.length_map,List.length_range];exact Nat.le_trans (Nat.add_le_add (show _<=2*x from q) (Nat.le_of_lt hy)) (by omega)
   refine one x y _ hx hy ⟨_,rfl,?_,hK2 _ _ _ ⟨rfl,?_,_,rfl⟩⟩
   ·rw[List.length_map];exact Nat.lt_of_lt_of_le (Nat.lt_of_le_of_lt al (by decide)) (sz (n:=11) (by decide))
   ·rw[List.range_succ];simp
theorem Uu(k l:Bool)(zs:List Str):(cT k l zs).length<=4:=by
 have q:=sF (fun x y=>aY (bY k l zs x y)) (eN l).2 (aM k)
 have:=eN k
 exact Nat.le_trans (show(cT k l zs).length<=2*aM k from q) (by omega)
theorem Ic{ws:List Int}{ss:List (List Int)}{m:Mu}{Q:List PyData->Mu->Prop}:∀ (ps:List (Int×List Int)) (acc:List Bool) (o0 o1:Option D),acc.length+ps.length<=100->Q ((acc++ps.map fun p=>decide (p.1∈p.2)).map .bool) m ->
  cA (gT 2 (cQ (gN 0) (cQ (gN 1) fY))) dW (aL jV (aA 0) (aA 1)) (ps.map fun p=>.dat (.tuple [.int p.1,.tuple (p.2.map .int)])) (acc.map .bool) [o0,o1] m Q
 | [],acc,o0,o1,_,h=>by rw[List.map_nil,List.append_nil]at h;exact h
 | p::ps,acc,o0,o1,hl,h=>by
  refine⟨_,rfl,rfl,rfl,_,rfl,_,rfl,p.2,rfl,_,rfl,?_,?_⟩
  ·rw[List.length_map];exact Nat.lt_of_lt_of_le (by simp at hl;omega:acc.length<101) (sz (by decide))
  ·have:=Ic (ws:=ws) (ss:=ss) (m:=m) (Q:=Q) ps (acc++[decide (p.1∈p.2)]) (some (I p.1)) (some (.dat (.tuple (p.2.map .int)))) (by simp at hl ⊢;omega) (by simpa using h)
   rw[List.map_append]at this;exact this
theorem AY:∀ ds m R,ds.length=jO.length->mJ ds m R->Dj (EN R) (aW Fl ds) m:=by
 rintro ds m R hl ⟨k,l,zs,rfl,hz,h⟩;refine⟨_,rfl,_,rfl,rfl,k,l,zs,rfl,hz,?_⟩;refine⟨_,rfl,rfl,k,l,rfl,.inr ⟨_,rfl,?_⟩⟩;have key:∀ (done todo:List Str) (o:Option D),done++todo=WS k l->cA (gN 0) (bG (cM wN (aC (dU [none,none] (vR (bA 2 dY (aC (aA 1) (aC (aA 0) aN))) (aA 2)) (gT 2 (cQ (gN 0) (cQ (gN 1) fY))) dW (aL jV (aA 0) (aA 1))) aN))) (aA 0) ((todo.map .str).map .dat)
   ((done.filter fun z=>((WB k l z).zip (cT k l zs)).all fun p=>decide (p.1∈p.2)).map .str) [o,some (.dat (dF k l)),some (.dat (.list ((cT k l zs).map fun s=>.tuple (s.map .int))))] m fun ps m2=>R (.dat (.tuple ps)) m2:=by
  intro done todo
  induction todo generalizing done with
  | nil =>
   intro o e;rw[List.append_nil]at e;subst e;exact h
  | cons z todo ih =>
   intro o e;have hzw:z∈WS k l:=by rw[<- e];simp
   refine⟨_,rfl,_,rfl,rfl,k,l,z,rfl,eP k l z hzw,_,rfl,(WB k l z).map .int,(cT k l zs).map fun s=>.tuple (s.map .int),rfl,rfl,?_⟩;have ez:((((WB k l z).map PyData.int).zip ((cT k l zs).map fun s=>PyData.tuple (s.map .int))).map fun q=>D.dat (.tuple [q.1,q.2]))=((WB k l z).zip (cT k l zs)).map fun p=>.dat (.tuple [.int p.1,.tuple (p.2.map .int)]):=by
    rw[List.zip_map,List.map_map];rfl
   rw[ez];refine Ic (ws:=[]) (ss:=[]) _ [] _ _ ?_ ?_
   ·have:=Uu k l zs
    simp[List.length_zip];omega
   refine⟨((WB k l z).zip (cT k l zs)).map fun p=>decide (p.1∈p.2),rfl,_,rfl,?_⟩;have e2:(done++[z])++todo=WS k l:=by rw[<- e];simp
   have e3:(((WB k l z).zip (cT k l zs)).map fun p=>decide (p.1∈p.2)).all id=((WB k l z).zip (cT k l zs)).all fun p=>decide (p.1∈p.2):=by rw[List.all_map];rfl
   have n13:∀ pr:Str->Bool,(done.filter pr).length<=13:=fun pr=>by
    have:=(oV k l).2
    rw[<- e]at this;simp at this;exact Nat.le_trans (List.length_filter_le _ _) (by omega)
   have I2:=ih (done++[z]) (some (.dat (.str z))) e2
   rw[List.filter_append]at I2
   by_cases c:(((WB k l z).zip (cT k l zs)).all fun p=>decide (p.1∈p.2))=true
   ·refine fJ (e3.trans c) ⟨_,rfl,_,rfl,?_,?_⟩
    ·rw[List.length_map];exact Nat.lt_of_le_of_lt (n13 _) (Nat.lt_of_lt_of_le (by decide:13<100) (sz (by decide)))
    ·rw[List.filter_cons_of_pos (by exact c),List.filter_nil,List.map_append]at I2
     exact I2
   ·refine cW (e3.trans (by simpa using c)) ?_
    rw[List.filter_cons_of_neg (by exact c),List.filter_nil,List.append_nil]at I2
    exact I2
 exact key [] (WS k l) none rfl
theorem Cc(k l:Bool):∀ z∈WS k l,PyData.strOk z=true:=fun z hz=>Cr z (eP k l z hz)
end K39
namespace K39
open PySem PySem.Spec PyProof.Rows L2 DL K01
theorem zW{zs:List Str}(h:∀ z∈zs,PyData.strOk z=true):PyData.canLayAll0 (zs.map .str)=true:=by
 induction zs with
 | nil=>simp[PyData.canLayAll0]
 | cons z zs ih =>
  simp only[List.map_cons,PyData.canLayAll0,PyData.canLay0,h z List.mem_cons_self,ih fun y hy=>h y (List.mem_cons_of_mem _ hy),Bool.and_self]
theorem Fm:∀ zs:List Str,PyData.depthAll (zs.map .str)<=1
 | []=>by simp[PyData.depthAll]
 | z::zs=>by
  have:=Fm zs
  simp only[List.map_cons,PyData.depthAll,PyData.depth];omega
theorem Bj:∀ xs ys:List Str,PyData.eqvAll (xs.map .str) (ys.map .str)=decide (xs=ys)
 | [],[]=>by simp[PyData.eqvAll]
 | [],_::_=>by simp[PyData.eqvAll]
 | _::_,[]=>by simp[PyData.eqvAll]
 | x::xs,y::ys=>by
  rw[Bool.eq_iff_iff];simp[PyData.eqvAll,PyData.eqv,Bj xs ys]
theorem V2:∀ ds m R,ds.length=gC.length->jQ ds m R->Bw (EN R) (aW yO ds) m:=by
 rintro ds m R hl ⟨k,l,zs,rfl,hz,h⟩;refine⟨_,rfl,_,rfl,rfl,k,l,zs,rfl,hz,_,rfl,?_⟩;refine⟨zW fun z q=>Cc k l z (List.mem_filter.mp q).1,zW fun z q=>Cc k l z (hz z q),?_,?_⟩
 ·have:=Fm (PA k l zs)
  simp only[PyData.depth];omega
 ·have e:PyData.eqv (.tuple ((PA k l zs).map .str)) (.tuple (zs.map .str))=decide (PA k l zs=zs):=by
   rw[<- Bj];simp[PyData.eqv]
  rw[e];exact h
section
variable {ns:List PyData}{i j t:Int}
theorem uN:cR (FD ns i j t) (.inr "cells")=some (.list ns):=rfl
theorem b7:cR (FD ns i j t) (.inr "at")=some (.int i):=rfl
theorem yZ:cR (FD ns i j t) (.inr "left")=some (.int j):=rfl
theorem Dd:cR (FD ns i j t) (.inr "turn")=some (.int t):=rfl
theorem Jj{x:Int}:jT (FD ns i j t) (.inr "left") (.int x)=FD ns i x t:=rfl
end
theorem z4:4<sizeLine:=Nat.lt_of_lt_of_le (by decide:4<100) (sz (by decide))
theorem Yy:∀ ds m R,ds.length=mE.length->sE ds m R->tN (EN R) (aW Fb ds) m:=by
 rintro ds m R hl ⟨ns,rfl,hn,h⟩;simp[tN];intro p hp;refine⟨bZ,h p _ ⟨gH ns none (some 63),0,0,0,?_,by decide,by decide⟩⟩
 rw[bZ,Il];rfl
theorem Ll{n:Int}(h0:0<n)(h1:n<=1000):n.natAbs.log2<9000:=by
 have:n.natAbs<2^10:=by omega
 exact Nat.lt_of_le_of_lt (Nat.log2_le_self _) (by omega)
theorem n9:∀ ds m R,ds.length=jI.length->iG ds m R->Ea (EN R) (aW Ae ds) m:=by
 rintro ds m R hl ⟨a,n,L,rfl,n0,n1,hL,⟨ns,i,j,t,hm,t0,t1⟩,h⟩;have fin:∀ (r:Int) m' (ns':List Int) i' j',0<=r->r<n->m' a=some (.d (FD (ns'.map .int) i' j' (t+1)))->(∀ c,c≠a->m' c=m c)->R (I r) m':=fun r m' ns' i' j' r0 r1 e k =>
  h r m' r0 r1 ⟨⟨ns',i',j',t+1,e,by omega,by omega⟩,fun c hc _=>k c hc⟩
 have nz:n≠0:=by omega
 have m0:∀ x:Int,0<=x.fmod n/\x.fmod n<n:=fun x=>⟨Int.fmod_nonneg_of_pos _ n0,Int.fmod_lt_of_pos _ n0⟩
 refine⟨_,rfl,a,.inr "turn",_,_,rfl,rfl,hm,Dd,_,rfl,a,.inr "turn",_,_,rfl,rfl,rfl,hm,z4,?_⟩;obtain⟨m1,em1⟩:∃ m1,m1=bC m a (.d (FD (ns.map .int) i j (t+1))):=⟨_,rfl⟩;have hm1:m1 a=some (.d (FD (ns.map .int) i j (t+1))):=by rw[em1,bZ]
 have k1:∀ c,c≠a->m1 c=m c:=fun c hc=>by rw[em1,bF hc]
 show Ii (EN R) [some (.cel a),some (I n),none,none,none,none] (bC m a (.d (FD (ns.map .int) i j (t+1))))
 rw[<- em1];refine⟨_,rfl,a,.inr "left",_,_,rfl,rfl,hm1,yZ,_,rfl,nz,?_⟩;refine⟨_,rfl,a,.inr "left",_,_,rfl,rfl,hm1,yZ,_,rfl,?_⟩
 by_cases hj:0<j
 ·refine fJ (decide_eq_true hj) ?_;refine⟨_,rfl,a,.inr "left",_,_,rfl,rfl,hm1,yZ,_,rfl,nz,Ll n0 n1,_,rfl,a,.inr "left",_,_,rfl,rfl,rfl,hm1,z4,_,rfl,?_⟩;exact fin _ _ ns i _ (m0 _).1 (m0 _).2 (by rw[bZ,Jj]) fun c hc=>by rw[bF hc];exact k1 c hc
 ·refine cW (decide_eq_false hj) ?_;refine⟨_,rfl,a,.inr "at",_,_,rfl,rfl,hm1,b7,?_⟩;refine⟨_,rfl,_,rfl,a,.inr "at",_,_,rfl,rfl,rfl,hm1,z4,?_⟩;obtain⟨m2,em2⟩:∃ m2,m2=bC m1 a (.d (FD (ns.map .int) (i+1) j (t+1))):=⟨_,rfl⟩;have hm2:m2 a=some (.d (FD (ns.map .int) (i+1) j (t+1))):=by rw[em2,bZ]
  have k2:∀ c,c≠a->m2 c=m c:=fun c hc=>by rw[em2,bF hc];exact k1 c hc
  have rest:∀ v:Int,Hl (EN R) [some (.cel a),some (I n),some (I (j.fmod n)),some (I i),some (I v),none] m2:=fun v=>by
   have last:Gj (EN R) [some (.cel a),some (I n),some (I (j.fmod n)),some (I i),some (I v),none] m2:=by
    refine⟨_,rfl,by decide,_,rfl,a,.inr "turn",_,_,rfl,rfl,hm2,Dd,?_⟩
    refine⟨sB wZ,Md wZ,by decide,?_⟩
    refine⟨_,rfl,by decide,by decide,_,rfl,a,.inr "turn",_,_,rfl,rfl,hm2,Dd,sB wZ,Md wZ,by decide,?_⟩
    refine⟨_,rfl,by decide,by decide,_,rfl,nz,?_⟩
    exact fin _ m2 ns _ _ (m0 _).1 (m0 _).2 hm2 k2
   refine⟨_,rfl,⟨by decide,by decide,by decide⟩,_,rfl,?_⟩
   by_cases c:(10:Int)^(18:Int).toNat<=v
   ·refine fJ (decide_eq_true c) ⟨_,rfl,_,rfl,a,.inr "cells",_,_,rfl,rfl,hm2,uN,_,rfl,?_⟩
    by_cases d:i<(((ns.map PyData.int).length:Nat):Int)
    ·refine fJ (decide_eq_true d) ⟨_,rfl,_,rfl,nz,Ll n0 n1,_,rfl,a,.inr "left",_,_,rfl,rfl,rfl,hm2,z4,_,rfl,_,rfl,nz,?_⟩;exact fin _ _ ns _ _ (m0 _).1 (m0 _).2 (by rw[bZ,Jj]) fun c hc=>by rw[bF hc];exact k2 c hc
    ·exact cW (decide_eq_false d) last
   ·exact cW (decide_eq_false c) (cW rfl last)
  show Mi (EN R) [some (.cel a),some (I n),some (I (j.fmod n)),some (I i),none,none] (bC m1 a (.d (FD (ns.map .int) (i+1) j (t+1))))
  rw[<- em2];have cl:(PyData.list (ns.map .int)).canLay0=true:=(Dp ns).1
  have cd:(PyData.list (ns.map .int)).depth<=100:=by
   have:=(Dp ns).2
   simp only[PyData.depth];omega
  refine⟨_,rfl,a,.inr "cells",_,_,rfl,rfl,hm2,uN,_,rfl,Nat.zero_le _,cl,rfl,cd,_,rfl,?_⟩
  by_cases en:ns=[]
  ·subst en;exact cW rfl (rest 0)
  ·have ne:PyData.eqv (.list (ns.map .int)) (.list [])=false:=by
    cases ns with
    | nil=>exact absurd rfl en
    | cons x xs=>simp[PyData.eqv,PyData.eqvAll]
   have lp:0<(((ns.map PyData.int).length:Nat):Int):=by
    rw[List.length_map];have:=List.length_pos_iff.mpr en
    omega
   refine fJ (by rw[ne];rfl) ?_
   obtain⟨p,ep,v,rfl⟩:=Kb (xs:=ns.map PyData.int) (P:=fun p=>∃ v:Int,p=.int v) (r:=i.fmod ((ns.map PyData.int).length:Int)) (fun p hp=>by obtain⟨v,_,e⟩:=List.mem_map.mp hp;exact⟨v,e.symm⟩) (Int.fmod_nonneg_of_pos _ lp) (Int.fmod_lt_of_pos _ lp)
   exact⟨_,rfl,a,.inr "cells",_,_,rfl,rfl,hm2,uN,_,rfl,_,rfl,a,.inr "cells",_,_,rfl,rfl,hm2,uN,(by omega),_,ep,rest v⟩
end K39
namespace K39
open PySem PySem.Spec PyProof.Rows L2 DL K01
theorem Eg{k l:Bool}{zs:List Str}{z:Str}(hz:z∈WS k l):(((WB k l z).zip (cT k l zs)).all fun p=>decide (p.1∈p.2))=true ↔ ∀ x y:Nat,x<aM k->y<aM l->dP k l x y z∈aY (bY k l zs x y):=by
 have len:=oP k l z hz
 have wy:∀ x y,dP k l x y z=(WB k l z).getD (x*aM l+y) 0:=fun _ _=>rfl
 simp only[wy];unfold cT
 generalize bY k l zs=S
 generalize WB k l z=W at len ⊢
 cases k<;>cases l
 ·match W,len with
  | [a],_ =>
   constructor
   ·intro h x y hx hy;obtain rfl:x=0:=by simp[aM]at hx;omega
    obtain rfl:y=0:=by simp[aM]at hy;omega
    simpa[aM,List.range_succ] using h
   ·intro h;simpa[aM,List.range_succ] using h 0 0 (by decide) (by decide)
 ·match W,len with
  | [a,b],_ =>
   constructor
   ·intro h x y hx hy;have h:a∈aY (S 0 0)/\b∈aY (S 0 1):=by simpa[aM,List.range_succ] using h
    obtain rfl:x=0:=by simp[aM]at hx;omega
    have:y=0\/y=1:=by simp[aM]at hy;omega
    rcases this with rfl | rfl
    ·exact h.1
    ·exact h.2
   ·intro h;have h0:=h 0 0 (by decide) (by decide)
    have h1:=h 0 1 (by decide) (by decide)
    have h0:a∈aY (S 0 0):=h0
    have h1:b∈aY (S 0 1):=h1
    simp[aM,List.range_succ,h0,h1]
 ·match W,len with
  | [a,b],_ =>
   constructor
   ·intro h x y hx hy;have h:a∈aY (S 0 0)/\b∈aY (S 1 0):=by simpa[aM,List.range_succ] using h
    obtain rfl:y=0:=by simp[aM]at hy;omega
    have:x=0\/x=1:=by simp[aM]at hx;omega
    rcases this with rfl | rfl
    ·exact h.1
    ·exact h.2
   ·intro h;have h0:a∈aY (S 0 0):=h 0 0 (by decide) (by decide)
    have h1:b∈aY (S 1 0):=h 1 0 (by decide) (by decide)
    simp[aM,List.range_succ,h0,h1]
 ·match W,len with
  | [a,b,c,d],_ =>
   constructor
   ·intro h x y hx hy;have h:a∈aY (S 0 0)/\b∈aY (S 0 1)/\c∈aY (S 1 0)/\d∈aY (S 1 1):=by simpa[aM,List.range_succ] using h
    have e1:y=0\/y=1:=by simp[aM]at hy;omega
    have e2:x=0\/x=1:=by simp[aM]at hx;omega
    rcases e1 with rfl | rfl<;>rcases e2 with rfl | rfl
    ·exact h.1
    ·exact h.2.2.1
    ·exact h.2.1
    ·exact h.2.2.2
   ·intro h;have h0:a∈aY (S 0 0):=h 0 0 (by decide) (by decide)
    have h1:b∈aY (S 0 1):=h 0 1 (by decide) (by decide)
    have h2:c∈aY (S 1 0):=h 1 0 (by decide) (by decide)
    have h3:d∈aY (S 1 1):=h 1 1 (by decide) (by decide)
    simp[aM,List.range_succ,h0,h1,h2,h3]
theorem Jd{k l:Bool}{zs:List Str}{z:Str}:z∈PA k l zs↔z∈WS k l/\∀ x y:Nat,x<aM k->y<aM l->dP k l x y z∈aY (bY k l zs x y):=by
 unfold PA;rw[List.mem_filter]
 constructor
 ·rintro⟨a,b⟩;exact⟨a,(Eg a).mp b⟩
 ·rintro⟨a,b⟩;exact⟨a,(Eg a).mpr b⟩
theorem Gf{s:List Int}{a:Int}:a∈dM s↔a∈([-1,0,1]:List Int)/\a∈s:=by
 unfold dM;rw[List.mem_filter,decide_eq_true_iff]
theorem Zt{s:List Int}{a b:Int}:a∈bW s b↔a∈([0,1,-1]:List Int)/\(a∈s\/a=b):=by
 unfold bW;rw[List.mem_filter,decide_eq_true_iff]
theorem Df{f:Str->Int}{a:Int}(ha:a∈([0,1,-1]:List Int)):∀ (zs:List Str) (s:List Int),a∈zs.foldl (fun acc z=>bW acc (f z)) s↔a∈s\/∃ z∈zs,f z=a
 | [],s=>by simp
 | z::zs,s=>by
  rw[List.foldl_cons,Df ha zs,Zt]
  constructor
  ·rintro (⟨_,h | h⟩ | ⟨w,h1,h2⟩)
   ·exact .inl h
   ·exact .inr ⟨z,List.mem_cons_self,h.symm⟩
   ·exact .inr ⟨w,List.mem_cons_of_mem _ h1,h2⟩
  ·rintro (h | ⟨w,h1,h2⟩)
   ·exact .inl ⟨ha,.inl h⟩
   ·rcases List.mem_cons.mp h1 with rfl | h1
    ·exact .inl ⟨ha,.inr h2.symm⟩
    ·exact .inr ⟨w,h1,h2⟩
theorem Lq{k l:Bool}{zs:List Str}{x y:Nat}{a:Int}(hz:∀ z∈zs,z∈WS k l)(hx:x<aM k)(hy:y<aM l):a∈bY k l zs x y ↔ ∃ z∈zs,dP k l x y z=a:=by
 unfold bY;rw[Gf]
 constructor
 ·rintro⟨h1,h2⟩;have ha:a∈([0,1,-1]:List Int):=by simp at h1 ⊢;omega
  rcases (Df ha zs []).mp h2 with h | h
  ·cases h
  ·exact h
 ·rintro⟨z,h1,rfl⟩;have ha:=Kc (hz z h1) hx hy
  exact⟨by simp at ha ⊢;omega,(Df ha zs []).mpr (.inr ⟨z,h1,rfl⟩)⟩
theorem CS{s:List Int}{a:Int}(h:a∈s)(h3:∀ a∈s,a∈([-1,0,1]:List Int)):a∈aY s:=by
 unfold aY
 split
 ·exact h3 a h
 ·exact h
theorem Cg{s t:List Int}(h:∀ a∈s,a∈aY t):∀ a∈aY s,a∈aY t:=by
 intro a ha;unfold aY at ha
 split at ha
 ·rename_i c;have h1:=h _ c.1
  have h2:=h _ c.2
  unfold aY at h1 h2 ⊢
  split
  ·exact ha
  ·rename_i d;rw[if_neg d]at h1 h2;exact absurd ⟨h1,h2⟩ d
 ·exact h a ha
theorem Ot{k l:Bool}{zs:List Str}{x y:Nat}:∀ a∈bY k l zs x y,a∈([-1,0,1]:List Int):=fun a h=>(Gf.mp h).1
theorem Ac{k l:Bool}{zs:List Str}(hs:∃ pr:Str->Bool,zs=(WS k l).filter pr)(B:Nat->Nat->List Int)(h:∀ z∈WS k l,z∈zs ↔ ∀ x y:Nat,x<aM k->y<aM l->dP k l x y z∈aY (B x y)):Pl k l zs:=by
 obtain⟨pr,rfl⟩:=hs;have sub:∀ z∈(WS k l).filter pr,z∈WS k l:=fun z hz=>(List.mem_filter.mp hz).1
 refine⟨sub,?_⟩;unfold PA;refine List.filter_congr fun z hz=>?_;rw[Bool.eq_iff_iff,Eg hz]
 constructor
 ·intro q;refine(List.mem_filter.mp ((h z hz).mpr fun x y hx hy=>?_)).2;refine Cg (s:=bY k l ((WS k l).filter pr) x y) (fun a ha=>?_) _ (q x y hx hy);obtain⟨w,hw,rfl⟩:=(Lq sub hx hy).mp ha;exact(h w (sub w hw)).mp hw x y hx hy
 ·intro q x y hx hy;exact CS ((Lq sub hx hy).mpr ⟨z,List.mem_filter.mpr ⟨hz,q⟩,rfl⟩) Ot
theorem M4{k l:Bool}{zs:List Str}:Pl k l (PA k l zs):=Ac ⟨_,rfl⟩ (fun x y=>bY k l zs x y) fun z hz=>by rw[Jd];exact⟨fun h=>h.2,fun h=>⟨hz,h⟩⟩
theorem Pl.iff{k l:Bool}{zs:List Str}(h:Pl k l zs):∀ z∈WS k l,z∈zs ↔ ∀ x y:Nat,x<aM k->y<aM l->dP k l x y z∈aY (bY k l zs x y):=fun z hz=>by
 have:=Jd (k:=k) (l:=l) (zs:=zs) (z:=z)
 rw[h.2]at this;exact⟨fun q=>(this.mp q).2,fun q=>this.mpr ⟨hz,q⟩⟩
theorem Pl.filt{k l:Bool}{zs:List Str}(h:Pl k l zs):∃ pr:Str->Bool,zs=(WS k l).filter pr:=⟨_,h.2.symm⟩
theorem tS(s t:List Int):∃ u,∀ a,a∈aY u↔a∈aY s/\a∈aY t:=by
 obtain⟨F,e⟩:∃ F:List Int,∀ b,b∈F↔b∈aY s/\b∈aY t:=⟨(aY s).filter fun a=>decide (a∈aY t),fun b=>by rw[List.mem_filter,decide_eq_true_iff]⟩
 refine⟨F,fun a=>?_⟩
 constructor
 ·intro h;exact⟨Cg (fun b hb=>((e b).mp hb).1) a h,Cg (fun b hb=>((e b).mp hb).2) a h⟩
 ·intro h
  by_cases c:-1∈F/\1∈F
  ·have c1:=((e _).mp c.1).1
   have c2:=((e _).mp c.2).1
   have:aY s=[-1,0,1]:=by
    unfold aY at c1 c2 ⊢
    split
    ·rfl
    ·rename_i d;rw[if_neg d]at c1 c2;exact absurd ⟨c1,c2⟩ d
   rw[this]at h;rw[show aY F=[-1,0,1] from if_pos c]
   exact h.1
  ·rw[show aY F=F from if_neg c]
   exact(e a).mpr h
theorem Tq{k l:Bool}{zs ws:List Str}(h:Pl k l zs)(g:Pl k l ws):Pl k l (zs.filter fun z=>decide (z∈ws)):=by
 obtain⟨pr,e⟩:=h.filt;refine Ac ⟨fun z=>decide (z∈ws)&&pr z,by rw[e,List.filter_filter]⟩ (fun x y=>(tS (bY k l zs x y) (bY k l ws x y)).choose) fun z hz=>?_
 rw[List.mem_filter,decide_eq_true_iff,h.iff z hz,g.iff z hz]
 constructor
 ·rintro⟨a,b⟩ x y hx hy;exact((tS (bY k l zs x y) (bY k l ws x y)).choose_spec _).mpr ⟨a x y hx hy,b x y hx hy⟩
 ·intro q;exact⟨fun x y hx hy=>(((tS (bY k l zs x y) (bY k l ws x y)).choose_spec _).mp (q x y hx hy)).1,fun x y hx hy=>(((tS (bY k l zs x y) (bY k l ws x y)).choose_spec _).mp (q x y hx hy)).2⟩
end K39
namespace K39
open PySem PySem.Spec PyProof.Rows L2 DL K01
theorem CG:∀ k l:Bool,WS l k=(WS k l).reverse.map tn:=by decide +kernel
theorem Mm:∀ k l:Bool,∀ z∈WS k l,∀ x∈List.range (aM k),∀ y∈List.range (aM l),dP l k y x (tn z)=- dP k l x y z:=by decide +kernel
theorem BV:∀ k l:Bool,∀ z∈WS k l,tn z∈WS l k:=by decide +kernel
theorem Ks{s:List Int}{a:Int}:a∈aY (s.map fun b=>-b) ↔ -a∈aY s:=by
 have e:∀ b,b∈s.map (fun b=>-b) ↔ -b∈s:=fun b=>by
  rw[List.mem_map]
  constructor
  ·rintro⟨c,h,rfl⟩
   rwa [Int.neg_neg]
  ·exact fun h=>⟨-b,h,Int.neg_neg b⟩
 by_cases c:-1∈s/\1∈s
 ·have c':-1∈s.map (fun b=>-b)/\1∈s.map (fun b=>-b):=⟨(e _).mpr c.2,(e _).mpr c.1⟩
  rw[show aY s=[-1,0,1] from if_pos c,show aY (s.map fun b=>-b)=[-1,0,1] from if_pos c']
  simp;omega
 ·have c':¬ (-1∈s.map (fun b=>-b)/\1∈s.map (fun b=>-b)):=fun q=>c ⟨(e _).mp q.2,(e _).mp q.1⟩
  rw[show aY s=s from if_neg c,show aY (s.map fun b=>-b)=s.map fun b=>-b from if_neg c']
  exact e a
theorem Sx{k l:Bool}{zs:List Str}(h:∀ z∈zs,z∈WS k l):((zs.reverse.map tn).reverse.map tn)=zs:=by
 have e:zs.reverse.map tn=(zs.map tn).reverse:=List.map_reverse
 rw[e,List.reverse_reverse,List.map_map];exact(List.map_congr_left fun z hz=>uY z (eP k l z (h z hz))).trans (List.map_id zs)
theorem K0{k l:Bool}{zs:List Str}(h:∀ z∈zs,z∈WS k l){u:Str}(hu:u∈WS l k):u∈zs.reverse.map tn↔tn u∈zs:=by
 rw[List.mem_map]
 constructor
 ·rintro⟨z,hz,rfl⟩;have hz:=List.mem_reverse.mp hz
  rw[uY z (eP k l z (h z hz))];exact hz
 ·exact fun q=>⟨tn u,List.mem_reverse.mpr q,uY u (eP l k u hu)⟩
theorem L9{k l:Bool}{zs:List Str}(h:Pl k l zs):Pl l k (zs.reverse.map tn):=by
 obtain⟨pr,e⟩:=h.filt;refine Ac ⟨fun u=>pr (tn u),?_⟩ (fun y x=>(bY k l zs x y).map fun b=>-b) fun u hu=>?_
 ·rw[CG k l,List.filter_map,List.filter_reverse,e]
  congr 1
  congr 1
  refine List.filter_congr fun z hz=>?_;show pr z=pr (tn (tn z))
  rw[uY z (eP k l z hz)]
 ·rw[K0 h.1 hu,h.iff _ (BV l k u hu)]
  constructor
  ·intro q y x hy hx;rw[Ks];have:=Mm l k u hu y (List.mem_range.mpr hy) x (List.mem_range.mpr hx)
   rw[<- this];exact q x y hx hy
  ·intro q x y hx hy;have:=Ks.mp (q y x hy hx)
   rw[<- Mm l k u hu y (List.mem_range.mpr hy) x (List.mem_range.mpr hx)]at this;exact this
theorem Fed.next{b n:Int}{m m1 m2:Mu}{a:Addr}(h:Fed b n m m1 a)(q:Fed 1 (n+b) m1 m2 a):Fed (b+1) n m m2 a:=by
 refine⟨by have:=q.1;rwa [Int.add_assoc]at this,fun c hc hs=>?_⟩
 have e:=h.2 c hc hs
 rw[q.2 c hc (by rw[e];exact hs),e]
theorem Fed.refl{n:Int}{m:Mu}{a:Addr}(h:Tp n m a):Fed 0 n m m a:=⟨by simpa using h,fun _ _ _=>rfl⟩
theorem Fed.mono{b c n:Int}{m m1:Mu}{a:Addr}(h:Fed b n m m1 a)(hb:b<=c):Fed c n m m1 a:=by
 obtain⟨⟨ns,i,j,t,e,t0,t1⟩,k⟩:=h;exact⟨⟨ns,i,j,t,e,t0,by omega⟩,k⟩
theorem Bx{a:Addr}{n b L:Int}{m0 m:Mu}{R:DK}(h0:0<n)(hb:n<=1000)(hL:L<=9000000)(hbb:b<=100000)(hf:Fed b L m0 m a)(h:∀ r m',0<=r->r<n->Fed (b+1) L m0 m' a->R (I r) m'):iG [.cel a,I n] m R :=
 ⟨a,n,L+b,rfl,h0,hb,by omega,hf.1,fun r m' r0 r1 q=>h r m' r0 r1 (hf.next q)⟩
theorem Zp:∀ ds m R,ds.length=mQ.length->lK ds m R->Fp (EN R) (aW Fx ds) m:=by
 rintro ds m R hl ⟨a,k,l,L,rfl,hL,ht,h⟩;obtain⟨w1,w2⟩:=oV k l;have lw:(((WS k l).map PyData.str).length:Int)=((WS k l).length:Int):=by rw[List.length_map]
 refine⟨_,rfl,rfl,k,l,rfl,?_⟩;refine⟨_,rfl,_,rfl,rfl,Bx (b:=0) (L:=L) (m0:=m) (n:=(((WS k l).map PyData.str).length:Int)) (by omega) (by omega) hL (by omega) (Fed.refl ht) fun r m1 r0 r1 f1=>?_⟩
 obtain⟨_,e0,z0,rfl,hz0⟩:=Kb (xs:=(WS k l).map PyData.str) (P:=fun p=>∃ z,p=.str z/\z∈WS k l) (r:=r) (fun p hp=>by obtain⟨z,h1,h2⟩:=List.mem_map.mp hp;exact⟨z,h2.symm,h1⟩) r0 r1
 refine⟨_,rfl,.inr ⟨_,rfl,?_⟩⟩;have key:∀ (todo sel:List Str) (b:Int) (o:Option D) m',(∀ z∈todo,z∈WS k l)->(∀ z∈sel,z∈WS k l)->0<=b->b+todo.length<=20->sel.length+todo.length<=13->Fed b L m m' a ->
   cA (gN 0) (lS (bG (aL eE (aA 0) (aL cZ (aA 2) (aA 3)))) (bG (aL eE (bA 2 iG (aC (aA 1) (aC (aH (.int 5)) aN))) (aH (.int 0))))) (aA 0) ((todo.map .str).map .dat) (sel.map .str)
    [o,some (.cel a),some (.dat (.tuple ((WS k l).map .str))),some (I r)] m' fun ps m2=>Hu (EN R) [some (.cel a),some (.dat (dF k l)),some (.dat (.tuple ((WS k l).map .str))),some (I r),some (.dat (.tuple ps))] m2:=by
  intro todo
  induction todo with
  | nil =>
   intro sel b o m' _ hs b0 bl _ hf;refine⟨_,rfl,_,rfl,rfl,k,l,sel,rfl,hs,?_⟩;exact h _ m' M4 (hf.mono (by simpa using bl))
  | cons z todo ih =>
   intro sel b o m' hd hs b0 bl sl hf;have hz:=hd z List.mem_cons_self
   have hd':=fun w hw=>hd w (List.mem_cons_of_mem _ hw)
   have bl:b+(todo.length+1:Nat)<=20:=bl
   have sl:sel.length+(todo.length+1)<=13:=sl
   have sz3:(sel.map PyData.str).length<sizeLine:=by
    rw[List.length_map];exact Nat.lt_of_lt_of_le (by omega:sel.length<100) (sz (by decide))
   have put:∀ b' m',0<=b'->b'<=b+1->Fed b' L m m' a->_:=fun b' m' q0 q1 hf'=>ih (sel++[z]) b' (some (.dat (.str z))) m' hd' (fun w hw=>(List.mem_append.mp hw).elim (hs w) fun q=>by rw[List.mem_singleton.mp q];exact hz) q0 (by omega) (by simp;omega) hf'
   refine⟨_,rfl,_,rfl,_,rfl,_,e0,_,rfl,?_⟩
   by_cases c:z=z0
   ·refine fJ (decide_eq_true c) (fJ rfl ⟨_,rfl,_,rfl,sz3,?_⟩);have:=put b m' b0 (by omega) hf
    rw[List.map_append]at this;exact this
   ·refine cW (decide_eq_false c) ⟨_,rfl,rfl,Bx (n:=5) (by decide) (by decide) hL (by omega) hf fun q m2 q0 q1 f2=>?_⟩
    refine⟨rfl,rfl,Nat.zero_le _,_,rfl,?_⟩
    cases d:PyData.eqv (.int q) (.int 0) with
    | true =>
     refine fJ rfl ⟨_,rfl,_,rfl,sz3,?_⟩;have:=put (b+1) m2 (by omega) (by omega) f2
     rw[List.map_append]at this;exact this
    | false=>exact cW rfl (ih sel (b+1) _ m2 hd' hs (by omega) (by omega) (by omega) f2)
 exact key (WS k l) [] 1 none m1 (fun z hz=>hz) (fun z hz=>nomatch hz) (by decide) (by omega) (by simp;omega) f1
end K39
namespace K39
open PySem PySem.Spec PyProof.Rows L2 DL K01
def cK(zs:List Str):List Str->Nat
 | []=>0
 | w::r=>(if w∈zs then 1 else 0)+2*cK zs r
def iL:List (List Int):=[[],[-1],[0],[1],[-1,0],[0,1],[-1,0,1]]
def nS(w:List Int)(S:List (List Int)):Bool:=(w.zip S).all fun p=>decide (p.1∈p.2)
def lJ(S:List (List Int)):List (List Int)->Nat
 | []=>0
 | w::r=>(if nS w S=true then 1 else 0)+2*lJ S r
def kX:List Str->Nat->List Str
 | [],_=>[]
 | w::r,m=>if m%2=1 then w::kX r (m / 2) else kX r (m / 2)
def mZ:List Nat->Nat->Nat
 | [],_=>0
 | t::r,q=>(if q%2=1 then t else 0) ||| mZ r (q / 2)
def eY:List (List Nat)->Nat->Nat->Nat
 | [],_,_=>0
 | t::r,p,q=>(if p%2=1 then mZ t q else 0) ||| eY r (p / 2) q
def bK:Bool->Bool->List Nat
 | false,false=>[0,1,2,3,4,6,7]
 | false,true=>[0,1,2,3,4,6,7,8,12,14,15,16,24,28,30,31]
 | true,false=>[0,1,2,3,4,6,7,8,12,14,15,16,24,28,30,31]
 | true,true=>[0,1,2,3,4,6,7,8,12,14,15,16,24,28,30,31,32,48,64,72,96,120,128,132,134,135,192,204,206,207,224,252,254,255,256,384,388,390,391,512,576,584,768,960,972,974,975,1024,1056,1072,1536,1632,1656,1792,2016,2044,2046,2047,2048,3072,3104,3120,3584,3680,3704,3840,4064,4092,4094,4095,4096,6144,7168,7200,7216,7680,7776,7800,7936,8160,8188,8190,8191]
def rQ:Bool->Bool->List (List Int)
 | false,false=>[[-1],[0],[1]]
 | false,true=>[[-1,-1],[0,-1],[1,-1],[1,0],[1,1]]
 | true,false=>[[-1,-1],[-1,0],[-1,1],[0,1],[1,1]]
 | true,true=>[[-1,-1,-1,-1],[-1,-1,0,-1],[-1,-1,1,-1],[0,-1,1,-1],[1,-1,1,-1],[1,-1,1,0],[0,-1,1,0],[-1,-1,1,0],[-1,-1,1,1],[0,-1,1,1],[1,-1,1,1],[1,0,1,1],[1,1,1,1]]
def TL:Bool->Bool->Bool->List (List Nat)
 | false,false,false=>[[1,1,7],[1,2,4],[7,4,4]]
 | false,false,true=>[[1,1,7,7,31],[1,2,4,8,16],[31,28,28,16,16]]
 | false,true,false=>[[1,1,1,1,7],[1,1,1,2,4],[1,1,7,4,4],[1,2,4,4,4],[7,4,4,4,4]]
 | false,true,true=>[[1,1,1,1,7,7,1,1,1,1,7,7,31],[1,1,1,2,4,4,2,1,1,2,4,8,16],[1,1,7,4,4,4,4,7,31,28,28,16,16],[1,2,4,4,4,8,8,8,16,16,16,16,16],[31,28,28,28,28,16,16,16,16,16,16,16,16]]
 | true,false,false=>[[1,1,31],[1,2,28],[7,4,28],[7,8,16],[31,16,16]]
 | true,false,true=>[[1,1,31,31,8191],[1,2,28,224,7936],[391,388,2044,1792,7936],[391,584,1072,2048,4096],[8191,7216,7216,4096,4096]]
 | true,true,false=>[[1,1,1,1,31],[1,1,1,2,28],[1,1,7,4,28],[1,1,7,8,16],[1,1,31,16,16],[1,2,28,16,16],[1,2,4,8,16],[1,2,4,4,28],[7,4,4,4,28],[7,4,4,8,16],[7,4,28,16,16],[7,8,16,16,16],[31,16,16,16,16]]
 | true,true,true=>[[1,1,1,1,31,31,1,1,1,1,31,31,8191],[1,1,1,2,28,28,2,1,1,2,28,224,7936],[1,1,7,4,28,28,4,7,391,388,2044,1792,7936],[1,1,7,8,16,16,8,7,391,584,1072,2048,4096],[1,1,31,16,16,16,16,31,8191,7216,7216,4096,4096],[1,2,28,16,16,32,32,224,7936,7168,7168,4096,4096],[1,2,4,8,16,32,64,128,256,512,1024,2048,4096],[1,2,4,4,28,224,128,128,256,256,1792,1792,7936],[391,388,388,388,2044,1792,256,256,256,256,1792,1792,7936],[391,388,388,584,1072,1024,512,256,256,512,1024,2048,4096],[391,388,2044,1072,1072,1024,1024,1792,7936,7168,7168,4096,4096],[391,584,1072,1072,1072,2048,2048,2048,4096,4096,4096,4096,4096],[8191,7216,7216,7216,7216,4096,4096,4096,4096,4096,4096,4096,4096]]
theorem U9:∀ k l,(WS k l).map (WB k l)=rQ k l:=by decide +kernel
theorem Uy:∀ k l n,(WS k l).map (fun z=>(WS l n).map fun w=>cK (BW k l n z w) (WS k n))=TL k l n:=by decide +kernel
theorem AG:∀ k l,((bK k l).all fun m=>cK (PA k l (kX (WS k l) m)) (WS k l)==m)=true:=by decide +kernel
theorem Wo:∀ k l n,(k&&l&&n)=false->((bK k l).all fun p=>(bK l n).all fun q=>(bK k n).contains (eY (TL k l n) p q))=true:=by decide +kernel
theorem x8:((((bK true true).drop 0).take 14).all fun p=>(bK true true).all fun q=>(bK true true).contains (eY (TL true true true) p q))=true:=by decide +kernel
theorem L7:((((bK true true).drop 14).take 14).all fun p=>(bK true true).all fun q=>(bK true true).contains (eY (TL true true true) p q))=true:=by decide +kernel
theorem F5:((((bK true true).drop 28).take 14).all fun p=>(bK true true).all fun q=>(bK true true).contains (eY (TL true true true) p q))=true:=by decide +kernel
theorem Y4:((((bK true true).drop 42).take 14).all fun p=>(bK true true).all fun q=>(bK true true).contains (eY (TL true true true) p q))=true:=by decide +kernel
theorem Sj:((((bK true true).drop 56).take 14).all fun p=>(bK true true).all fun q=>(bK true true).contains (eY (TL true true true) p q))=true:=by decide +kernel
theorem Zr:((((bK true true).drop 70).take 14).all fun p=>(bK true true).all fun q=>(bK true true).contains (eY (TL true true true) p q))=true:=by decide +kernel
theorem t5:(iL.all fun a=>(bK false false).contains (lJ [a] (rQ false false)))=true:=by decide +kernel
theorem Zn:(iL.all fun a=>iL.all fun b=>(bK false true).contains (lJ [a,b] (rQ false true))&&(bK true false).contains (lJ [a,b] (rQ true false)))=true:=by decide +kernel
theorem BN:(iL.all fun a=>iL.all fun b=>iL.all fun c=>iL.all fun d=>(bK true true).contains (lJ [a,b,c,d] (rQ true true)))=true:=by decide +kernel
end K39
namespace K39
open PySem PySem.Spec PyProof.Rows L2 DL K01
theorem uB{b m:Nat}(hb:b<=1):(b+2*m)%2=b/\(b+2*m) / 2=m:=by omega
theorem jH{c:Prop}[Decidable c]:(if c then 1 else 0:Nat)<=1/\((if c then 1 else 0:Nat)=1↔c):=by
 split<;>simp[*]
theorem zI(zs:List Str):∀ Ws:List Str,kX Ws (cK zs Ws)=Ws.filter fun w=>decide (w∈zs)
 | []=>rfl
 | w::r=>by
  obtain⟨h1,h2⟩:=uB (b:=if w∈zs then 1 else 0) (m:=cK zs r) jH.1
  unfold cK kX;rw[h1,h2,zI zs r]
  by_cases c:w∈zs
  ·rw[if_pos (jH.2.mpr c),List.filter_cons_of_pos (by simpa using c)]
  ·rw[if_neg (fun q=>c (jH.2.mp q)),List.filter_cons_of_neg (by simpa using c)]
theorem Ig{Ws zs:List Str}{pr:Str->Bool}(e:zs=Ws.filter pr):Ws.filter (fun w=>decide (w∈zs))=zs:=by
 rw[e];refine List.filter_congr fun w hw=>?_;rw[Bool.eq_iff_iff,decide_eq_true_iff,List.mem_filter];exact⟨fun h=>h.2,fun h=>⟨hw,h⟩⟩
theorem Nx{a b r:Nat}:(a ||| b).testBit r=true↔a.testBit r=true\/b.testBit r=true:=by
 rw[Nat.testBit_or,Bool.or_eq_true]
theorem Gq{c:Prop}[Decidable c]{t r:Nat}:(if c then t else 0).testBit r=true↔c/\t.testBit r=true:=by
 split<;>simp[*]
theorem Ky{f:Str->Nat}{ws:List Str}{r:Nat}:∀ Ws:List Str,(mZ (Ws.map f) (cK ws Ws)).testBit r=true ↔ ∃ w∈Ws,w∈ws/\(f w).testBit r=true
 | []=>by simp[mZ]
 | w::s=>by
  obtain⟨h1,h2⟩:=uB (b:=if w∈ws then 1 else 0) (m:=cK ws s) jH.1
  rw[List.map_cons];unfold cK mZ;rw[h1,h2,Nx,Gq,Ky s,jH.2];simp
theorem Jg{f:Str->List Nat}{zs:List Str}{q r:Nat}:∀ Zs:List Str,(eY (Zs.map f) (cK zs Zs) q).testBit r=true ↔ ∃ z∈Zs,z∈zs/\(mZ (f z) q).testBit r=true
 | []=>by simp[eY]
 | z::s=>by
  obtain⟨h1,h2⟩:=uB (b:=if z∈zs then 1 else 0) (m:=cK zs s) jH.1
  rw[List.map_cons];unfold cK eY;rw[h1,h2,Nx,Gq,Jg s,jH.2];simp
theorem Cp{zs:List Str}:∀ (Ws:List Str) (r:Nat),(cK zs Ws).testBit r=true ↔ ∃ w,Ws[r]?=some w/\w∈zs
 | [],r=>by simp[cK]
 | w::s,r=>by
  obtain⟨h1,h2⟩:=uB (b:=if w∈zs then 1 else 0) (m:=cK zs s) jH.1
  unfold cK
  cases r with
  | zero =>
   rw[Nat.testBit_zero,h1,decide_eq_true_iff,jH.2];simp
  | succ r =>
   rw[Nat.testBit_succ,h2,Cp s r];simp
theorem G3{k l n:Bool}{zs ws:List Str}(hz:∀ z∈zs,z∈WS k l)(hw:∀ w∈ws,w∈WS l n):cK (BM k l n zs ws) (WS k n)=eY (TL k l n) (cK zs (WS k l)) (cK ws (WS l n)):=by
 refine Nat.eq_of_testBit_eq fun r=>?_;rw[Bool.eq_iff_iff,<- Uy,Jg,Cp];simp only[Ky,Cp]
 constructor
 ·rintro⟨u,e,hu⟩;unfold BM at hu;rw[List.mem_filter,List.any_eq_true]at hu;obtain⟨_,z,h1,h2⟩:=hu;rw[List.any_eq_true]at h2;obtain⟨w,h3,h4⟩:=h2;exact⟨z,hz z h1,h1,w,hw w h3,h3,u,e,of_decide_eq_true h4⟩
 ·rintro⟨z,_,h1,w,_,h3,u,e,h4⟩;refine⟨u,e,?_⟩;unfold BM;rw[List.mem_filter,List.any_eq_true];refine⟨List.mem_of_getElem? e,z,h1,?_⟩;rw[List.any_eq_true];exact⟨w,h3,decide_eq_true h4⟩
theorem Hv{k l:Bool}{S:List (List Int)}:∀ Ws:List Str,(∀ w∈Ws,w∈WS k l)->cK ((WS k l).filter fun z=>nS (WB k l z) S) Ws=lJ S (Ws.map (WB k l))
 | [],_=>rfl
 | w::r,h=>by
  rw[List.map_cons];unfold cK lJ;rw[Hv r fun x hx=>h x (List.mem_cons_of_mem _ hx)];have:w∈(WS k l).filter (fun z=>nS (WB k l z) S)↔nS (WB k l w) S=true:=by
   rw[List.mem_filter];exact⟨fun q=>q.2,fun q=>⟨h w List.mem_cons_self,q⟩⟩
  by_cases c:nS (WB k l w) S=true
  ·rw[if_pos (this.mpr c),if_pos c]
  ·rw[if_neg fun q=>c (this.mp q),if_neg c]
theorem Tx(s:List Int):aY (dM s)∈iL:=by
 unfold dM
 by_cases a:(-1:Int)∈s<;>by_cases b:(0:Int)∈s<;>by_cases c:(1:Int)∈s<;>simp[List.filter_cons,a,b,c,iL,aY]
theorem Uw(k l:Bool)(zs:List Str):∀ s∈cT k l zs,s∈iL:=by
 intro s hs;unfold cT at hs;obtain⟨r,h1,h2⟩:=List.mem_flatten.mp hs;obtain⟨x,_,rfl⟩:=List.mem_map.mp h1;obtain⟨y,_,rfl⟩:=List.mem_map.mp h2;exact Tx _
theorem Ul(k l:Bool)(zs:List Str):(cT k l zs).length=aM k*aM l:=by cases k<;>cases l<;>rfl
theorem Nk{k l:Bool}{zs:List Str}(h:Pl k l zs):cK zs (WS k l)∈bK k l:=by
 have e:=Hv (k:=k) (l:=l) (S:=cT k l zs) (WS k l) fun _ q=>q
 rw[U9]at e;have e2:((WS k l).filter fun z=>nS (WB k l z) (cT k l zs))=zs:=h.2
 rw[e2]at e;rw[e];have hl:=Ul k l zs
 have hi:=Uw k l zs
 generalize cT k l zs=S at hl hi
 have a1:=t5
 have a2:=Zn
 have a4:=BN
 simp only[List.all_eq_true,Bool.and_eq_true,List.contains_iff_mem]at a1 a2 a4
 cases k<;>cases l
 ·match S,hl with
  | [a],_=>exact a1 a (hi a (by simp))
 ·match S,hl with
  | [a,b],_=>exact(a2 a (hi a (by simp)) b (hi b (by simp))).1
 ·match S,hl with
  | [a,b],_=>exact(a2 a (hi a (by simp)) b (hi b (by simp))).2
 ·match S,hl with
  | [a,b,c,d],_=>exact a4 a (hi a (by simp)) b (hi b (by simp)) c (hi c (by simp)) d (hi d (by simp))
theorem G1{k l n:Bool}{p q:Nat}(hp:p∈bK k l)(hq:q∈bK l n):eY (TL k l n) p q∈bK k n:=by
 by_cases c:(k&&l&&n)=false
 ·have:=Wo k l n c
  simp only[List.all_eq_true,List.contains_iff_mem]at this;exact this p hp q hq
 ·simp at c;obtain⟨rfl,rfl,rfl⟩:=c;have cut:bK true true=((bK true true).drop 0).take 14++(((bK true true).drop 14).take 14++(((bK true true).drop 28).take 14++(((bK true true).drop 42).take 14++(((bK true true).drop 56).take 14++((bK true true).drop 70).take 14)))):=by decide +kernel
  have b0:=x8
  have b1:=L7
  have b2:=F5
  have b3:=Y4
  have b4:=Sj
  have b5:=Zr
  simp only[List.all_eq_true,List.contains_iff_mem]at b0 b1 b2 b3 b4 b5;have hp':=hp
  rw[cut]at hp';simp only[List.mem_append]at hp';rcases hp' with h | h | h | h | h | h
  ·exact b0 p h q hq
  ·exact b1 p h q hq
  ·exact b2 p h q hq
  ·exact b3 p h q hq
  ·exact b4 p h q hq
  ·exact b5 p h q hq
theorem AC{k l n:Bool}{zs ws:List Str}(h:Pl k l zs)(g:Pl l n ws):Pl k n (BM k l n zs ws):=by
 have hm:cK (BM k l n zs ws) (WS k n)∈bK k n:=by
  rw[G3 h.1 g.1];exact G1 (Nk h) (Nk g)
 have e1:kX (WS k n) (cK (BM k l n zs ws) (WS k n))=BM k l n zs ws:=by
  rw[zI];exact Ig rfl
 have e2:=AG k n
 simp only[List.all_eq_true,beq_iff_eq]at e2;have e3:=e2 _ hm
 rw[e1]at e3;refine⟨fun u hu=>(List.mem_filter.mp hu).1,?_⟩;have e4:kX (WS k n) (cK (PA k n (BM k l n zs ws)) (WS k n))=PA k n (BM k l n zs ws):=by
  rw[zI];exact Ig rfl
 rw[<- e4,e3,e1]
end K39
namespace K39
open PySem PySem.Spec PyProof.Rows L2 DL K01
theorem Pl.len{k l:Bool}{zs:List Str}(h:Pl k l zs):zs.length<=13:=by
 obtain⟨pr,e⟩:=h.filt;rw[e];exact Nat.le_trans (List.length_filter_le _ _) (oV k l).2
theorem Pl.ord{k l:Bool}{zs:List Str}(h:Pl k l zs):∀ z∈zs,z∈cU:=fun z hz=>eP k l z (h.1 z hz)
theorem Pl.lay{k l:Bool}{zs:List Str}(h:Pl k l zs):(PyData.tuple (zs.map .str)).canLay0=true:=zW fun z q=>Cc k l z (h.1 z q)
theorem U8(zs:List Str):(PyData.tuple (zs.map .str)).depth<=100:=by
 have:=Fm zs
 simp only[PyData.depth];omega
theorem Tw(xs ys:List Str):PyData.eqv (.tuple (xs.map .str)) (.tuple (ys.map .str))=decide (xs=ys):=by
 rw[<- Bj];simp[PyData.eqv]
theorem Q2:∀ ds m R,ds.length=mR.length->nF ds m R->Bi (EN R) (aW Fs ds) m:=by
 rintro ds m R hl ⟨k,l,zs,rfl,hp,h⟩;have g:=L9 hp
 refine⟨_,rfl,rfl,zs,rfl,hp.ord,Nat.le_trans hp.len (by decide),?_⟩
 refine⟨_,rfl,_,rfl,_,rfl,rfl,l,k,zs.reverse.map tn,rfl,g.1,_,rfl,?_⟩;rw[decide_eq_true g.2];refine fJ rfl ⟨_,rfl,rfl,zs.reverse.map tn,rfl,g.ord,Nat.le_trans g.len (by decide),_,rfl,?_⟩
 rw[Sx hp.1];refine⟨hp.lay,hp.lay,U8 zs,?_⟩;rw[Tw,decide_eq_true rfl];exact h
theorem Jq{E:List Str}{us:List Str}{m:Mu}{Q:List PyData->Mu->Prop}(h:Q [] m):∀ (todo:List Str) (o:Option D),(∀ u∈todo,u∈us) ->
  cA (gN 0) (bG (aL wY (aA 0) (aA 1))) (aA 0) ((todo.map .str).map .dat) [] [o,some (.dat (.tuple (us.map .str)))] m Q
 | [],_,_=>h
 | u::todo,o,hu=>⟨_,rfl,_,rfl,us,rfl,_,rfl,cW (by rw[decide_eq_true (hu u List.mem_cons_self)];rfl) (Jq (E:=E) h todo _ fun w hw=>hu w (List.mem_cons_of_mem _ hw))⟩
theorem Yd{k l n:Bool}{zs ws:List Str}{z w:Str}(hz:z∈zs)(hw:w∈ws):∀ u∈BW k l n z w,u∈BM k l n zs ws:=fun u hu=>by
 unfold BM;rw[List.mem_filter,List.any_eq_true];refine⟨(List.mem_filter.mp hu).1,z,hz,?_⟩;rw[List.any_eq_true];exact⟨w,hw,decide_eq_true hu⟩
theorem Ij{zs:List Str}{x:D}(h:x∈(dX 4 (zs.map PyData.str)).map D.dat):∃ z∈zs,x=.dat (.str z):=by
 obtain⟨p,hp,rfl⟩:=List.mem_map.mp h;obtain⟨z,hz,rfl⟩:=List.mem_map.mp (y7 hp);exact⟨z,hz,rfl⟩
theorem d6:∀ ds m R,ds.length=mB.length->pU ds m R->yV (EN R) (aW xS ds) m:=by
 rintro ds m R hl ⟨k,l,n,zs,ws,rfl,hz,hw,h⟩;have g:=AC hz hw
 refine⟨_,rfl,_,rfl,_,rfl,rfl,k,l,n,zs,ws,rfl,hz.len,hw.len,hz.1,hw.1,fun m1 kn=>?_⟩;refine⟨_,rfl,_,Kz _ _,_,rfl,_,Ms _ _ _ _,_,rfl,sz (n:=2) (by decide),_,rfl,rfl,k,n,BM k l n zs ws,rfl,g.1,_,rfl,?_⟩
 rw[decide_eq_true g.2];refine cW rfl ⟨_,rfl,_,rfl,.inr ⟨_,rfl,?_⟩⟩;refine Bu (fun d m'=>m'=m1/\∃ o4 o5,d=[some (.dat (cO k l n)),some (.dat (.tuple (zs.map .str))),some (.dat (.tuple (ws.map .str))),some (.dat (.tuple ((BM k l n zs ws).map .str))),o4,o5]) ?_ _ ?_ _ _ ⟨rfl,_,_,rfl⟩
 ·rintro d m' ⟨rfl,_⟩;exact h m' kn
 ·rintro x hx K hK d m' ⟨rfl,o4,o5,rfl⟩;obtain⟨z,hz',rfl⟩:=Ij hx;refine⟨_,rfl,_,rfl,.inr ⟨_,rfl,?_⟩⟩;refine Bu (fun d m''=>m''=m'/\∃ o5,d=[some (.dat (cO k l n)),some (.dat (.tuple (zs.map .str))),some (.dat (.tuple (ws.map .str))),some (.dat (.tuple ((BM k l n zs ws).map .str))),some (.dat (.str z)),o5]) ?_ _ ?_ _ _ ⟨rfl,_,rfl⟩
  ·rintro d m'' ⟨rfl,o5,rfl⟩;exact hK _ _ ⟨rfl,_,_,rfl⟩
  ·rintro x hx K2 hK2 d m'' ⟨rfl,o5,rfl⟩;obtain⟨w,hw',rfl⟩:=Ij hx;refine⟨_,rfl,_,rfl,_,rfl,rfl,k,l,n,z,w,rfl,hz.1 z hz',hw.1 w hw',.inr ⟨_,rfl,?_⟩⟩;refine Jq (E:=[]) ?_ (BW k l n z w) none (Yd hz' hw');exact⟨_,rfl,Nat.zero_le _,rfl,rfl,by simp[PyData.depth,PyData.depthAll],_,rfl,cW rfl (hK2 _ _ ⟨rfl,_,rfl⟩)⟩
theorem X3{i:Int}(h0:0<=i)(h1:i<2):∃ b,cD [PyData.str "point",.str "stretch"] i=some (.str (kd b)):=by
 obtain rfl | rfl:i=0\/i=1:=by omega
 ·exact⟨false,rfl⟩
 ·exact⟨true,rfl⟩
theorem A9{α:Type}{xs:List α}(h:xs.length=3):∃ a b c,xs=[a,b,c]:=by
 match xs,h with
 | [a,b,c],_=>exact⟨a,b,c,rfl⟩
theorem Dx{us:List Str}{m:Mu}{Q:List PyData->Mu->Prop}:∀ (todo sel:List Str) (o:Option D),sel.length+todo.length<=13->Q ((sel++todo.filter fun z=>decide (z∈us)).map .str) m ->
  cA (gN 0) (bG (aL jV (aA 0) (aA 1))) (aA 0) ((todo.map .str).map .dat) (sel.map .str) [o,some (.dat (.tuple (us.map .str)))] m Q
 | [],sel,_,_,h=>by rw[List.filter_nil,List.append_nil]at h;exact h
 | u::todo,sel,o,hl,h=>by
  have hl:sel.length+(todo.length+1)<=13:=hl
  refine⟨_,rfl,_,rfl,us,rfl,_,rfl,?_⟩
  by_cases c:u∈us
  ·rw[List.filter_cons_of_pos (by simpa using c)]at h
   have:=Dx (us:=us) (m:=m) (Q:=Q) todo (sel++[u]) (some (.dat (.str u))) (by simp;omega) (by simpa using h)
   rw[List.map_append]at this;refine fJ (decide_eq_true c) ⟨_,rfl,_,rfl,?_,this⟩;rw[List.length_map];exact Nat.lt_of_lt_of_le (by omega:sel.length<100) (sz (by decide))
  ·rw[List.filter_cons_of_neg (by simpa using c)]at h
   exact cW (decide_eq_false c) (Dx todo sel _ (by omega) h)
theorem Fed.tp{b n:Int}{m0 m:Mu}{a:Addr}(h:Fed b n m0 m a):Tp (n+b) m a:=h.1
theorem Tp.kn{n:Int}{m m':Mu}{a:Addr}(h:Tp n m a)(k:Kn m m'):Tp n m' a:=by
 obtain⟨ns,i,j,t,e,r⟩:=h;exact⟨ns,i,j,t,by rw[k a (by rw[e];rfl),e],r⟩
theorem Rm:∀ ds m R,ds.length=vI.length->pR ds m R->Ad (EN R) (aW Bg ds) m:=by
 rintro ds m R hl ⟨ns,rfl,hn,h⟩;refine⟨_,rfl,rfl,ns,rfl,hn,fun a m1 ht=>?_⟩;refine⟨_,rfl,sz (by decide),2,rfl,by decide,by decide,?_⟩
 refine CF (n:=2) (fun i d m'=>Tp (1000*i) m' a/\∃ o3 o4 o5 o6 o7 o8,d=[some (.dat (.list (ns.map .int))),some (.cel a),some (.dat (.list [.str "point",.str "stretch"])),o3,o4,o5,o6,o7,o8]) ?_ ?_ _ _ ⟨by simpa using ht,_,_,_,_,_,_,rfl⟩
 ·rintro d m' -;exact h m'
 ·rintro i hi K hK d m2 ⟨ht2,o3,o4,o5,o6,o7,o8,rfl⟩;have hL:(1000:Int)*i<=2000:=by omega
  generalize eL:(1000:Int)*i=L at ht2 hL
  have rest:∀ (k l n:Bool) (m3:Mu),Fed 3 L m2 m3 a->Gu {nx:=K,rt:=R,bk:=Kl (EN R),ct:=K} [some (.dat (.list (ns.map .int))),some (.cel a),some (.dat (.list [.str "point",.str "stretch"])),some (I i),some (.dat (cO k l n)),o5,o6,o7,o8] m3:=fun k l n m3 f3=>by
   refine⟨_,rfl,_,rfl,_,rfl,.inl ⟨_,rfl,rfl,a,k,l,L+3,rfl,by omega,f3.1,fun P1 m4 p1 f4=>?_⟩⟩
   refine⟨_,rfl,_,rfl,_,rfl,.inl ⟨_,rfl,rfl,a,k,l,L+3+20,rfl,by omega,f4.1,fun P2 m5 p2 f5=>?_⟩⟩
   refine⟨_,rfl,_,rfl,_,rfl,.inl ⟨_,rfl,rfl,a,l,n,L+3+20+20,rfl,by omega,f5.1,fun P3 m6 p3 f6=>?_⟩⟩
   refine⟨_,rfl,_,rfl,.inl ⟨_,rfl,_,rfl,rfl,k,l,P1,rfl,p1,_,rfl,cW rfl ⟨_,rfl,_,rfl,.inl ⟨_,rfl,_,rfl,rfl,l,n,P3,rfl,p3,_,rfl,cW rfl ?_⟩⟩⟩⟩;refine⟨_,rfl,.inr ⟨_,rfl,Dx P1 [] none (by have:=p1.len;simp;omega) ?_⟩⟩
   have pb:=Tq p1 p2
   rw[List.nil_append]
   generalize P1.filter (fun z=>decide (z∈P2))=B at pb ⊢
   refine⟨_,rfl,_,rfl,.inl ⟨_,rfl,_,rfl,rfl,k,l,B,rfl,pb.1,_,rfl,?_⟩⟩;rw[decide_eq_true pb.2];refine cW rfl ?_;refine⟨_,rfl,_,rfl,_,rfl,rfl,k,l,n,P1,P3,rfl,p1,p3,fun m7 kn7=>⟨_,rfl,cW rfl ⟨_,rfl,_,rfl,_,rfl,rfl,k,l,n,B,P3,rfl,pb,p3,fun m8 kn8=>⟨_,rfl,cW rfl (hK _ _ ⟨?_,_,_,_,_,_,_,rfl⟩)⟩⟩⟩⟩;have q:=Tp.kn (Tp.kn f6.1 kn7) kn8
   obtain⟨ns',i',j',t',e',t0,t1⟩:=q;exact⟨ns',i',j',t',e',t0,by omega⟩
  refine⟨3,rfl,by decide,by decide,?_⟩
  refine Si (n:=3) (fun j acc d m'=>∃ ks:List Bool,ks.length=j/\acc=ks.map (fun k=>.str (kd k))/\Fed j L m2 m' a/\∃ o,d=[o,some (.cel a),some (.dat (.list [.str "point",.str "stretch"]))]) ?_ ?_ _ _ _ ⟨[],rfl,rfl,Fed.refl ht2,_,rfl⟩
  ·rintro acc d m3 ⟨ks,kl,rfl,f3,_⟩;obtain⟨k,l,n,rfl⟩:=A9 kl;exact rest k l n m3 f3
  ·rintro j acc d m3 K2 hj ⟨ks,kl,rfl,f3,o,rfl⟩ hK2;refine⟨_,rfl,_,rfl,rfl,Bx (n:=4) (by decide) (by decide) (by omega) (by omega) f3 fun r m4 r0 r1 f4=>?_⟩
   obtain⟨b,eb⟩:=X3 (i:=if decide (0<r)=true then 1 else 0) (by split<;>decide) (by split<;>decide)
   refine⟨_,eb,_,rfl,?_,hK2 _ _ _ ⟨ks++[b],by simp[kl],by simp,f4,_,rfl⟩⟩
   rw[List.length_map];exact Nat.lt_of_lt_of_le (show ks.length<10 by omega) (sz (by decide))
end K39
namespace HD
open PySem PySem.W
section
variable {α β:Type}{tb:String->Option Builtin}{p:Program}{w:World}{n₀:Nat}{ann:Option Value}{c:Code}{B:List Frame}
theorem Ln{b:Nat}:∀ {n m:Nat} {s s1 s2:Shared} {t t1 t2:Thread},segGo tb p w n₀ ann b n s t=some (s1,t1)->segGo tb p w n₀ ann b m s1 t1=some (s2,t2)->segGo tb p w n₀ ann b (n+m) s t=some (s2,t2)
 | 0,m,s,s1,s2,t,t1,t2,h,k=>by
  obtain⟨rfl,rfl⟩:s=s1/\t=t1:=by simpa[segGo] using h
  rw[Nat.zero_add];exact k
 | n+1,m,s,s1,s2,t,t1,t2,h,k=>by
  rw[show n+1+m=n+m+1 by omega]
  unfold segGo at h ⊢
  cases he:endAt b t with
  | some f=>rw[he]at h;cases h
  | none =>
   rw[he]at h
   cases hk:stepOk n₀ ann t with
   | false=>rw[hk]at h;cases h
   | true =>
    rw[hk]at h
    cases hs:step (denote tb) p w s t with
    | halt o s'=>rw[hs]at h;cases h
    | go s' t'=>rw[hs]at h;exact Ln h k
def R(N:Nat)(tb:String->Option Builtin)(p:Program)(w:World)(n₀:Nat)(ann:Option Value)(c:Code)(B:List Frame)(m:Sem α)(s:Shared)(pos:Pos)(a:α)(s':Shared)(pos':Pos):Prop :=
 ∀ (K:α->Sem Fin) (H:Value->Sem Fin) (gd:Bool->Bool) (lv:List Value->List Value),∃ n,n<=N/\segGo tb p w n₀ ann B.length n s ⟨m.wrap K H gd lv,c,pos,B⟩=some (s',⟨K a,c,pos',B⟩)
variable {s s1 s':Shared}{pos pos1 pos':Pos}{N N1 N2:Nat}
theorem R.pure{a:α}:R 0 tb p w n₀ ann c B (Pure.pure a) s pos a s pos:=fun K H gd lv=>⟨0,Nat.le_refl _,rfl⟩
theorem R.mono{m:Sem α}{a:α}(hN:N1<=N)(h:R N1 tb p w n₀ ann c B m s pos a s' pos'):R N tb p w n₀ ann c B m s pos a s' pos':=fun K H gd lv=>let ⟨n,l,e⟩:=h K H gd lv;⟨n,Nat.le_trans l hN,e⟩
theorem R.bind{m:Sem α}{f:α->Sem β}{a:α}{b:β}(h:R N1 tb p w n₀ ann c B m s pos a s1 pos1)(k:R N2 tb p w n₀ ann c B (f a) s1 pos1 b s' pos'):R (N1+N2) tb p w n₀ ann c B (m>>=f) s pos b s' pos':=fun K H gd lv=>by
 obtain⟨n1,l1,e1⟩:=h (fun a=>(f a).wrap K H gd lv) H gd lv;obtain⟨n2,l2,e2⟩:=k K H gd lv;refine⟨n1+n2,Nat.add_le_add l1 l2,?_⟩;have e:(m>>=f).wrap K H gd lv=m.wrap (fun a=>(f a).wrap K H gd lv) H gd lv:=by
  rw[Sem.bind_eq_wrap',Sem.wrap_wrap];rfl
 rw[e];exact Ln e1 e2
theorem R.hold{m:Sem α}{vs:List Value}{a:α}(h:R N tb p w n₀ ann c B m s pos a s' pos'):R N tb p w n₀ ann c B (holding vs m) s pos a s' pos':=by
 unfold holding
 split
 ·exact h
 ·intro K H gd lv;rw[Sem.keep_eq_wrap,Sem.wrap_wrap];exact h K H _ _
theorem R.leaf{m:Sem α}{a:α}{sT sT':SharedT}(n:Nat)(h:∀ (K:α->Sem Fin) (H:Value->Sem Fin) (gd:Bool->Bool) (lv:List Value->List Value),segGoT tb p w n₀ ann B.length n sT ⟨m.wrap K H gd lv,c,pos,B⟩=some (sT',⟨K a,c,pos',B⟩)):R n tb p w n₀ ann c B m sT.abs pos a sT'.abs pos':=fun K H gd lv=>⟨n,Nat.le_refl _,segGo_of (h K H gd lv)⟩
theorem R.piece{m:Sem Flow}{q:Pos}(h:R N tb p w n₀ ann c [topFrame q] m s pos .next s' pos'):∃ n,n<=N+1/\segRun tb p w n₀ ann 1 n s ⟨m.wrap doneF deadEnd id id,c,pos,[topFrame q]⟩=some (.next,s',c,pos'):=by
 obtain⟨n,l,e⟩:=h doneF deadEnd id id;exact⟨n+1,Nat.succ_le_succ l,seg_go (N:=1) e rfl⟩
end
end HD
namespace HD
open PySem PySem.W
section
variable {α β:Type}{tb:String->Option Builtin}{p:Program}{w:World}{n₀:Nat}{ann:Option Value}{c:Code}{B:List Frame}{s s1 s':Shared}{pos pos1 pos':Pos}
def xQ:Stmt->List (Option Expr) | .Assign [.Name _ _] (.Dict ks _ _) _=>ks | _=>[]
def vS:Stmt->List Expr | .Assign [.Name _ _] (.Dict _ vs _) _=>vs | _=>[]
def qM:Stmt->Pos | .Assign [.Name _ _] (.Dict _ _ dp) _=>dp | _=>default
def Bp:Stmt->Pos | .Assign [.Name _ px] (.Dict _ _ _) _=>px | _=>default
def xW:Stmt->Pos | .Assign _ _ sp=>sp | _=>default
end
end HD
set_option maxHeartbeats 0
namespace H39
open PySem PySem.W HD
open_shared pre for PySem.Challenge.pw_whens_k39_whole_plain_stays_plain leaving 29
abbrev prog:Program:=PySem.Challenge.pw_whens_k39_whole_plain_stays_plain
abbrev q0:Pos:=⟨0,0,0,0⟩
def st:Stmt:=prog.main.body.getD 2 (.Pass q0)
def xC:Expr:=.Constant (.str "a") 0 q0
def xO:Expr:=.Constant .none 0 q0
def xT(n:Nat):Expr:=.Tuple (List.replicate n xC) 0 q0
def AV:Stmt:=.Assign [.Name "POINT_WORDS" ⟨3,0,3,11⟩] (.BoolOp .Or (List.replicate 390 xO++[.Dict [some xC] [.Tuple [xT 22,xT 1,xT 1,xT 1,xT 1] 0 q0] q0]) q0) q0
def progX:Program:={prog with main:={prog.main with body:=prog.main.body.set 2 AV}}
open_shared prx for H39.progX leaving 0
end H39
set_option maxHeartbeats 0
namespace H39
open PySem PySem.W HD
noncomputable abbrev T0(w:World)(os:OsState):SharedT:=⟨pre.tree_6 w.params,16,{},⟨[]⟩,{},203,os⟩
abbrev D0:Obj:={cls:=.type "dict",data:=.dict #[]}
abbrev tp(vs:List Value):Obj:={cls:=.type "tuple",data:=.seq vs.toArray}
noncomputable abbrev T1(w:World)(os:OsState):SharedT:=⟨(pre.tree_6 w.params).ins 16 D0,17,{},⟨[]⟩,{},203,os⟩
noncomputable def Cb(P:Params):BT:=(((((((pre.tree_6 P).ins 16 D0).ins 17 (tp [.str "point" 203,.str "point" 204])).ins 18 (tp [.str "ahead" 205,.str "same" 206,.str "behind" 207])).ins 19 (tp [.str "point" 208,.str "stretch" 209])).ins 20 (tp [.str "ahead" 210,.str "begins" 211,.str "within" 212,.str "ends" 213,.str "behind" 214])).ins 21 (tp [.str "stretch" 215,.str "point" 216])).ins 22 (tp [.str "ahead" 217,.str "ended" 218,.str "holds" 219,.str "begun" 220,.str "behind" 221])
abbrev dO(es:List DictEntry):Obj:={cls:=.type "dict",data:=.dict es.toArray es.length}
noncomputable abbrev TD(es:Params->List DictEntry)(w:World)(os:OsState)(k:Nat):SharedT:=⟨(Cb w.params).ins 16 (dO (es w.params)),23,{},⟨[]⟩,{},k,os⟩
abbrev eR:Params->List DictEntry:=fun _=>[]
abbrev dp:Pos:=⟨3,14,3,204⟩
theorem Yn:st=.Assign [.Name "POINT_WORDS" (Bp st)] (.Dict (xQ st) (vS st) (qM st)) (xW st):=by kernel_rfl
section
variable (w:World)(os:OsState)(p:Program)(b:List Stmt)
abbrev RR{α:Type}(N:Nat)(m:Sem α)(s:SharedT)(pos:Pos)(a:α)(s':SharedT)(pos':Pos):Prop:=R N treeTable p w 11 (some (Value.ref 6)) (Code.body b pre.env_1) [topFrame q0] m s.abs pos a s'.abs pos'
theorem N4:RR w p b 34 (evalPairs (pairTrees (xQ st) (vS st) pre.env_1 (qM st))) (T1 w os) dp [(.ref 17,.ref 18),(.ref 19,.ref 20),(.ref 21,.ref 22)] (TD eR w os 222) dp :=
 R.leaf 34 fun K H gd lv=>by kernel_rfl
end
abbrev kh(P:Params)(z:Str):Int:=PyData.keyHash P z
def i1(P:Params):Int:=Builtin.Tuple.tupleHashOf [kh P "point",kh P "point"]
def i2(P:Params):Int:=Builtin.Tuple.tupleHashOf [kh P "point",kh P "stretch"]
def i3(P:Params):Int:=Builtin.Tuple.tupleHashOf [kh P "stretch",kh P "point"]
def e1(P:Params):DictEntry:=⟨reduceHash (i1 P),.ref 17,.ref 18⟩
def e2(P:Params):DictEntry:=⟨reduceHash (i2 P),.ref 19,.ref 20⟩
def e3(P:Params):DictEntry:=⟨reduceHash (i3 P),.ref 21,.ref 22⟩
abbrev es1:Params->List DictEntry:=fun P=>[e1 P]
abbrev fF:Params->List DictEntry:=fun P=>[e1 P,e2 P]
abbrev bO:Params->List DictEntry:=fun P=>[e1 P,e2 P,e3 P]
abbrev row:String:="special-get-raises"
section
variable (v:World)(os:OsState)(p:Program)(b:List Stmt)
theorem pH(w:World)(t:String)(sT:SharedT)(pos:Pos):RR w p b 1 (rule t) sT pos () sT pos:=R.leaf 1 fun K H gd lv=>by
 obtain⟨T,n,l,g,d,k,o⟩:=sT;rfl
theorem nP(w:World)(i:Int)(sT:SharedT)(pos:Pos):RR w p b 1 (pyHashByItsType.reduced i) sT pos (reduceHash i) sT pos:=by
 unfold pyHashByItsType.reduced reduceHash
 by_cases hr:(decide (-(2:Int)^63<=i)&&decide (i<2^63))=true
 ·rw[if_pos hr,if_pos hr];exact R.mono (by decide) R.pure
 ·rw[if_neg hr,if_neg hr];exact R.mono (N1:=1+0) (by decide) (R.bind (pH p b w _ sT pos) R.pure)
theorem L6:RR (v.withFollow row false) p b 26 (pyHash (.ref 17)) (TD eR (v.withFollow row false) os 222) dp (reduceHash (i1 (v.withFollow row false).params)) (TD eR (v.withFollow row false) os 225) dp:=by
 unfold pyHash pyHashByItsType;refine R.mono (N1:=1+(1+(1+(22+1)))) (by decide) (R.bind (R.leaf (sT':=(TD eR (v.withFollow row false) os 222)) (a:=()) (pos':=dp) 1 fun K H gd lv=>by rw[Fast.te10295753902157049106,Fast.te14364793385576792824];kernel_rfl) ?_)
 refine R.bind (R.leaf (sT':=(TD eR (v.withFollow row false) os 222)) (a:=some (.builtin "tuple.__hash__")) (pos':=dp) 1 fun K H gd lv=>by rw[Fast.te10295753902157049106,Fast.te14364793385576792824];kernel_rfl) ?_
 rw[if_neg (by decide)]
 refine R.bind (R.leaf (sT':=(TD eR (v.withFollow row false) os 222)) (a:=some (.builtin "tuple.__hash__")) (pos':=dp) 1 fun K H gd lv=>by rw[Fast.te10295753902157049106,Fast.te14364793385576792824];kernel_rfl) ?_
 rw[if_neg (by decide)]
 refine R.bind (R.leaf (sT':=(TD eR (v.withFollow row false) os 225)) (a:=some (.int (i1 (v.withFollow row false).params) 224)) (pos':=dp) 22 fun K H gd lv=>by rw[Fast.te10295753902157049106,Fast.te14364793385576792824];kernel_rfl) ?_
 exact nP p b _ _ _ _
theorem Xz:RR (v.withFollow row true) p b 26 (pyHash (.ref 17)) (TD eR (v.withFollow row true) os 222) dp (reduceHash (i1 (v.withFollow row true).params)) (TD eR (v.withFollow row true) os 225) dp:=by
 unfold pyHash pyHashByItsType;refine R.mono (N1:=1+(1+(1+(22+1)))) (by decide) (R.bind (R.leaf (sT':=(TD eR (v.withFollow row true) os 222)) (a:=()) (pos':=dp) 1 fun K H gd lv=>by rw[Fast.te10295753902157049106,Fast.te14364793385576792824];kernel_rfl) ?_)
 refine R.bind (R.leaf (sT':=(TD eR (v.withFollow row true) os 222)) (a:=some (.builtin "tuple.__hash__")) (pos':=dp) 1 fun K H gd lv=>by rw[Fast.te10295753902157049106,Fast.te14364793385576792824];kernel_rfl) ?_
 rw[if_neg (by decide)]
 refine R.bind (R.leaf (sT':=(TD eR (v.withFollow row true) os 222)) (a:=some (.builtin "tuple.__hash__")) (pos':=dp) 1 fun K H gd lv=>by rw[Fast.te10295753902157049106,Fast.te14364793385576792824];kernel_rfl) ?_
 rw[if_neg (by decide)]
 refine R.bind (R.leaf (sT':=(TD eR (v.withFollow row true) os 225)) (a:=some (.int (i1 (v.withFollow row true).params) 224)) (pos':=dp) 22 fun K H gd lv=>by rw[Fast.te10295753902157049106,Fast.te14364793385576792824];kernel_rfl) ?_
 exact nP p b _ _ _ _
theorem P6:RR (v.withFollow row false) p b 26 (pyHash (.ref 19)) (TD es1 (v.withFollow row false) os 225) dp (reduceHash (i2 (v.withFollow row false).params)) (TD es1 (v.withFollow row false) os 228) dp:=by
 unfold pyHash pyHashByItsType;refine R.mono (N1:=1+(1+(1+(22+1)))) (by decide) (R.bind (R.leaf (sT':=(TD es1 (v.withFollow row false) os 225)) (a:=()) (pos':=dp) 1 fun K H gd lv=>by rw[Fast.te10295753902157049106,Fast.te14364793385576792824];kernel_rfl) ?_)
 refine R.bind (R.leaf (sT':=(TD es1 (v.withFollow row false) os 225)) (a:=some (.builtin "tuple.__hash__")) (pos':=dp) 1 fun K H gd lv=>by rw[Fast.te10295753902157049106,Fast.te14364793385576792824];kernel_rfl) ?_
 rw[if_neg (by decide)]
 refine R.bind (R.leaf (sT':=(TD es1 (v.withFollow row false) os 225)) (a:=some (.builtin "tuple.__hash__")) (pos':=dp) 1 fun K H gd lv=>by rw[Fast.te10295753902157049106,Fast.te14364793385576792824];kernel_rfl) ?_
 rw[if_neg (by decide)]
 refine R.bind (R.leaf (sT':=(TD es1 (v.withFollow row false) os 228)) (a:=some (.int (i2 (v.withFollow row false).params) 227)) (pos':=dp) 22 fun K H gd lv=>by rw[Fast.te10295753902157049106,Fast.te14364793385576792824];kernel_rfl) ?_
 exact nP p b _ _ _ _
theorem Xv:RR (v.withFollow row true) p b 26 (pyHash (.ref 19)) (TD es1 (v.withFollow row true) os 225) dp (reduceHash (i2 (v.withFollow row true).params)) (TD es1 (v.withFollow row true) os 228) dp:=by
 unfold pyHash pyHashByItsType;refine R.mono (N1:=1+(1+(1+(22+1)))) (by decide) (R.bind (R.leaf (sT':=(TD es1 (v.withFollow row true) os 225)) (a:=()) (pos':=dp) 1 fun K H gd lv=>by rw[Fast.te10295753902157049106,Fast.te14364793385576792824];kernel_rfl) ?_)
 refine R.bind (R.leaf (sT':=(TD es1 (v.withFollow row true) os 225)) (a:=some (.builtin "tuple.__hash__")) (pos':=dp) 1 fun K H gd lv=>by rw[Fast.te10295753902157049106,Fast.te14364793385576792824];kernel_rfl) ?_
 rw[if_neg (by decide)]
 refine R.bind (R.leaf (sT':=(TD es1 (v.withFollow row true) os 225)) (a:=some (.builtin "tuple.__hash__")) (pos':=dp) 1 fun K H gd lv=>by rw[Fast.te10295753902157049106,Fast.te14364793385576792824];kernel_rfl) ?_
 rw[if_neg (by decide)]
 refine R.bind (R.leaf (sT':=(TD es1 (v.withFollow row true) os 228)) (a:=some (.int (i2 (v.withFollow row true).params) 227)) (pos':=dp) 22 fun K H gd lv=>by rw[Fast.te10295753902157049106,Fast.te14364793385576792824];kernel_rfl) ?_
 exact nP p b _ _ _ _
theorem Zu:RR (v.withFollow row false) p b 26 (pyHash (.ref 21)) (TD fF (v.withFollow row false) os 228) dp (reduceHash (i3 (v.withFollow row false).params)) (TD fF (v.withFollow row false) os 231) dp:=by
 unfold pyHash pyHashByItsType;refine R.mono (N1:=1+(1+(1+(22+1)))) (by decide) (R.bind (R.leaf (sT':=(TD fF (v.withFollow row false) os 228)) (a:=()) (pos':=dp) 1 fun K H gd lv=>by rw[Fast.te10295753902157049106,Fast.te14364793385576792824];kernel_rfl) ?_)
 refine R.bind (R.leaf (sT':=(TD fF (v.withFollow row false) os 228)) (a:=some (.builtin "tuple.__hash__")) (pos':=dp) 1 fun K H gd lv=>by rw[Fast.te10295753902157049106,Fast.te14364793385576792824];kernel_rfl) ?_
 rw[if_neg (by decide)]
 refine R.bind (R.leaf (sT':=(TD fF (v.withFollow row false) os 228)) (a:=some (.builtin "tuple.__hash__")) (pos':=dp) 1 fun K H gd lv=>by rw[Fast.te10295753902157049106,Fast.te14364793385576792824];kernel_rfl) ?_
 rw[if_neg (by decide)]
 refine R.bind (R.leaf (sT':=(TD fF (v.withFollow row false) os 231)) (a:=some (.int (i3 (v.withFollow row false).params) 230)) (pos':=dp) 22 fun K H gd lv=>by rw[Fast.te10295753902157049106,Fast.te14364793385576792824];kernel_rfl) ?_
 exact nP p b _ _ _ _
theorem O4:RR (v.withFollow row true) p b 26 (pyHash (.ref 21)) (TD fF (v.withFollow row true) os 228) dp (reduceHash (i3 (v.withFollow row true).params)) (TD fF (v.withFollow row true) os 231) dp:=by
 unfold pyHash pyHashByItsType;refine R.mono (N1:=1+(1+(1+(22+1)))) (by decide) (R.bind (R.leaf (sT':=(TD fF (v.withFollow row true) os 228)) (a:=()) (pos':=dp) 1 fun K H gd lv=>by rw[Fast.te10295753902157049106,Fast.te14364793385576792824];kernel_rfl) ?_)
 refine R.bind (R.leaf (sT':=(TD fF (v.withFollow row true) os 228)) (a:=some (.builtin "tuple.__hash__")) (pos':=dp) 1 fun K H gd lv=>by rw[Fast.te10295753902157049106,Fast.te14364793385576792824];kernel_rfl) ?_
 rw[if_neg (by decide)]
 refine R.bind (R.leaf (sT':=(TD fF (v.withFollow row true) os 228)) (a:=some (.builtin "tuple.__hash__")) (pos':=dp) 1 fun K H gd lv=>by rw[Fast.te10295753902157049106,Fast.te14364793385576792824];kernel_rfl) ?_
 rw[if_neg (by decide)]
 refine R.bind (R.leaf (sT':=(TD fF (v.withFollow row true) os 231)) (a:=some (.int (i3 (v.withFollow row true).params) 230)) (pos':=dp) 22 fun K H gd lv=>by rw[Fast.te10295753902157049106,Fast.te14364793385576792824];kernel_rfl) ?_
 exact nP p b _ _ _ _
end
section
variable (v:World)(bb:Bool)(os:OsState)(p:Program)(b:List Stmt)
noncomputable abbrev TX(es:List DictEntry)(w:World)(os:OsState)(k:Nat):SharedT:=⟨(Cb w.params).ins 16 (dO es),23,{},⟨[]⟩,{},k,os⟩
theorem Pc(w:World)(x:Int):RR w p b 5 (dictSetHashed 16 (.ref 17) x (.ref 18)) (TX [] w os 225) dp () (TX [⟨x,.ref 17,.ref 18⟩] w os 225) dp :=
 R.leaf 5 fun K H gd lv=>by rw[Fast.te10295753902157049106,Fast.te14364793385576792824,Fast.te4359058424727691002];kernel_rfl
theorem p0(x y:Int)(k v:Value):placesWithHash (#[⟨x,k,v⟩]:Array DictEntry).size (fun i=>(#[⟨x,k,v⟩]:Array DictEntry)[i]?.map (·.hash)) y=if x=y then [0] else []:=by
 by_cases h:x=y<;>simp[placesWithHash,List.range_succ,h]
theorem K5(x x' y:Int)(k v k' v':Value):placesWithHash (#[⟨x,k,v⟩,⟨x',k',v'⟩]:Array DictEntry).size (fun i=>(#[⟨x,k,v⟩,⟨x',k',v'⟩]:Array DictEntry)[i]?.map (·.hash)) y=(if x=y then [0] else [])++(if x'=y then [1] else []):=by
 by_cases h:x=y<;>by_cases h':x'=y<;>simp[placesWithHash,List.range_succ,h,h']
theorem Rn(x y:Int):RR (v.withFollow row bb) p b 31 (dictFind 16 (.ref 19) y) (TX [⟨x,.ref 17,.ref 18⟩] (v.withFollow row bb) os 228) dp none (TX [⟨x,.ref 17,.ref 18⟩] (v.withFollow row bb) os 228) dp:=by
 unfold dictFind;refine R.hold (R.bind (N1:=1) (N2:=30) (R.leaf (sT':=TX [⟨x,.ref 17,.ref 18⟩] (v.withFollow row bb) os 228) (a:=#[⟨x,.ref 17,.ref 18⟩]) (pos':=dp) 1 fun K H gd lv=>by rw[Fast.te10295753902157049106,Fast.te14364793385576792824];kernel_rfl) ?_)
 have e:=p0 x y (.ref 17) (.ref 18)
 by_cases h:x=y
 ·subst h;rw[if_pos rfl]at e;rw[e];simp[carriedByValue,-bind_pure_comp,-map_pure];refine R.mono (N1:=6+(1+(20+(1+(1+0))))) (by decide) (R.bind (R.leaf (sT':=TX [⟨x,.ref 17,.ref 18⟩] (v.withFollow row bb) os 228) (a:=false) (pos':=dp) 6 fun K H gd lv=>by rw[Fast.te10295753902157049106,Fast.te14364793385576792824,Fast.te11445937954039399578];cases bb<;>kernel_rfl) ?_)
  refine R.bind (R.leaf (sT':=TX [⟨x,.ref 17,.ref 18⟩] (v.withFollow row bb) os 228) (a:=1) (pos':=dp) 1 fun K H gd lv=>by rw[Fast.te10295753902157049106,Fast.te14364793385576792824];kernel_rfl) ?_
  refine R.bind (R.leaf (sT':=TX [⟨x,.ref 17,.ref 18⟩] (v.withFollow row bb) os 228) (a:=false) (pos':=dp) 20 fun K H gd lv=>by rw[Fast.te10295753902157049106,Fast.te14364793385576792824,Fast.te13926502685295537346];cases bb<;>kernel_rfl) ?_
  refine R.bind (R.leaf (sT':=TX [⟨x,.ref 17,.ref 18⟩] (v.withFollow row bb) os 228) (a:=1) (pos':=dp) 1 fun K H gd lv=>by rw[Fast.te10295753902157049106,Fast.te14364793385576792824];kernel_rfl) ?_
  simp[-bind_pure_comp,-map_pure];exact R.mono (N1:=1+0) (by decide) (R.bind (pH p b _ _ _ _) R.pure)
 ·rw[if_neg h]at e;rw[e];exact R.mono (by decide) (R.leaf 0 fun K H gd lv=>by kernel_rfl)
end
section
variable (v:World)(bb:Bool)(os:OsState)(p:Program)(b:List Stmt)(x x':Int)
noncomputable abbrev TY(x x':Int)(w:World)(os:OsState):SharedT:=TX [⟨x,.ref 17,.ref 18⟩,⟨x',.ref 19,.ref 20⟩] w os 231
theorem kP(w:World):RR w p b 1 (dictEpoch 16 (keyPart (.ref 21))) (TY x x' w os) dp 2 (TY x x' w os) dp:=R.leaf 1 fun K H gd lv=>by rw[Fast.te10295753902157049106,Fast.te14364793385576792824];kernel_rfl
theorem Hr:RR (v.withFollow row bb) p b 16 (eqBool (.ref 17) (.ref 21)) (TY x x' (v.withFollow row bb) os) dp false (TY x x' (v.withFollow row bb) os) dp:=R.leaf 16 fun K H gd lv=>by rw[Fast.te10295753902157049106,Fast.te14364793385576792824,Fast.te13926502685295537346];cases bb<;>kernel_rfl
theorem Nc:RR (v.withFollow row bb) p b 16 (eqBool (.ref 19) (.ref 21)) (TY x x' (v.withFollow row bb) os) dp false (TY x x' (v.withFollow row bb) os) dp:=R.leaf 16 fun K H gd lv=>by rw[Fast.te10295753902157049106,Fast.te14364793385576792824,Fast.te13926502685295537346];cases bb<;>kernel_rfl
theorem AX:RR (v.withFollow row bb) p b 9 (tableMayTell (.ref 21) [.ref 17,.ref 19]) (TY x x' (v.withFollow row bb) os) dp false (TY x x' (v.withFollow row bb) os) dp:=R.leaf 9 fun K H gd lv=>by rw[Fast.te10295753902157049106,Fast.te14364793385576792824,Fast.te11445937954039399578];cases bb<;>kernel_rfl
theorem u3:RR (v.withFollow row bb) p b 6 (tableMayTell (.ref 21) [.ref 17]) (TY x x' (v.withFollow row bb) os) dp false (TY x x' (v.withFollow row bb) os) dp:=R.leaf 6 fun K H gd lv=>by rw[Fast.te10295753902157049106,Fast.te14364793385576792824,Fast.te11445937954039399578];cases bb<;>kernel_rfl
theorem O8:RR (v.withFollow row bb) p b 6 (tableMayTell (.ref 21) [.ref 19]) (TY x x' (v.withFollow row bb) os) dp false (TY x x' (v.withFollow row bb) os) dp:=R.leaf 6 fun K H gd lv=>by rw[Fast.te10295753902157049106,Fast.te14364793385576792824,Fast.te11445937954039399578];cases bb<;>kernel_rfl
theorem Ru(y:Int):RR (v.withFollow row bb) p b 101 (dictFind 16 (.ref 21) y) (TY x x' (v.withFollow row bb) os) dp none (TY x x' (v.withFollow row bb) os) dp:=by
 unfold dictFind;refine R.hold (R.bind (N1:=1) (N2:=100) (R.leaf (sT':=TY x x' (v.withFollow row bb) os) (a:=#[⟨x,.ref 17,.ref 18⟩,⟨x',.ref 19,.ref 20⟩]) (pos':=dp) 1 fun K H gd lv=>by rw[Fast.te10295753902157049106,Fast.te14364793385576792824];kernel_rfl) ?_)
 have e:=K5 x x' y (.ref 17) (.ref 18) (.ref 19) (.ref 20)
 by_cases h:x=y<;>by_cases h':x'=y
 ·subst h;rw[if_pos rfl,if_pos h']at e;rw[e];simp[carriedByValue,-bind_pure_comp,-map_pure,h'];refine R.mono (N1:=9+(1+(16+(1+(1+(1+(16+(1+(1+0))))))))) (by decide) (R.bind (AX v bb os p b x x) ?_)
  rw[if_neg (by decide)]
  refine R.bind (kP os p b x x _) (R.bind (Hr v bb os p b x x) (R.bind (kP os p b x x _) ?_));simp[-bind_pure_comp,-map_pure];refine R.mono (N1:=1+(1+(16+(1+(1+0))))) (by decide) (R.bind (pH p b _ _ _ _) ?_)
  refine R.bind (kP os p b x x _) (R.bind (Nc v bb os p b x x) (R.bind (kP os p b x x _) ?_));simp[-bind_pure_comp,-map_pure];exact R.mono (N1:=1+0) (by decide) (R.bind (pH p b _ _ _ _) R.pure)
 ·subst h;rw[if_pos rfl,if_neg h']at e;rw[e];simp[carriedByValue,-bind_pure_comp,-map_pure];refine R.mono (N1:=6+(1+(16+(1+(1+0))))) (by decide) (R.bind (u3 v bb os p b x x') ?_)
  refine R.bind (kP os p b x x' _) (R.bind (Hr v bb os p b x x') (R.bind (kP os p b x x' _) ?_));simp[-bind_pure_comp,-map_pure];exact R.mono (N1:=1+0) (by decide) (R.bind (pH p b _ _ _ _) R.pure)
 ·subst h';rw[if_neg h,if_pos rfl]at e;rw[e];simp[carriedByValue,-bind_pure_comp,-map_pure];refine R.mono (N1:=6+(1+(16+(1+(1+0))))) (by decide) (R.bind (O8 v bb os p b x x') ?_)
  refine R.bind (kP os p b x x' _) (R.bind (Nc v bb os p b x x') (R.bind (kP os p b x x' _) ?_));simp[-bind_pure_comp,-map_pure];exact R.mono (N1:=1+0) (by decide) (R.bind (pH p b _ _ _ _) R.pure)
 ·rw[if_neg h,if_neg h']at e;rw[e];exact R.mono (by decide) (R.leaf 0 fun K H gd lv=>by kernel_rfl)
theorem Xh(y:Int):RR (v.withFollow row bb) p b 35 (dictSetHashed 16 (.ref 19) y (.ref 20)) (TX [⟨x,.ref 17,.ref 18⟩] (v.withFollow row bb) os 228) dp () (TX [⟨x,.ref 17,.ref 18⟩,⟨y,.ref 19,.ref 20⟩] (v.withFollow row bb) os 228) dp:=by
 unfold dictSetHashed;refine R.hold (R.bind (N1:=31) (N2:=4) (Rn v bb os p b x y) ?_);exact R.leaf 4 fun K H gd lv=>by rw[Fast.te10295753902157049106,Fast.te14364793385576792824];kernel_rfl
theorem Ql(y:Int):RR (v.withFollow row bb) p b 105 (dictSetHashed 16 (.ref 21) y (.ref 22)) (TY x x' (v.withFollow row bb) os) dp () (TX [⟨x,.ref 17,.ref 18⟩,⟨x',.ref 19,.ref 20⟩,⟨y,.ref 21,.ref 22⟩] (v.withFollow row bb) os 231) dp:=by
 unfold dictSetHashed;refine R.hold (R.bind (N1:=101) (N2:=4) (Ru v bb os p b x x' y) ?_);exact R.leaf 4 fun K H gd lv=>by rw[Fast.te10295753902157049106,Fast.te14364793385576792824];kernel_rfl
end
section
variable (v:World)(bb:Bool)(os:OsState)(p:Program)(b:List Stmt)
abbrev p5:Pos:=⟨2,0,2,5⟩
abbrev sp:Pos:=⟨3,0,3,204⟩
abbrev px:Pos:=⟨3,0,3,11⟩
abbrev dE(P:Params):List DictEntry:=[⟨reduceHash (i1 P),.ref 17,.ref 18⟩,⟨reduceHash (i2 P),.ref 19,.ref 20⟩,⟨reduceHash (i3 P),.ref 21,.ref 22⟩]
noncomputable def zR(P:Params)(es:List DictEntry):BT:=((Cb P).ins 16 (dO es)).set 3 (Obj.putName "POINT_WORDS" (kh P "POINT_WORDS") (.str "POINT_WORDS" 231) (.ref 16))
noncomputable abbrev T6(es:List DictEntry)(w:World)(os:OsState):SharedT:=⟨zR w.params es,23,{},⟨[]⟩,{},232,os⟩
theorem zJ(w:World)(sT:SharedT)(q q':Pos):RR w p b 1 (standAt q') sT q () sT q':=R.leaf 1 fun K H gd lv=>by
 obtain⟨T,n,l,g,d,k,o⟩:=sT;rfl
theorem C9:RR (v.withFollow row bb) p b 26 (pyHash (.ref 17)) (TX [] (v.withFollow row bb) os 222) dp (reduceHash (i1 (v.withFollow row bb).params)) (TX [] (v.withFollow row bb) os 225) dp:=by
 cases bb
 ·exact L6 v os p b
 ·exact Xz v os p b
theorem Vk:RR (v.withFollow row bb) p b 26 (pyHash (.ref 19)) (TX [e1 (v.withFollow row bb).params] (v.withFollow row bb) os 225) dp (reduceHash (i2 (v.withFollow row bb).params)) (TX [e1 (v.withFollow row bb).params] (v.withFollow row bb) os 228) dp:=by
 cases bb
 ·exact P6 v os p b
 ·exact Xv v os p b
theorem Qd:RR (v.withFollow row bb) p b 26 (pyHash (.ref 21)) (TX [e1 (v.withFollow row bb).params,e2 (v.withFollow row bb).params] (v.withFollow row bb) os 228) dp (reduceHash (i3 (v.withFollow row bb).params)) (TX [e1 (v.withFollow row bb).params,e2 (v.withFollow row bb).params] (v.withFollow row bb) os 231) dp:=by
 cases bb
 ·exact Zu v os p b
 ·exact O4 v os p b
theorem Q9(w:World)(es:List DictEntry):RR w p b 6 (bindName pre.env_1 "POINT_WORDS" (.ref 16)) (TX es w os 231) px () (T6 es w os) px:=R.leaf 6 fun K H gd lv=>by rw[Fast.te10295753902157049106,Fast.te14364793385576792824,Fast.te7536695828754713326];kernel_rfl
theorem Px(w:World):RR w p b 1 (alloc D0) (T0 w os) dp 16 (T1 w os) dp:=R.leaf 1 fun K H gd lv=>by kernel_rfl
theorem Hx:qM st=dp:=by kernel_rfl
theorem Vy:Bp st=px:=by kernel_rfl
theorem Ui:xW st=sp:=by kernel_rfl
theorem Ik:RR (v.withFollow row bb) p b 300 (exec st pre.env_1) (T0 (v.withFollow row bb) os) p5 .next (T6 (dE (v.withFollow row bb).params) (v.withFollow row bb) os) px:=by
 rw[Yn,exec_Assign_Name (env:=pre.env_1) "POINT_WORDS" (Bp st) (.Dict (xQ st) (vS st) (qM st)) (xW st) (by rfl),Ui,Vy]
 refine R.mono (N1:=1+(292+(1+(6+0)))) (by decide) (R.bind (zJ p b _ _ _ _) (R.bind (a:=.ref 16) (pos1:=dp) ?_ (R.bind (zJ p b _ _ _ _) (R.bind (Q9 os p b _ _) R.pure))))
 rw[arm_eval_Dict,zip_pairTrees (xQ st) (vS st) pre.env_1 (qM st) (by kernel_rfl) (by kernel_rfl),dictDisplay_pairs _ (fun h=>by have:=congrArg List.length h;rw[pairTrees_length _ _ _ _ (by kernel_rfl) (by kernel_rfl)]at this;exact absurd this (by decide)) (by rw[pairTrees_length _ _ _ _ (by kernel_rfl) (by kernel_rfl)];decide)]
 rw[Hx];refine R.bind (N1:=1) (N2:=291) (zJ p b _ _ _ _) (R.bind (N1:=291) (N2:=0) (a:=16) (pos1:=dp) ?_ R.pure);unfold subDict;refine R.bind (N1:=1) (N2:=290) (Px os p b _) (R.bind (N1:=290) (N2:=0) (a:=()) (pos1:=dp) (R.hold ?_) R.pure);rw[if_pos (by rw[pairTrees_length _ _ _ _ (by kernel_rfl) (by kernel_rfl)];decide)]
 have pr:=N4 (v.withFollow row bb) os p b
 rw[Hx]at pr;refine R.bind (N1:=34) (N2:=256) pr (R.hold ?_);simp only[List.forIn_cons,List.forIn_nil,bind_assoc,pure_bind];refine R.mono (N1:=26+5+(26+35+(26+105+0))) (by decide) (R.bind (R.hold (R.bind (C9 v bb os p b) (Pc os p b _ _))) ?_)
 refine R.bind (R.hold (R.bind (Vk v bb os p b) (Xh v bb os p b _ _))) ?_;refine R.bind (R.hold (R.bind (Qd v bb os p b) (Ql v bb os p b _ _ _))) ?_;exact R.pure
end
end H39
set_option maxHeartbeats 0
namespace H39
open PySem PySem.W HD
noncomputable def ov(es:List DictEntry)(t:BT):BT:=((((((t.ins 16 (dO es)).ins 17 (tp [.str "point" 203,.str "point" 204])).ins 18 (tp [.str "ahead" 205,.str "same" 206,.str "behind" 207])).ins 19 (tp [.str "point" 208,.str "stretch" 209])).ins 20 (tp [.str "ahead" 210,.str "begins" 211,.str "within" 212,.str "ends" 213,.str "behind" 214])).ins 21 (tp [.str "stretch" 215,.str "point" 216])).ins 22 (tp [.str "ahead" 217,.str "ended" 218,.str "holds" 219,.str "begun" 220,.str "behind" 221])
theorem t6(P:Params)(es:List DictEntry):zR P es=ov es (prx.tree_15 P):=by kernel_rfl
noncomputable abbrev TV(es:List DictEntry)(t:BT)(n k:Nat)(os:OsState):SharedT:=⟨ov es t,n,{},⟨[]⟩,{},k,os⟩
section
variable (w:World)(p:Program)(b:List Stmt)(os:OsState)(es:List DictEntry)
noncomputable abbrev cB(b:List Stmt):Code:=Code.body b prx.env_1
theorem D8:segRunT treeTable p w 11 (some (.ref 6)) 1 381 (TV es (prx.tree_15 w.params) 23 232 os) (piecesOf prx.sts_19 prx.env_1 (cB b) ⟨3,0,3,11⟩ [topFrame q0])=some (.next,TV es (prx.tree_33 w.params) 37 333 os,cB b,⟨4,0,4,4⟩):=by
 refine byRow2 "special-get-raises" (P:=fun w=>segRunT treeTable p w 11 (some (.ref 6)) 1 381 (TV es (prx.tree_15 w.params) 23 232 os) (piecesOf prx.sts_19 prx.env_1 (cB b) ⟨3,0,3,11⟩ [topFrame q0])=some (.next,TV es (prx.tree_33 w.params) 37 333 os,cB b,⟨4,0,4,4⟩)) (fun w=>?_) (fun w=>?_) w
 ·rw[Fast.te10110043849684766642,Fast.te14364793385576792824];kernel_rfl
 ·rw[Fast.te10110043849684766642,Fast.te14364793385576792824];kernel_rfl
theorem Xf:segRunT treeTable p w 11 (some (.ref 6)) 1 373 (TV es (prx.tree_33 w.params) 37 333 os) (piecesOf prx.sts_37 prx.env_1 (cB b) ⟨4,0,4,4⟩ [topFrame q0])=some (.next,TV es (prx.tree_108 w.params) 107 424 os,cB b,⟨34,0,39,15⟩):=by
 refine byRow2 "special-get-raises" (P:=fun w=>segRunT treeTable p w 11 (some (.ref 6)) 1 373 (TV es (prx.tree_33 w.params) 37 333 os) (piecesOf prx.sts_37 prx.env_1 (cB b) ⟨4,0,4,4⟩ [topFrame q0])=some (.next,TV es (prx.tree_108 w.params) 107 424 os,cB b,⟨34,0,39,15⟩)) (fun w=>?_) (fun w=>?_) w
 ·rw[Fast.te10110043849684766642,Fast.te14364793385576792824];kernel_rfl
 ·rw[Fast.te10110043849684766642,Fast.te14364793385576792824];kernel_rfl
theorem x4:segRunT treeTable p w 11 (some (.ref 6)) 1 118 (TV es (prx.tree_108 w.params) 107 424 os) (piecesOf prx.sts_112 prx.env_1 (cB b) ⟨34,0,39,15⟩ [topFrame q0])=some (.next,TV es (prx.tree_137 w.params) 131 457 os,cB b,⟨58,0,62,91⟩):=by
 refine byRow2 "special-get-raises" (P:=fun w=>segRunT treeTable p w 11 (some (.ref 6)) 1 118 (TV es (prx.tree_108 w.params) 107 424 os) (piecesOf prx.sts_112 prx.env_1 (cB b) ⟨34,0,39,15⟩ [topFrame q0])=some (.next,TV es (prx.tree_137 w.params) 131 457 os,cB b,⟨58,0,62,91⟩)) (fun w=>?_) (fun w=>?_) w
 ·rw[Fast.te10110043849684766642,Fast.te14364793385576792824];kernel_rfl
 ·rw[Fast.te10110043849684766642,Fast.te14364793385576792824];kernel_rfl
theorem D4:segRunT treeTable p w 11 (some (.ref 6)) 1 390 (TV es (prx.tree_137 w.params) 131 457 os) (piecesOf prx.sts_139 prx.env_1 (cB b) ⟨58,0,62,91⟩ [topFrame q0])=some (.next,TV es (prx.tree_194 w.params) 185 532 os,cB b,⟨94,0,95,75⟩):=by
 refine byRow2 "special-get-raises" (P:=fun w=>segRunT treeTable p w 11 (some (.ref 6)) 1 390 (TV es (prx.tree_137 w.params) 131 457 os) (piecesOf prx.sts_139 prx.env_1 (cB b) ⟨58,0,62,91⟩ [topFrame q0])=some (.next,TV es (prx.tree_194 w.params) 185 532 os,cB b,⟨94,0,95,75⟩)) (fun w=>?_) (fun w=>?_) w
 ·rw[Fast.te10110043849684766642,Fast.te14364793385576792824];kernel_rfl
 ·rw[Fast.te10110043849684766642,Fast.te14364793385576792824];kernel_rfl
theorem Sw:segRunT treeTable p w 11 (some (.ref 6)) 1 144 (TV es (prx.tree_194 w.params) 185 532 os) (piecesOf prx.sts_196 prx.env_1 (cB b) ⟨94,0,95,75⟩ [topFrame q0])=some (.next,TV es (prx.tree_226 w.params) 214 571 os,cB b,⟨130,0,145,15⟩):=by
 refine byRow2 "special-get-raises" (P:=fun w=>segRunT treeTable p w 11 (some (.ref 6)) 1 144 (TV es (prx.tree_194 w.params) 185 532 os) (piecesOf prx.sts_196 prx.env_1 (cB b) ⟨94,0,95,75⟩ [topFrame q0])=some (.next,TV es (prx.tree_226 w.params) 214 571 os,cB b,⟨130,0,145,15⟩)) (fun w=>?_) (fun w=>?_) w
 ·rw[Fast.te10110043849684766642,Fast.te14364793385576792824];kernel_rfl
 ·rw[Fast.te10110043849684766642,Fast.te14364793385576792824];kernel_rfl
end
noncomputable abbrev bE:List Stmt:=behindTheImports prog
theorem j2:bE=pre.sts_4++(st::(prx.sts_19++(prx.sts_37++(prx.sts_112++(prx.sts_139++(prx.sts_196++[])))))):=by kernel_rfl
theorem Yt:prx.env_1=pre.env_1:=by kernel_rfl
noncomputable abbrev SB(w:World)(os:OsState):SharedT:=⟨pre.tree_4 w.params,15,{},⟨[]⟩,{},187,os⟩
section
variable (w:World)(os:OsState)
theorem Vs:topGo treeTable prog w 11 (some (.ref 6)) 12 ⟨boot_heap w.params,⟨[]⟩,boot_drawn,boot_toks,os⟩ (topStub prog)=some ((SB w os).abs,⟨denote treeTable (.body bE pre.env_1),.body bE pre.env_1,q0,[topFrame q0]⟩):=by
 rw[Fast.te15667345088766844465,Fast.te11892475500146522536,Fast.te14364793385576792824];kernel_rfl
theorem Zl:segRun treeTable prog w 11 (some (.ref 6)) 1 1 (SB w os).abs (blockOf bE pre.env_1 (.body bE pre.env_1) q0 [topFrame q0])=some (.next,(SB w os).abs,.body bE pre.env_1,q0):=by
 kernel_rfl
theorem Y0(b:List Stmt)(es:List DictEntry):topRun treeTable prog w 11 (some (.ref 6)) 2 (TV es (prx.tree_226 w.params) 214 571 os).abs ⟨doneF .next,cB b,⟨130,0,145,15⟩,[topFrame q0]⟩=some (TV es (prx.tree_226 w.params) 214 571 os).abs:=by
 kernel_rfl
theorem AE{rest:List Stmt}{N:Nat}{r:Shared}(b:List Stmt)(h:topRun treeTable prog w 11 (some (.ref 6)) N (T6 (dE w.params) w os).abs (restOf rest pre.env_1 (.body b pre.env_1) ⟨3,0,3,11⟩ [topFrame q0])=some r) :
  topRun treeTable prog w 11 (some (.ref 6)) (301+N) (T0 w os).abs (restOf (st::rest) pre.env_1 (.body b pre.env_1) ⟨2,0,2,5⟩ [topFrame q0])=some r:=by
 revert h
 refine byRow2 "special-get-raises" (P:=fun w=>topRun treeTable prog w 11 (some (.ref 6)) N (T6 (dE w.params) w os).abs (restOf rest pre.env_1 (.body b pre.env_1) ⟨3,0,3,11⟩ [topFrame q0])=some r->topRun treeTable prog w 11 (some (.ref 6)) (301+N) (T0 w os).abs (restOf (st::rest) pre.env_1 (.body b pre.env_1) ⟨2,0,2,5⟩ [topFrame q0])=some r) (fun w h=>?_) (fun w h=>?_) w
 ·obtain⟨n,l,e⟩:=R.piece (Ik w false os prog b);have:=topRun_mono (301-n) _ _ _ _ (piece_cons e h)
  rw[show n+N+(301-n)=301+N by omega]at this
  exact this
 ·obtain⟨n,l,e⟩:=R.piece (Ik w true os prog b);have:=topRun_mono (301-n) _ _ _ _ (piece_cons e h)
  rw[show n+N+(301-n)=301+N by omega]at this
  exact this
theorem Ss(b:List Stmt)(es:List DictEntry):topRun treeTable prog w 11 (some (.ref 6)) (381+(373+(118+(390+(144+2))))) (T6 es w os).abs (restOf (prx.sts_19++(prx.sts_37++(prx.sts_112++(prx.sts_139++(prx.sts_196++[]))))) pre.env_1 (.body b pre.env_1) ⟨3,0,3,11⟩ [topFrame q0])=some (TV es (prx.tree_226 w.params) 214 571 os).abs:=by
 have e:(T6 es w os)=TV es (prx.tree_15 w.params) 23 232 os:=by
  show SharedT.mk (zR w.params es) _ _ _ _ _ _=_
  rw[t6]
 rw[e,<- Yt];exact piece_app (segRun_of (D8 w prog b os es)) (piece_app (segRun_of (Xf w prog b os es)) (piece_app (segRun_of (x4 w prog b os es)) (piece_app (segRun_of (D4 w prog b os es)) (piece_app (segRun_of (Sw w prog b os es)) (piece_nil (Y0 w os b es))))))
noncomputable def H1(P:Params):Heap:=absHeap (ov (dE P) (prx.tree_226 P)) 214 {}
theorem Wn:topRun treeTable prog w 11 (some (.ref 6)) (12+(1+(33+(301+(381+(373+(118+(390+(144+2))))))))) ⟨boot_heap w.params,⟨[]⟩,boot_drawn,boot_toks,os⟩ (topStub prog)=some ⟨H1 w.params,⟨[]⟩,{},571,os⟩:=by
 refine go_top (Vs w os) (piece_block (Zl w os) ?_);rw[j2];exact pre.chain prog _ w os _ _ _ (AE w os _ (Ss w os _ _))
end
def qv:Program:=view prog [1,2,3,4,5,6,7,8,9,11,12,13,14,15,17,18,19,20,21,22,23,25,26,27,28,29,30]
def lo:List Str:=[Str.ofString "POINT_WORDS",Str.ofString "WAYS",Str.ofString "END_COUNTS"]
abbrev lw:OpenLaw:=PySem.Challenge.rw_whens_k39_whole_plain_stays_plain
abbrev XT:Shared->Bool:=fun s=>xlAt qv [] s&&recOk (RowW.records lw.row.toRowW) s
theorem Tg(N:Nat)(h:Nat.ble 600 N=true):∀ w:World,(fencedOpening treeTable prog w N).map (fun s=>(s.heap,s.gens,s.drawn,s.toks))=some (boot_heap w.params,⟨[]⟩,boot_drawn,boot_toks):=boot_open (by kernel_rfl) h (fun _=>rfl)
theorem Vv(w:World):((boot_heap w.params).isNs mainGlobals&&(⟨[]⟩:Array GenState).size==0,(boot_heap w.params).objs.size,(boot_heap w.params).nsMap mainGlobals "__annotations__")=(true,11,some (.ref 6)):=by kernel_rfl
theorem d0(w:World)(os:OsState):(staticsOk (importedModules prog.main.body) (boot_heap w.params) (H1 w.params)&&namesBound prog (H1 w.params)&&gensDone ⟨H1 w.params,⟨[]⟩,{},571,os⟩&&laidKept (boot_heap w.params) (H1 w.params))=true:=by kernel_rfl
theorem Q0(w:World)(os:OsState):openSeen qv lo (importedModules prog.main.body) XT true ⟨H1 w.params,⟨[]⟩,{},571,os⟩=openGood qv lo:=by
 rw[Fast.te4187177175401517315];kernel_rfl
theorem left(H:Hook)(hH:∀ (w:World) (os:OsState),H.obs ⟨H1 w.params,⟨[]⟩,{},571,os⟩=H.val w):LeftO prog qv lo XT H.obs H.val 4160 :=
 LeftO.of_pieces (H₀:=boot_heap) (H₁:=H1) (gs₀:=⟨[]⟩) (gs₁:=⟨[]⟩) (d₀:=boot_drawn) (d₁:={}) (k₀:=boot_toks) (k₁:=571) (m₀:=11) (ann:=some (.ref 6)) (M:=1755) (Tg 4160 (by decide)) Vv Wn (by decide) fun w=>funext fun os=>by rw[d0 w os,Q0 w os,hH w os]
theorem head{H:Hook}{d:DefRec}{kwd:List (Str×Expr)}(hH:∀ (w:World) (os:OsState),H.obs ⟨H1 w.params,⟨[]⟩,{},571,os⟩=H.val w)(k1:lw.row.wellSaid=true)(hdef:defOf qv lw.row.name=some (d,kwd))(hp:lw.row.prog.theDef lw.row.name=some (d.params,d.body,d.scope))(hk:kwWritten? d.params.kwonlyargs d.params.kw_defaults=some kwd)
  (hw:lw.row.toRowW.promised) (call:WalkO qv lo (XL qv []) H.says lw.row.toRowW d kwd fun f vs=>PySem.call f vs):lw.row.Holds :=
 holds_open (q:=qv) (loose:=lo) (Xt:=XT) (XP:=XL qv []) (Yf:=H.obs) (Ya:=H.val) (YP:=H.says) (N:=4160) (left H hH) (Hook.of H) (Hook.keeps H) (fun s e=>xl_of s (Bool.and_eq_true_iff.mp e).1) XL.keeps hdef hp hk (fun s e=>recFacts_of (Bool.and_eq_true_iff.mp e).2) (by rfl) k1 (by decide +kernel) ⟨rfl,rfl,rfl,rfl,rfl,by decide +kernel⟩ hw call
end H39
namespace K39
open PySem PySem.Spec PyProof.Rows L2 DL
theorem vJ{P:List Value->Prop}(h:P []):∀ us:List Value,us.length=0->P us
 | [],_=>h
 | _::_,e=>nomatch e
theorem iN{P:List Value->Prop}{n:Nat}(h:∀ a us,us.length=n->P (a::us)):∀ us:List Value,us.length=n+1->P us
 | [],e=>nomatch e
 | a::us,e=>h a us (Nat.succ.inj e)
theorem oY{fd:FuncData}{ps:List Str}(h:∀ a0,bindArgs fd {pos:=[a0]}=pure (ps.zip [a0]))(us:List Value)(hl:us.length=1):bindArgs fd {pos:=us}=pure (ps.zip us) :=
 (iN (P:=fun us=>bindArgs fd {pos:=us}=pure (ps.zip (us))) (fun a0=>vJ (P:=fun us=>bindArgs fd {pos:=a0::us}=pure (ps.zip (a0::us))) (h a0))) us hl
theorem iI{fd:FuncData}{ps:List Str}(h:∀ a0 a1,bindArgs fd {pos:=[a0,a1]}=pure (ps.zip [a0,a1]))(us:List Value)(hl:us.length=2):bindArgs fd {pos:=us}=pure (ps.zip us) :=
 (iN (P:=fun us=>bindArgs fd {pos:=us}=pure (ps.zip (us))) (fun a0=>iN (P:=fun us=>bindArgs fd {pos:=a0::us}=pure (ps.zip (a0::us))) (fun a1=>vJ (P:=fun us=>bindArgs fd {pos:=a0::a1::us}=pure (ps.zip (a0::a1::us))) (h a0 a1)))) us hl
theorem wD{fd:FuncData}{ps:List Str}(h:∀ a0 a1 a2,bindArgs fd {pos:=[a0,a1,a2]}=pure (ps.zip [a0,a1,a2]))(us:List Value)(hl:us.length=3):bindArgs fd {pos:=us}=pure (ps.zip us) :=
 (iN (P:=fun us=>bindArgs fd {pos:=us}=pure (ps.zip (us))) (fun a0=>iN (P:=fun us=>bindArgs fd {pos:=a0::us}=pure (ps.zip (a0::us))) (fun a1=>iN (P:=fun us=>bindArgs fd {pos:=a0::a1::us}=pure (ps.zip (a0::a1::us))) (fun a2=>vJ (P:=fun us=>bindArgs fd {pos:=a0::a1::a2::us}=pure (ps.zip (a0::a1::a2::us))) (h a0 a1 a2))))) us hl
theorem uK{fd:FuncData}{ps:List Str}(h:∀ a0 a1 a2 a3,bindArgs fd {pos:=[a0,a1,a2,a3]}=pure (ps.zip [a0,a1,a2,a3]))(us:List Value)(hl:us.length=4):bindArgs fd {pos:=us}=pure (ps.zip us) :=
 (iN (P:=fun us=>bindArgs fd {pos:=us}=pure (ps.zip (us))) (fun a0=>iN (P:=fun us=>bindArgs fd {pos:=a0::us}=pure (ps.zip (a0::us))) (fun a1=>iN (P:=fun us=>bindArgs fd {pos:=a0::a1::us}=pure (ps.zip (a0::a1::us))) (fun a2=>iN (P:=fun us=>bindArgs fd {pos:=a0::a1::a2::us}=pure (ps.zip (a0::a1::a2::us))) (fun a3=>vJ (P:=fun us=>bindArgs fd {pos:=a0::a1::a2::a3::us}=pure (ps.zip (a0::a1::a2::a3::us))) (h a0 a1 a2 a3)))))) us hl
theorem all_mk{l:PySem.W.OpenLaw}{w:World}{K:PySem.W.Frag}{h:Heap}{mg:Str->Option Value}{fa:Addr}(X:K.In h)(G:h.Ns mainGlobals mg)(hfa:mg "law"=some (.ref fa))
  {bL:Addr} (g_Behinds:PySem.W.nsIn K mainGlobals "Behinds"=some (some (.ref bL))) (pg_Behinds:PySem.W.plainGet K bL Str.empty=true) (hd_Behinds:PySem.W.hasDictIn K bL=true) (po_Behinds:PySem.W.plainOver K bL=true) (sa_Behinds:PySem.W.findIn K (.ref bL) "__setattr__"=some (some (.builtin "object.__setattr__")))
  (mk_Behinds:PySem.W.makesIn K bL=true) (kc_Behinds:PySem.W.keepIn K (.ref bL)=true)
  (n_Behinds_by_words:PySem.W.findIn K (.ref bL) "by_words"=some none)
  (n_Behinds_by_mays:PySem.W.findIn K (.ref bL) "by_mays"=some none)
  {uU:Addr} {od_0 an_0:Option Addr} {sl_0:Array (Option Value)} {oc_0 kV_0 dc_0 pm_0 cd_0 ct_0:Value} (a0:PySem.W.nsIn K mainGlobals "words_of"=some (some (.ref uU))) (l0:K.lookup uU=some ⟨oc_0,od_0,.func (PySem.W.fnOf "words_of" "words_of" (aZ eJ) (aX eJ) (aO eJ) .none kV_0 dc_0 pm_0 an_0 cd_0 ct_0),sl_0⟩) (c0:PySem.W.codeIn K cd_0 "words_of"=true) (k0:PySem.W.keepIn K (.ref uU)=true)
  {vE:Addr} {od_1 an_1:Option Addr} {sl_1:Array (Option Value)} {oc_1 kV_1 dc_1 pm_1 cd_1 ct_1:Value} (a1:PySem.W.nsIn K mainGlobals "turned"=some (some (.ref vE))) (l1:K.lookup vE=some ⟨oc_1,od_1,.func (PySem.W.fnOf "turned" "turned" (aZ gU) (aX gU) (aO gU) .none kV_1 dc_1 pm_1 an_1 cd_1 ct_1),sl_1⟩) (c1:PySem.W.codeIn K cd_1 "turned"=true) (k1:PySem.W.keepIn K (.ref vE)=true)
  {uJ:Addr} {od_2 an_2:Option Addr} {sl_2:Array (Option Value)} {oc_2 kV_2 dc_2 pm_2 cd_2 ct_2:Value} (a2:PySem.W.nsIn K mainGlobals "turned_may"=some (some (.ref uJ))) (l2:K.lookup uJ=some ⟨oc_2,od_2,.func (PySem.W.fnOf "turned_may" "turned_may" (aZ gX) (aX gX) (aO gX) .none kV_2 dc_2 pm_2 an_2 cd_2 ct_2),sl_2⟩) (c2:PySem.W.codeIn K cd_2 "turned_may"=true) (k2:PySem.W.keepIn K (.ref uJ)=true)
  {wJ:Addr} {od_3 an_3:Option Addr} {sl_3:Array (Option Value)} {oc_3 kV_3 dc_3 pm_3 cd_3 ct_3:Value} (a3:PySem.W.nsIn K mainGlobals "ways_by"=some (some (.ref wJ))) (l3:K.lookup wJ=some ⟨oc_3,od_3,.func (PySem.W.fnOf "ways_by" "ways_by" (aZ eW) (aX eW) (aO eW) .none kV_3 dc_3 pm_3 an_3 cd_3 ct_3),sl_3⟩) (c3:PySem.W.codeIn K cd_3 "ways_by"=true) (k3:PySem.W.keepIn K (.ref wJ)=true)
  {xD:Addr} {od_4 an_4:Option Addr} {sl_4:Array (Option Value)} {oc_4 kV_4 dc_4 pm_4 cd_4 ct_4:Value} (a4:PySem.W.nsIn K mainGlobals "how_ends"=some (some (.ref xD))) (l4:K.lookup xD=some ⟨oc_4,od_4,.func (PySem.W.fnOf "how_ends" "how_ends" (aZ jB) (aX jB) (aO jB) .none kV_4 dc_4 pm_4 an_4 cd_4 ct_4),sl_4⟩) (c4:PySem.W.codeIn K cd_4 "how_ends"=true) (k4:PySem.W.keepIn K (.ref xD)=true)
  {tI:Addr} {od_5 an_5:Option Addr} {sl_5:Array (Option Value)} {oc_5 kV_5 dc_5 pm_5 cd_5 ct_5:Value} (a5:PySem.W.nsIn K mainGlobals "signs_in"=some (some (.ref tI))) (l5:K.lookup tI=some ⟨oc_5,od_5,.func (PySem.W.fnOf "signs_in" "signs_in" (aZ hR) (aX hR) (aO hR) .none kV_5 dc_5 pm_5 an_5 cd_5 ct_5),sl_5⟩) (c5:PySem.W.codeIn K cd_5 "signs_in"=true) (k5:PySem.W.keepIn K (.ref tI)=true)
  {sS:Addr} {od_6 an_6:Option Addr} {sl_6:Array (Option Value)} {oc_6 kV_6 dc_6 pm_6 cd_6 ct_6:Value} (a6:PySem.W.nsIn K mainGlobals "span_of"=some (some (.ref sS))) (l6:K.lookup sS=some ⟨oc_6,od_6,.func (PySem.W.fnOf "span_of" "span_of" (aZ gV) (aX gV) (aO gV) .none kV_6 dc_6 pm_6 an_6 cd_6 ct_6),sl_6⟩) (c6:PySem.W.codeIn K cd_6 "span_of"=true) (k6:PySem.W.keepIn K (.ref sS)=true)
  {uL:Addr} {od_7 an_7:Option Addr} {sl_7:Array (Option Value)} {oc_7 kV_7 dc_7 pm_7 cd_7 ct_7:Value} (a7:PySem.W.nsIn K mainGlobals "spans_of"=some (some (.ref uL))) (l7:K.lookup uL=some ⟨oc_7,od_7,.func (PySem.W.fnOf "spans_of" "spans_of" (aZ iB) (aX iB) (aO iB) .none kV_7 dc_7 pm_7 an_7 cd_7 ct_7),sl_7⟩) (c7:PySem.W.codeIn K cd_7 "spans_of"=true) (k7:PySem.W.keepIn K (.ref uL)=true)
  {xB:Addr} {od_8 an_8:Option Addr} {sl_8:Array (Option Value)} {oc_8 kV_8 dc_8 pm_8 cd_8 ct_8:Value} (a8:PySem.W.nsIn K mainGlobals "plain_around"=some (some (.ref xB))) (l8:K.lookup xB=some ⟨oc_8,od_8,.func (PySem.W.fnOf "plain_around" "plain_around" (aZ gM) (aX gM) (aO gM) .none kV_8 dc_8 pm_8 an_8 cd_8 ct_8),sl_8⟩) (c8:PySem.W.codeIn K cd_8 "plain_around"=true) (k8:PySem.W.keepIn K (.ref xB)=true)
  {xH:Addr} {od_9 an_9:Option Addr} {sl_9:Array (Option Value)} {oc_9 kV_9 dc_9 pm_9 cd_9 ct_9:Value} (a9:PySem.W.nsIn K mainGlobals "is_plain"=some (some (.ref xH))) (l9:K.lookup xH=some ⟨oc_9,od_9,.func (PySem.W.fnOf "is_plain" "is_plain" (aZ fB) (aX fB) (aO fB) .none kV_9 dc_9 pm_9 an_9 cd_9 ct_9),sl_9⟩) (c9:PySem.W.codeIn K cd_9 "is_plain"=true) (k9:PySem.W.keepIn K (.ref xH)=true)
  {wB:Addr} {od_10 an_10:Option Addr} {sl_10:Array (Option Value)} {oc_10 kV_10 dc_10 pm_10 cd_10 ct_10:Value} (a10:PySem.W.nsIn K mainGlobals "forced_way"=some (some (.ref wB))) (l10:K.lookup wB=some ⟨oc_10,od_10,.func (PySem.W.fnOf "forced_way" "forced_way" (aZ iY) (aX iY) (aO iY) .none kV_10 dc_10 pm_10 an_10 cd_10 ct_10),sl_10⟩) (c10:PySem.W.codeIn K cd_10 "forced_way"=true) (k10:PySem.W.keepIn K (.ref wB)=true)
  {uQ:Addr} {od_11 an_11:Option Addr} {sl_11:Array (Option Value)} {oc_11 kV_11 dc_11 pm_11 cd_11 ct_11:Value} (a11:PySem.W.nsIn K mainGlobals "forced_by"=some (some (.ref uQ))) (l11:K.lookup uQ=some ⟨oc_11,od_11,.func (PySem.W.fnOf "forced_by" "forced_by" (aZ iO) (aX iO) (aO iO) .none kV_11 dc_11 pm_11 an_11 cd_11 ct_11),sl_11⟩) (c11:PySem.W.codeIn K cd_11 "forced_by"=true) (k11:PySem.W.keepIn K (.ref uQ)=true)
  {vU:Addr} {od_12 an_12:Option Addr} {sl_12:Array (Option Value)} {oc_12 kV_12 dc_12 pm_12 cd_12 ct_12:Value} (a12:PySem.W.nsIn K mainGlobals "forced_ways"=some (some (.ref vU))) (l12:K.lookup vU=some ⟨oc_12,od_12,.func (PySem.W.fnOf "forced_ways" "forced_ways" (aZ gP) (aX gP) (aO gP) .none kV_12 dc_12 pm_12 an_12 cd_12 ct_12),sl_12⟩) (c12:PySem.W.codeIn K cd_12 "forced_ways"=true) (k12:PySem.W.keepIn K (.ref vU)=true)
  {sW:Addr} {od_13 an_13:Option Addr} {sl_13:Array (Option Value)} {oc_13 kV_13 dc_13 pm_13 cd_13 ct_13:Value} (a13:PySem.W.nsIn K mainGlobals "go_with"=some (some (.ref sW))) (l13:K.lookup sW=some ⟨oc_13,od_13,.func (PySem.W.fnOf "go_with" "go_with" (aZ iT) (aX iT) (aO iT) .none kV_13 dc_13 pm_13 an_13 cd_13 ct_13),sl_13⟩) (c13:PySem.W.codeIn K cd_13 "go_with"=true) (k13:PySem.W.keepIn K (.ref sW)=true)
  {wQ:Addr} {od_14 an_14:Option Addr} {sl_14:Array (Option Value)} {oc_14 kV_14 dc_14 pm_14 cd_14 ct_14:Value} (a14:PySem.W.nsIn K mainGlobals "behind_words"=some (some (.ref wQ))) (l14:K.lookup wQ=some ⟨oc_14,od_14,.func (PySem.W.fnOf "behind_words" "behind_words" (aZ gB) (aX gB) (aO gB) .none kV_14 dc_14 pm_14 an_14 cd_14 ct_14),sl_14⟩) (c14:PySem.W.codeIn K cd_14 "behind_words"=true) (k14:PySem.W.keepIn K (.ref wQ)=true)
  {qC:Addr} {od_15 an_15:Option Addr} {sl_15:Array (Option Value)} {oc_15 kV_15 dc_15 pm_15 cd_15 ct_15:Value} (a15:PySem.W.findIn K (.ref bL) "__init__"=some (some (.ref qC))) (l15:K.lookup qC=some ⟨oc_15,od_15,.func (PySem.W.fnOf "__init__" "Behinds.__init__" (aZ gW) (aX gW) (aO gW) .none kV_15 dc_15 pm_15 an_15 cd_15 ct_15),sl_15⟩) (c15:PySem.W.codeIn K cd_15 "Behinds.__init__"=true) (k15:PySem.W.keepIn K (.ref qC)=true)
  (i15:PySem.W.isFn K (.ref qC)=true)
  {qG:Addr} {od_16 an_16:Option Addr} {sl_16:Array (Option Value)} {oc_16 kV_16 dc_16 pm_16 cd_16 ct_16:Value} (a16:PySem.W.findIn K (.ref bL) "words"=some (some (.ref qG))) (l16:K.lookup qG=some ⟨oc_16,od_16,.func (PySem.W.fnOf "words" "Behinds.words" (aZ iK) (aX iK) (aO iK) .none kV_16 dc_16 pm_16 an_16 cd_16 ct_16),sl_16⟩) (c16:PySem.W.codeIn K cd_16 "Behinds.words"=true) (k16:PySem.W.keepIn K (.ref qG)=true)
  (i16:PySem.W.isFn K (.ref qG)=true)
  {nN:Addr} {od_17 an_17:Option Addr} {sl_17:Array (Option Value)} {oc_17 kV_17 dc_17 pm_17 cd_17 ct_17:Value} (a17:PySem.W.findIn K (.ref bL) "gathered"=some (some (.ref nN))) (l17:K.lookup nN=some ⟨oc_17,od_17,.func (PySem.W.fnOf "gathered" "Behinds.gathered" (aZ gY) (aX gY) (aO gY) .none kV_17 dc_17 pm_17 an_17 cd_17 ct_17),sl_17⟩) (c17:PySem.W.codeIn K cd_17 "Behinds.gathered"=true) (k17:PySem.W.keepIn K (.ref nN)=true)
  (i17:PySem.W.isFn K (.ref nN)=true)
  {vW:Addr} {od_18 an_18:Option Addr} {sl_18:Array (Option Value)} {oc_18 kV_18 dc_18 pm_18 cd_18 ct_18:Value} (a18:PySem.W.nsIn K mainGlobals "behind_mays"=some (some (.ref vW))) (l18:K.lookup vW=some ⟨oc_18,od_18,.func (PySem.W.fnOf "behind_mays" "behind_mays" (aZ gR) (aX gR) (aO gR) .none kV_18 dc_18 pm_18 an_18 cd_18 ct_18),sl_18⟩) (c18:PySem.W.codeIn K cd_18 "behind_mays"=true) (k18:PySem.W.keepIn K (.ref vW)=true)
  {wR:Addr} {od_19 an_19:Option Addr} {sl_19:Array (Option Value)} {oc_19 kV_19 dc_19 pm_19 cd_19 ct_19:Value} (a19:PySem.W.nsIn K mainGlobals "_law_feed"=some (some (.ref wR))) (l19:K.lookup wR=some ⟨oc_19,od_19,.func (PySem.W.fnOf "_law_feed" "_law_feed" (aZ iX) (aX iX) (aO iX) .none kV_19 dc_19 pm_19 an_19 cd_19 ct_19),sl_19⟩) (c19:PySem.W.codeIn K cd_19 "_law_feed"=true) (k19:PySem.W.keepIn K (.ref wR)=true)
  {vM:Addr} {od_20 an_20:Option Addr} {sl_20:Array (Option Value)} {oc_20 kV_20 dc_20 pm_20 cd_20 ct_20:Value} (a20:PySem.W.nsIn K mainGlobals "_law_draw"=some (some (.ref vM))) (l20:K.lookup vM=some ⟨oc_20,od_20,.func (PySem.W.fnOf "_law_draw" "_law_draw" (aZ gI) (aX gI) (aO gI) .none kV_20 dc_20 pm_20 an_20 cd_20 ct_20),sl_20⟩) (c20:PySem.W.codeIn K cd_20 "_law_draw"=true) (k20:PySem.W.keepIn K (.ref vM)=true)
  {xA:Addr} {od_21 an_21:Option Addr} {sl_21:Array (Option Value)} {oc_21 kV_21 dc_21 pm_21 cd_21 ct_21:Value} (a21:PySem.W.nsIn K mainGlobals "_law_plain"=some (some (.ref xA))) (l21:K.lookup xA=some ⟨oc_21,od_21,.func (PySem.W.fnOf "_law_plain" "_law_plain" (aZ hX) (aX hX) (aO hX) .none kV_21 dc_21 pm_21 an_21 cd_21 ct_21),sl_21⟩) (c21:PySem.W.codeIn K cd_21 "_law_plain"=true) (k21:PySem.W.keepIn K (.ref xA)=true)
  {tP:Addr} {od_22 an_22:Option Addr} {sl_22:Array (Option Value)} {oc_22 kV_22 dc_22 pm_22 cd_22 ct_22:Value} (a22:PySem.W.nsIn K mainGlobals "_law_turned_right"=some (some (.ref tP))) (l22:K.lookup tP=some ⟨oc_22,od_22,.func (PySem.W.fnOf "_law_turned_right" "_law_turned_right" (aZ hJ) (aX hJ) (aO hJ) .none kV_22 dc_22 pm_22 an_22 cd_22 ct_22),sl_22⟩) (c22:PySem.W.codeIn K cd_22 "_law_turned_right"=true) (k22:PySem.W.keepIn K (.ref tP)=true)
  {uW:Addr} {od_23 an_23:Option Addr} {sl_23:Array (Option Value)} {oc_23 kV_23 dc_23 pm_23 cd_23 ct_23:Value} (a23:PySem.W.nsIn K mainGlobals "_law_behind_right"=some (some (.ref uW))) (l23:K.lookup uW=some ⟨oc_23,od_23,.func (PySem.W.fnOf "_law_behind_right" "_law_behind_right" (aZ hZ) (aX hZ) (aO hZ) .none kV_23 dc_23 pm_23 an_23 cd_23 ct_23),sl_23⟩) (c23:PySem.W.codeIn K cd_23 "_law_behind_right"=true) (k23:PySem.W.keepIn K (.ref uW)=true)
  {tV:Addr} {od_24 an_24:Option Addr} {sl_24:Array (Option Value)} {oc_24 kV_24 dc_24 pm_24 cd_24 ct_24:Value} (a24:PySem.W.nsIn K mainGlobals "law"=some (some (.ref tV))) (l24:K.lookup tV=some ⟨oc_24,od_24,.func (PySem.W.fnOf "law" "law" (aZ fR) (aX fR) (aO fR) .none kV_24 dc_24 pm_24 an_24 cd_24 ct_24),sl_24⟩) (c24:PySem.W.codeIn K cd_24 "law"=true) (k24:PySem.W.keepIn K (.ref tV)=true)
  {kR r_WAYS_0 r_WAYS_1 r_WAYS_2 r_WAYS_3 r_WAYS_4 r_WAYS_5 r_WAYS_6 r_WAYS_7 r_WAYS_8 r_WAYS_9 r_WAYS_10 r_WAYS_11 r_WAYS_12:Addr} {n_WAYS:Nat} {t_WAYS_0 u_WAYS_0_0 u_WAYS_0_1 u_WAYS_0_2 u_WAYS_0_3 t_WAYS_1 u_WAYS_1_0 u_WAYS_1_1 u_WAYS_1_2 u_WAYS_1_3 t_WAYS_2 u_WAYS_2_0 u_WAYS_2_1 u_WAYS_2_2 u_WAYS_2_3 t_WAYS_3 u_WAYS_3_0 u_WAYS_3_1 u_WAYS_3_2 u_WAYS_3_3 t_WAYS_4 u_WAYS_4_0 u_WAYS_4_1 u_WAYS_4_2 u_WAYS_4_3 t_WAYS_5 u_WAYS_5_0 u_WAYS_5_1 u_WAYS_5_2 u_WAYS_5_3 t_WAYS_6 u_WAYS_6_0 u_WAYS_6_1 u_WAYS_6_2 u_WAYS_6_3 t_WAYS_7 u_WAYS_7_0 u_WAYS_7_1 u_WAYS_7_2 u_WAYS_7_3 t_WAYS_8 u_WAYS_8_0 u_WAYS_8_1 u_WAYS_8_2 u_WAYS_8_3 t_WAYS_9 u_WAYS_9_0 u_WAYS_9_1 u_WAYS_9_2 u_WAYS_9_3 t_WAYS_10 u_WAYS_10_0 u_WAYS_10_1 u_WAYS_10_2 u_WAYS_10_3 t_WAYS_11 u_WAYS_11_0 u_WAYS_11_1 u_WAYS_11_2 u_WAYS_11_3 t_WAYS_12 u_WAYS_12_0 u_WAYS_12_1 u_WAYS_12_2 u_WAYS_12_3:Tok} (zU:PySem.W.nsIn K mainGlobals "WAYS"=some (some (.ref kR))) (zH:K.lookup kR=some ⟨.type "dict",none,.dict #[⟨PyData.keyHash w.params "ahead",.str "ahead" t_WAYS_0,.ref r_WAYS_0⟩,⟨PyData.keyHash w.params "meets",.str "meets" t_WAYS_1,.ref r_WAYS_1⟩,⟨PyData.keyHash w.params "overlaps",.str "overlaps" t_WAYS_2,.ref r_WAYS_2⟩,⟨PyData.keyHash w.params "begins",.str "begins" t_WAYS_3,.ref r_WAYS_3⟩,⟨PyData.keyHash w.params "within",.str "within" t_WAYS_4,.ref r_WAYS_4⟩,⟨PyData.keyHash w.params "ends",.str "ends" t_WAYS_5,.ref r_WAYS_5⟩,⟨PyData.keyHash w.params "same",.str "same" t_WAYS_6,.ref r_WAYS_6⟩,⟨PyData.keyHash w.params "ended",.str "ended" t_WAYS_7,.ref r_WAYS_7⟩,⟨PyData.keyHash w.params "holds",.str "holds" t_WAYS_8,.ref r_WAYS_8⟩,⟨PyData.keyHash w.params "begun",.str "begun" t_WAYS_9,.ref r_WAYS_9⟩,⟨PyData.keyHash w.params "lapped",.str "lapped" t_WAYS_10,.ref r_WAYS_10⟩,⟨PyData.keyHash w.params "met",.str "met" t_WAYS_11,.ref r_WAYS_11⟩,⟨PyData.keyHash w.params "behind",.str "behind" t_WAYS_12,.ref r_WAYS_12⟩] n_WAYS,#[]⟩) {n_WAYS_0:Nat} {sl_WAYS_0:Array (Option Value)} (Ba:K.lookup r_WAYS_0=some ⟨.type "tuple",none,.seq #[.int (-1) u_WAYS_0_0,.int (-1) u_WAYS_0_1,.int (-1) u_WAYS_0_2,.int (-1) u_WAYS_0_3] n_WAYS_0,sl_WAYS_0⟩) {n_WAYS_1:Nat} {sl_WAYS_1:Array (Option Value)} (yS:K.lookup r_WAYS_1=some ⟨.type "tuple",none,.seq #[.int (-1) u_WAYS_1_0,.int (-1) u_WAYS_1_1,.int (0) u_WAYS_1_2,.int (-1) u_WAYS_1_3] n_WAYS_1,sl_WAYS_1⟩) {n_WAYS_2:Nat} {sl_WAYS_2:Array (Option Value)} (yK:K.lookup r_WAYS_2=some ⟨.type "tuple",none,.seq #[.int (-1) u_WAYS_2_0,.int (-1) u_WAYS_2_1,.int (1) u_WAYS_2_2,.int (-1) u_WAYS_2_3] n_WAYS_2,sl_WAYS_2⟩) {n_WAYS_3:Nat} {sl_WAYS_3:Array (Option Value)} (Az:K.lookup r_WAYS_3=some ⟨.type "tuple",none,.seq #[.int (0) u_WAYS_3_0,.int (-1) u_WAYS_3_1,.int (1) u_WAYS_3_2,.int (-1) u_WAYS_3_3] n_WAYS_3,sl_WAYS_3⟩) {n_WAYS_4:Nat} {sl_WAYS_4:Array (Option Value)} (Bt:K.lookup r_WAYS_4=some ⟨.type "tuple",none,.seq #[.int (1) u_WAYS_4_0,.int (-1) u_WAYS_4_1,.int (1) u_WAYS_4_2,.int (-1) u_WAYS_4_3] n_WAYS_4,sl_WAYS_4⟩) {n_WAYS_5:Nat} {sl_WAYS_5:Array (Option Value)} (Ch:K.lookup r_WAYS_5=some ⟨.type "tuple",none,.seq #[.int (1) u_WAYS_5_0,.int (-1) u_WAYS_5_1,.int (1) u_WAYS_5_2,.int (0) u_WAYS_5_3] n_WAYS_5,sl_WAYS_5⟩) {n_WAYS_6:Nat} {sl_WAYS_6:Array (Option Value)} (Be:K.lookup r_WAYS_6=some ⟨.type "tuple",none,.seq #[.int (0) u_WAYS_6_0,.int (-1) u_WAYS_6_1,.int (1) u_WAYS_6_2,.int (0) u_WAYS_6_3] n_WAYS_6,sl_WAYS_6⟩) {n_WAYS_7:Nat} {sl_WAYS_7:Array (Option Value)} (Br:K.lookup r_WAYS_7=some ⟨.type "tuple",none,.seq #[.int (-1) u_WAYS_7_0,.int (-1) u_WAYS_7_1,.int (1) u_WAYS_7_2,.int (0) u_WAYS_7_3] n_WAYS_7,sl_WAYS_7⟩) {n_WAYS_8:Nat} {sl_WAYS_8:Array (Option Value)} (yH:K.lookup r_WAYS_8=some ⟨.type "tuple",none,.seq #[.int (-1) u_WAYS_8_0,.int (-1) u_WAYS_8_1,.int (1) u_WAYS_8_2,.int (1) u_WAYS_8_3] n_WAYS_8,sl_WAYS_8⟩) {n_WAYS_9:Nat} {sl_WAYS_9:Array (Option Value)} (Bz:K.lookup r_WAYS_9=some ⟨.type "tuple",none,.seq #[.int (0) u_WAYS_9_0,.int (-1) u_WAYS_9_1,.int (1) u_WAYS_9_2,.int (1) u_WAYS_9_3] n_WAYS_9,sl_WAYS_9⟩) {n_WAYS_10:Nat} {sl_WAYS_10:Array (Option Value)} (De:K.lookup r_WAYS_10=some ⟨.type "tuple",none,.seq #[.int (1) u_WAYS_10_0,.int (-1) u_WAYS_10_1,.int (1) u_WAYS_10_2,.int (1) u_WAYS_10_3] n_WAYS_10,sl_WAYS_10⟩) {n_WAYS_11:Nat} {sl_WAYS_11:Array (Option Value)} (Eh:K.lookup r_WAYS_11=some ⟨.type "tuple",none,.seq #[.int (1) u_WAYS_11_0,.int (0) u_WAYS_11_1,.int (1) u_WAYS_11_2,.int (1) u_WAYS_11_3] n_WAYS_11,sl_WAYS_11⟩) {n_WAYS_12:Nat} {sl_WAYS_12:Array (Option Value)} (zZ:K.lookup r_WAYS_12=some ⟨.type "tuple",none,.seq #[.int (1) u_WAYS_12_0,.int (1) u_WAYS_12_1,.int (1) u_WAYS_12_2,.int (1) u_WAYS_12_3] n_WAYS_12,sl_WAYS_12⟩) (y_WAYS:(kR==sysModules)=false)
  {eA:Addr} {n_END_COUNTS:Nat} {t_END_COUNTS_0 u_END_COUNTS_0 t_END_COUNTS_1 u_END_COUNTS_1:Tok} (Fg:PySem.W.nsIn K mainGlobals "END_COUNTS"=some (some (.ref eA))) (Ci:K.lookup eA=some ⟨.type "dict",none,.dict #[⟨PyData.keyHash w.params "point",.str "point" t_END_COUNTS_0,.int (1) u_END_COUNTS_0⟩,⟨PyData.keyHash w.params "stretch",.str "stretch" t_END_COUNTS_1,.int (2) u_END_COUNTS_1⟩] n_END_COUNTS,#[]⟩)  (y_END_COUNTS:(eA==sysModules)=false)
  {jY k_POINT_WORDS_0 r_POINT_WORDS_0 k_POINT_WORDS_1 r_POINT_WORDS_1 k_POINT_WORDS_2 r_POINT_WORDS_2:Addr} {n_POINT_WORDS:Nat} {tk_POINT_WORDS_0_0 tk_POINT_WORDS_0_1 tr_POINT_WORDS_0_0 tr_POINT_WORDS_0_1 tr_POINT_WORDS_0_2 tk_POINT_WORDS_1_0 tk_POINT_WORDS_1_1 tr_POINT_WORDS_1_0 tr_POINT_WORDS_1_1 tr_POINT_WORDS_1_2 tr_POINT_WORDS_1_3 tr_POINT_WORDS_1_4 tk_POINT_WORDS_2_0 tk_POINT_WORDS_2_1 tr_POINT_WORDS_2_0 tr_POINT_WORDS_2_1 tr_POINT_WORDS_2_2 tr_POINT_WORDS_2_3 tr_POINT_WORDS_2_4:Tok} (Cm:PySem.W.nsIn K mainGlobals "POINT_WORDS"=some (some (.ref jY))) (Em:K.lookup jY=some ⟨.type "dict",none,.dict #[⟨reduceHash (Builtin.Tuple.tupleHashOf [PyData.keyHash w.params "point",PyData.keyHash w.params "point"]),.ref k_POINT_WORDS_0,.ref r_POINT_WORDS_0⟩,⟨reduceHash (Builtin.Tuple.tupleHashOf [PyData.keyHash w.params "point",PyData.keyHash w.params "stretch"]),.ref k_POINT_WORDS_1,.ref r_POINT_WORDS_1⟩,⟨reduceHash (Builtin.Tuple.tupleHashOf [PyData.keyHash w.params "stretch",PyData.keyHash w.params "point"]),.ref k_POINT_WORDS_2,.ref r_POINT_WORDS_2⟩] n_POINT_WORDS,#[]⟩) {nk_POINT_WORDS_0:Nat} {slk_POINT_WORDS_0:Array (Option Value)} (lk_POINT_WORDS_0:K.lookup k_POINT_WORDS_0=some ⟨.type "tuple",none,.seq #[.str "point" tk_POINT_WORDS_0_0,.str "point" tk_POINT_WORDS_0_1] nk_POINT_WORDS_0,slk_POINT_WORDS_0⟩) {nr_POINT_WORDS_0:Nat} {slr_POINT_WORDS_0:Array (Option Value)} (lr_POINT_WORDS_0:K.lookup r_POINT_WORDS_0=some ⟨.type "tuple",none,.seq #[.str "ahead" tr_POINT_WORDS_0_0,.str "same" tr_POINT_WORDS_0_1,.str "behind" tr_POINT_WORDS_0_2] nr_POINT_WORDS_0,slr_POINT_WORDS_0⟩) {nk_POINT_WORDS_1:Nat} {slk_POINT_WORDS_1:Array (Option Value)} (lk_POINT_WORDS_1:K.lookup k_POINT_WORDS_1=some ⟨.type "tuple",none,.seq #[.str "point" tk_POINT_WORDS_1_0,.str "stretch" tk_POINT_WORDS_1_1] nk_POINT_WORDS_1,slk_POINT_WORDS_1⟩) {nr_POINT_WORDS_1:Nat} {slr_POINT_WORDS_1:Array (Option Value)} (lr_POINT_WORDS_1:K.lookup r_POINT_WORDS_1=some ⟨.type "tuple",none,.seq #[.str "ahead" tr_POINT_WORDS_1_0,.str "begins" tr_POINT_WORDS_1_1,.str "within" tr_POINT_WORDS_1_2,.str "ends" tr_POINT_WORDS_1_3,.str "behind" tr_POINT_WORDS_1_4] nr_POINT_WORDS_1,slr_POINT_WORDS_1⟩) {nk_POINT_WORDS_2:Nat} {slk_POINT_WORDS_2:Array (Option Value)} (lk_POINT_WORDS_2:K.lookup k_POINT_WORDS_2=some ⟨.type "tuple",none,.seq #[.str "stretch" tk_POINT_WORDS_2_0,.str "point" tk_POINT_WORDS_2_1] nk_POINT_WORDS_2,slk_POINT_WORDS_2⟩) {nr_POINT_WORDS_2:Nat} {slr_POINT_WORDS_2:Array (Option Value)} (lr_POINT_WORDS_2:K.lookup r_POINT_WORDS_2=some ⟨.type "tuple",none,.seq #[.str "ahead" tr_POINT_WORDS_2_0,.str "ended" tr_POINT_WORDS_2_1,.str "holds" tr_POINT_WORDS_2_2,.str "begun" tr_POINT_WORDS_2_3,.str "behind" tr_POINT_WORDS_2_4] nr_POINT_WORDS_2,slr_POINT_WORDS_2⟩) (y_POINT_WORDS:(jY==sysModules)=false)
  {gS:Addr} {n_ORDER:Nat} {sl_ORDER:Array (Option Value)} {t_ORDER_0 t_ORDER_1 t_ORDER_2 t_ORDER_3 t_ORDER_4 t_ORDER_5 t_ORDER_6 t_ORDER_7 t_ORDER_8 t_ORDER_9 t_ORDER_10 t_ORDER_11 t_ORDER_12:Tok} (Cl:PySem.W.nsIn K mainGlobals "ORDER"=some (some (.ref gS))) (Bn:K.lookup gS=some ⟨.type "tuple",none,.seq #[.str "ahead" t_ORDER_0,.str "meets" t_ORDER_1,.str "overlaps" t_ORDER_2,.str "begins" t_ORDER_3,.str "within" t_ORDER_4,.str "ends" t_ORDER_5,.str "same" t_ORDER_6,.str "ended" t_ORDER_7,.str "holds" t_ORDER_8,.str "begun" t_ORDER_9,.str "lapped" t_ORDER_10,.str "met" t_ORDER_11,.str "behind" t_ORDER_12] n_ORDER,sl_ORDER⟩)
  (z_tuple:PySem.W.nsIn K mainGlobals "tuple"=some none)
  (z_reversed:PySem.W.nsIn K mainGlobals "reversed"=some none)
  (z_sorted:PySem.W.nsIn K mainGlobals "sorted"=some none)
  (z_range:PySem.W.nsIn K mainGlobals "range"=some none)
  (z_all:PySem.W.nsIn K mainGlobals "all"=some none)
  (z_zip:PySem.W.nsIn K mainGlobals "zip"=some none)
  (z_len:PySem.W.nsIn K mainGlobals "len"=some none)
  (z_list:PySem.W.nsIn K mainGlobals "list"=some none)
  (z_int:PySem.W.nsIn K mainGlobals "int"=some none)
  : ∃ fd:FuncData,(∀ (s:Shared) (v:Value),BindsTo s fd ⟨[v],[]⟩ [("_law_script",v)])/\∀ base:Heap,K.In base->base.Ns mainGlobals mg->FnOk l.prog w K mg base aP 9 fa fd ["_law_script"] (LSp K 1 pR):=by
 have e:=hfa.symm.trans (PySem.W.mg_of X G a24)
 cases e
 have dR:=cF (st:=eJ) l0 c0 k0
 have fM:=(dR).binds (ps:=eG) fun _ _ _ _ _ _ us hl=>oY (by intros;rfl) us hl
 have fP:=PySem.W.mg_of X G a0
 have lP:=cF (st:=gU) l1 c1 k1
 have yP:=(lP).binds (ps:=mO) fun _ _ _ _ _ _ us hl=>oY (by intros;rfl) us hl
 have zE:=PySem.W.mg_of X G a1
 have kE:=cF (st:=gX) l2 c2 k2
 have xG:=(kE).binds (ps:=kY) fun _ _ _ _ _ _ us hl=>oY (by intros;rfl) us hl
 have sO:=PySem.W.mg_of X G a2
 have dJ:=cF (st:=eW) l3 c3 k3
 have eQ:=(dJ).binds (ps:=eK) fun _ _ _ _ _ _ us hl=>iI (by intros;rfl) us hl
 have eV:=PySem.W.mg_of X G a3
 have lH:=cF (st:=jB) l4 c4 k4
 have zQ:=(lH).binds (ps:=lQ) fun _ _ _ _ _ _ us hl=>uK (by intros;rfl) us hl
 have Dg:=PySem.W.mg_of X G a4
 have mK:=cF (st:=hR) l5 c5 k5
 have Ek:=(mK).binds (ps:=mS) fun _ _ _ _ _ _ us hl=>uK (by intros;rfl) us hl
 have zY:=PySem.W.mg_of X G a5
 have lO:=cF (st:=gV) l6 c6 k6
 have Ec:=(lO).binds (ps:=lV) fun _ _ _ _ _ _ us hl=>oY (by intros;rfl) us hl
 have yR:=PySem.W.mg_of X G a6
 have lY:=cF (st:=iB) l7 c7 k7
 have Dl:=(lY).binds (ps:=mY) fun _ _ _ _ _ _ us hl=>iI (by intros;rfl) us hl
 have Ap:=PySem.W.mg_of X G a7
 have iE:=cF (st:=gM) l8 c8 k8
 have pK:=(iE).binds (ps:=jO) fun _ _ _ _ _ _ us hl=>iI (by intros;rfl) us hl
 have nM:=PySem.W.mg_of X G a8
 have eM:=cF (st:=fB) l9 c9 k9
 have jC:=(eM).binds (ps:=gC) fun _ _ _ _ _ _ us hl=>iI (by intros;rfl) us hl
 have jR:=PySem.W.mg_of X G a9
 have lR:=cF (st:=iY) l10 c10 k10
 have zD:=(lR).binds (ps:=mH) fun _ _ _ _ _ _ us hl=>iI (by intros;rfl) us hl
 have Al:=PySem.W.mg_of X G a10
 have lM:=cF (st:=iO) l11 c11 k11
 have Fn:=(lM).binds (ps:=mF) fun _ _ _ _ _ _ us hl=>iI (by intros;rfl) us hl
 have zN:=PySem.W.mg_of X G a11
 have lE:=cF (st:=gP) l12 c12 k12
 have Ep:=(lE).binds (ps:=lN) fun _ _ _ _ _ _ us hl=>wD (by intros;rfl) us hl
 have zX:=PySem.W.mg_of X G a12
 have lD:=cF (st:=iT) l13 c13 k13
 have Ck:=(lD).binds (ps:=lZ) fun _ _ _ _ _ _ us hl=>iI (by intros;rfl) us hl
 have Ej:=PySem.W.mg_of X G a13
 have iM:=cF (st:=gB) l14 c14 k14
 have pF:=(iM).binds (ps:=jD) fun _ _ _ _ _ _ us hl=>wD (by intros;rfl) us hl
 have pB:=PySem.W.mg_of X G a14
 have nL:=cF (st:=gW) l15 c15 k15
 have xZ:=(nL).binds (ps:=lL) fun _ _ _ _ _ _ us hl=>oY (by intros;rfl) us hl
 have zT:Mk K bL qC:=⟨mk_Behinds,a15,i15,kc_Behinds⟩
 have nR:=cF (st:=iK) l16 c16 k16
 have Ez:=(nR).binds (ps:=mU) fun _ _ _ _ _ _ us hl=>uK (by intros;rfl) us hl
 have H_Behinds_words:Meth K bL "words" qG:=⟨a16,i16,k16⟩
 have oF:=cF (st:=gY) l17 c17 k17
 have Ed:=(oF).binds (ps:=lI) fun _ _ _ _ _ _ us hl=>uK (by intros;rfl) us hl
 have H_Behinds_gathered:Meth K bL "gathered" nN:=⟨a17,i17,k17⟩
 have lW:=cF (st:=gR) l18 c18 k18
 have Db:=(lW).binds (ps:=mW) fun _ _ _ _ _ _ us hl=>wD (by intros;rfl) us hl
 have Fw:=PySem.W.mg_of X G a18
 have mC:=cF (st:=iX) l19 c19 k19
 have Cn:=(mC).binds (ps:=mE) fun _ _ _ _ _ _ us hl=>oY (by intros;rfl) us hl
 have xR:=PySem.W.mg_of X G a19
 have gL:=cF (st:=gI) l20 c20 k20
 have lA:=(gL).binds (ps:=jI) fun _ _ _ _ _ _ us hl=>iI (by intros;rfl) us hl
 have mP:=PySem.W.mg_of X G a20
 have jS:=cF (st:=hX) l21 c21 k21
 have rB:=(jS).binds (ps:=mQ) fun _ _ _ _ _ _ us hl=>iI (by intros;rfl) us hl
 have rF:=PySem.W.mg_of X G a21
 have kH:=cF (st:=hJ) l22 c22 k22
 have uP:=(kH).binds (ps:=mR) fun _ _ _ _ _ _ us hl=>iI (by intros;rfl) us hl
 have tY:=PySem.W.mg_of X G a22
 have kK:=cF (st:=hZ) l23 c23 k23
 have tU:=(kK).binds (ps:=mB) fun _ _ _ _ _ _ us hl=>wD (by intros;rfl) us hl
 have vD:=PySem.W.mg_of X G a23
 have Aa:=cF (st:=fR) l24 c24 k24
 have T_Behinds:Cls K bL:=⟨pg_Behinds,hd_Behinds,po_Behinds,sa_Behinds⟩
 have Eb:=PySem.W.mg_of X G g_Behinds
 have Cz:=PySem.W.mg_of X G Cm
 have Kk_POINT_WORDS_0:KT K k_POINT_WORDS_0 ["point","point"]:=⟨_,_,_,lk_POINT_WORDS_0,rfl,rfl,rfl,by show 2<=sizeLine;rw[sizeLine_eq];decide,.cons ⟨_,rfl⟩ (.cons ⟨_,rfl⟩ (.nil))⟩
 have Kr_POINT_WORDS_0:KT K r_POINT_WORDS_0 ["ahead","same","behind"]:=⟨_,_,_,lr_POINT_WORDS_0,rfl,rfl,rfl,by show 3<=sizeLine;rw[sizeLine_eq];decide,.cons ⟨_,rfl⟩ (.cons ⟨_,rfl⟩ (.cons ⟨_,rfl⟩ (.nil)))⟩
 have Kk_POINT_WORDS_1:KT K k_POINT_WORDS_1 ["point","stretch"]:=⟨_,_,_,lk_POINT_WORDS_1,rfl,rfl,rfl,by show 2<=sizeLine;rw[sizeLine_eq];decide,.cons ⟨_,rfl⟩ (.cons ⟨_,rfl⟩ (.nil))⟩
 have Kr_POINT_WORDS_1:KT K r_POINT_WORDS_1 ["ahead","begins","within","ends","behind"]:=⟨_,_,_,lr_POINT_WORDS_1,rfl,rfl,rfl,by show 5<=sizeLine;rw[sizeLine_eq];decide,.cons ⟨_,rfl⟩ (.cons ⟨_,rfl⟩ (.cons ⟨_,rfl⟩ (.cons ⟨_,rfl⟩ (.cons ⟨_,rfl⟩ (.nil)))))⟩
 have Kk_POINT_WORDS_2:KT K k_POINT_WORDS_2 ["stretch","point"]:=⟨_,_,_,lk_POINT_WORDS_2,rfl,rfl,rfl,by show 2<=sizeLine;rw[sizeLine_eq];decide,.cons ⟨_,rfl⟩ (.cons ⟨_,rfl⟩ (.nil))⟩
 have Kr_POINT_WORDS_2:KT K r_POINT_WORDS_2 ["ahead","ended","holds","begun","behind"]:=⟨_,_,_,lr_POINT_WORDS_2,rfl,rfl,rfl,by show 5<=sizeLine;rw[sizeLine_eq];decide,.cons ⟨_,rfl⟩ (.cons ⟨_,rfl⟩ (.cons ⟨_,rfl⟩ (.cons ⟨_,rfl⟩ (.cons ⟨_,rfl⟩ (.nil)))))⟩
 have Co:uS K w jY yA:=⟨[(["point","point"],k_POINT_WORDS_0,.ref r_POINT_WORDS_0),(["point","stretch"],k_POINT_WORDS_1,.ref r_POINT_WORDS_1),(["stretch","point"],k_POINT_WORDS_2,.ref r_POINT_WORDS_2)],⟨_,_,_,Em,rfl,rfl,rfl,rfl,⟨rfl,rfl,rfl,Kk_POINT_WORDS_0,⟨rfl,rfl,rfl,Kk_POINT_WORDS_1,⟨rfl,rfl,rfl,Kk_POINT_WORDS_2,True.intro⟩⟩⟩,by show List.Nodup ([["point","point"],["point","stretch"],["stretch","point"]]:List (List Str));decide +kernel,y_POINT_WORDS⟩,fun Z m H=>⟨_,_,rfl,KT.rp Kr_POINT_WORDS_0,⟨_,_,rfl,KT.rp Kr_POINT_WORDS_1,⟨_,_,rfl,KT.rp Kr_POINT_WORDS_2,rfl⟩⟩⟩⟩
 have mN:=PySem.W.mg_of X G Cl
 have mV:KT K gS ["ahead","meets","overlaps","begins","within","ends","same","ended","holds","begun","lapped","met","behind"]:=⟨_,_,_,Bn,rfl,rfl,rfl,by show 13<=sizeLine;rw[sizeLine_eq];decide,.cons ⟨_,rfl⟩ (.cons ⟨_,rfl⟩ (.cons ⟨_,rfl⟩ (.cons ⟨_,rfl⟩ (.cons ⟨_,rfl⟩ (.cons ⟨_,rfl⟩ (.cons ⟨_,rfl⟩ (.cons ⟨_,rfl⟩ (.cons ⟨_,rfl⟩ (.cons ⟨_,rfl⟩ (.cons ⟨_,rfl⟩ (.cons ⟨_,rfl⟩ (.cons ⟨_,rfl⟩ (.nil)))))))))))))⟩
 have Es:=PySem.W.mg_of X G zU
 have Fo:KD K w kR vB:=⟨[("ahead",.ref r_WAYS_0),("meets",.ref r_WAYS_1),("overlaps",.ref r_WAYS_2),("begins",.ref r_WAYS_3),("within",.ref r_WAYS_4),("ends",.ref r_WAYS_5),("same",.ref r_WAYS_6),("ended",.ref r_WAYS_7),("holds",.ref r_WAYS_8),("begun",.ref r_WAYS_9),("lapped",.ref r_WAYS_10),("met",.ref r_WAYS_11),("behind",.ref r_WAYS_12)],⟨_,_,_,zH,rfl,rfl,rfl,rfl,⟨rfl,⟨_,rfl⟩,rfl,⟨rfl,⟨_,rfl⟩,rfl,⟨rfl,⟨_,rfl⟩,rfl,⟨rfl,⟨_,rfl⟩,rfl,⟨rfl,⟨_,rfl⟩,rfl,⟨rfl,⟨_,rfl⟩,rfl,⟨rfl,⟨_,rfl⟩,rfl,⟨rfl,⟨_,rfl⟩,rfl,⟨rfl,⟨_,rfl⟩,rfl,⟨rfl,⟨_,rfl⟩,rfl,⟨rfl,⟨_,rfl⟩,rfl,⟨rfl,⟨_,rfl⟩,rfl,⟨rfl,⟨_,rfl⟩,rfl,True.intro⟩⟩⟩⟩⟩⟩⟩⟩⟩⟩⟩⟩⟩,by show List.Nodup (["ahead","meets","overlaps","begins","within","ends","same","ended","holds","begun","lapped","met","behind"]:List Str);decide +kernel,y_WAYS⟩,fun Z m H=>⟨_,_,rfl,eT (is:=[-1,-1,-1,-1]) (.inr ⟨_,_,_,Ba,⟨rfl,rfl⟩,rfl,by show 4<=sizeLine;rw[sizeLine_eq];decide,.cons ⟨_,rfl⟩ (.cons ⟨_,rfl⟩ (.cons ⟨_,rfl⟩ (.cons ⟨_,rfl⟩ (.nil))))⟩),⟨_,_,rfl,eT (is:=[-1,-1,0,-1]) (.inr ⟨_,_,_,yS,⟨rfl,rfl⟩,rfl,by show 4<=sizeLine;rw[sizeLine_eq];decide,.cons ⟨_,rfl⟩ (.cons ⟨_,rfl⟩ (.cons ⟨_,rfl⟩ (.cons ⟨_,rfl⟩ (.nil))))⟩),⟨_,_,rfl,eT (is:=[-1,-1,1,-1]) (.inr ⟨_,_,_,yK,⟨rfl,rfl⟩,rfl,by show 4<=sizeLine;rw[sizeLine_eq];decide,.cons ⟨_,rfl⟩ (.cons ⟨_,rfl⟩ (.cons ⟨_,rfl⟩ (.cons ⟨_,rfl⟩ (.nil))))⟩),⟨_,_,rfl,eT (is:=[0,-1,1,-1]) (.inr ⟨_,_,_,Az,⟨rfl,rfl⟩,rfl,by show 4<=sizeLine;rw[sizeLine_eq];decide,.cons ⟨_,rfl⟩ (.cons ⟨_,rfl⟩ (.cons ⟨_,rfl⟩ (.cons ⟨_,rfl⟩ (.nil))))⟩),⟨_,_,rfl,eT (is:=[1,-1,1,-1]) (.inr ⟨_,_,_,Bt,⟨rfl,rfl⟩,rfl,by show 4<=sizeLine;rw[sizeLine_eq];decide,.cons ⟨_,rfl⟩ (.cons ⟨_,rfl⟩ (.cons ⟨_,rfl⟩ (.cons ⟨_,rfl⟩ (.nil))))⟩),⟨_,_,rfl,eT (is:=[1,-1,1,0]) (.inr ⟨_,_,_,Ch,⟨rfl,rfl⟩,rfl,by show 4<=sizeLine;rw[sizeLine_eq];decide,.cons ⟨_,rfl⟩ (.cons ⟨_,rfl⟩ (.cons ⟨_,rfl⟩ (.cons ⟨_,rfl⟩ (.nil))))⟩),⟨_,_,rfl,eT (is:=[0,-1,1,0]) (.inr ⟨_,_,_,Be,⟨rfl,rfl⟩,rfl,by show 4<=sizeLine;rw[sizeLine_eq];decide,.cons ⟨_,rfl⟩ (.cons ⟨_,rfl⟩ (.cons ⟨_,rfl⟩ (.cons ⟨_,rfl⟩ (.nil))))⟩),⟨_,_,rfl,eT (is:=[-1,-1,1,0]) (.inr ⟨_,_,_,Br,⟨rfl,rfl⟩,rfl,by show 4<=sizeLine;rw[sizeLine_eq];decide,.cons ⟨_,rfl⟩ (.cons ⟨_,rfl⟩ (.cons ⟨_,rfl⟩ (.cons ⟨_,rfl⟩ (.nil))))⟩),⟨_,_,rfl,eT (is:=[-1,-1,1,1]) (.inr ⟨_,_,_,yH,⟨rfl,rfl⟩,rfl,by show 4<=sizeLine;rw[sizeLine_eq];decide,.cons ⟨_,rfl⟩ (.cons ⟨_,rfl⟩ (.cons ⟨_,rfl⟩ (.cons ⟨_,rfl⟩ (.nil))))⟩),⟨_,_,rfl,eT (is:=[0,-1,1,1]) (.inr ⟨_,_,_,Bz,⟨rfl,rfl⟩,rfl,by show 4<=sizeLine;rw[sizeLine_eq];decide,.cons ⟨_,rfl⟩ (.cons ⟨_,rfl⟩ (.cons ⟨_,rfl⟩ (.cons ⟨_,rfl⟩ (.nil))))⟩),⟨_,_,rfl,eT (is:=[1,-1,1,1]) (.inr ⟨_,_,_,De,⟨rfl,rfl⟩,rfl,by show 4<=sizeLine;rw[sizeLine_eq];decide,.cons ⟨_,rfl⟩ (.cons ⟨_,rfl⟩ (.cons ⟨_,rfl⟩ (.cons ⟨_,rfl⟩ (.nil))))⟩),⟨_,_,rfl,eT (is:=[1,0,1,1]) (.inr ⟨_,_,_,Eh,⟨rfl,rfl⟩,rfl,by show 4<=sizeLine;rw[sizeLine_eq];decide,.cons ⟨_,rfl⟩ (.cons ⟨_,rfl⟩ (.cons ⟨_,rfl⟩ (.cons ⟨_,rfl⟩ (.nil))))⟩),⟨_,_,rfl,eT (is:=[1,1,1,1]) (.inr ⟨_,_,_,zZ,⟨rfl,rfl⟩,rfl,by show 4<=sizeLine;rw[sizeLine_eq];decide,.cons ⟨_,rfl⟩ (.cons ⟨_,rfl⟩ (.cons ⟨_,rfl⟩ (.cons ⟨_,rfl⟩ (.nil))))⟩),rfl⟩⟩⟩⟩⟩⟩⟩⟩⟩⟩⟩⟩⟩⟩
 have fA:=PySem.W.mg_of X G Fg
 have fH:KD K w eA gG:=⟨[("point",.int (1)),("stretch",.int (2))],⟨_,_,_,Ci,rfl,rfl,rfl,rfl,⟨rfl,⟨_,rfl⟩,⟨_,rfl⟩,⟨rfl,⟨_,rfl⟩,⟨_,rfl⟩,True.intro⟩⟩,by show List.Nodup (["point","stretch"]:List Str);decide +kernel,y_END_COUNTS⟩,fun Z m H=>⟨_,_,rfl,by simp only[RP],⟨_,_,rfl,by simp only[RP],rfl⟩⟩⟩
 have cP:=PySem.W.mg_none_of X G z_tuple
 have Cw:=PySem.W.mg_none_of X G z_reversed
 have Ar:=PySem.W.mg_none_of X G z_sorted
 have fU:=PySem.W.mg_none_of X G z_range
 have Cq:=PySem.W.mg_none_of X G z_all
 have jK:=PySem.W.mg_none_of X G z_zip
 have fX:=PySem.W.mg_none_of X G z_len
 have zL:=PySem.W.mg_none_of X G z_list
 have Er:=PySem.W.mg_none_of X G z_int
 refine⟨PySem.W.fnOf "law" "law" (aZ fR) (aX fR) (aO fR) .none kV_24 dc_24 pm_24 an_24 cd_24 ct_24,fun s v=>.of_eq rfl,fun base _ _=>?_⟩;have Fk:=P5 (P:=l.prog) (w:=w) (mg:=mg) (base:=base) mC zL Yy
 have mG:=D7 (P:=l.prog) (w:=w) (mg:=mg) (base:=base) gL fX n9
 have fK:=Xs (P:=l.prog) (w:=w) (mg:=mg) (base:=base) dR Cz Co mN mV Rl
 have yN:=Yh (P:=l.prog) (w:=w) (mg:=mg) (base:=base) lO i0
 have eO:=Te (P:=l.prog) (w:=w) (mg:=mg) (base:=base) dJ Es Fo F3
 have zV:=Ra (P:=l.prog) (w:=w) (mg:=mg) (base:=base) lH dJ eQ eV eO fA fH w5
 have Ak:=B0 (P:=l.prog) (w:=w) (mg:=mg) (base:=base) mK lH zQ Dg zV cP Ar X0
 have xX:=Sz (P:=l.prog) (w:=w) (mg:=mg) (base:=base) lY lO Ec yR yN mK Ek zY Ak fA fH fU O0
 have nY:=Ud (P:=l.prog) (w:=w) (mg:=mg) (base:=base) iE lY Dl Ap xX dR fM fP fK dJ eQ eV eO cP Cq jK AY
 have rM:=Vr (P:=l.prog) (w:=w) (mg:=mg) (base:=base) jS dR fM fP fK gL lA mP mG iE pK nM nY fX cP Zp
 have Dy:=w9 (P:=l.prog) (w:=w) (mg:=mg) (base:=base) lP mN mV y4
 have tH:=y0 (P:=l.prog) (w:=w) (mg:=mg) (base:=base) kE lP yP zE Dy cP Cw Qq
 have jP:=g8 (P:=l.prog) (w:=w) (mg:=mg) (base:=base) eM iE pK nM nY V2
 have vZ:=D3 (P:=l.prog) (w:=w) (mg:=mg) (base:=base) kH kE xG sO tH eM jC jR jP Q2
 have By:=Qv (P:=l.prog) (w:=w) (mg:=mg) (base:=base) lR U2
 have Am:=y8 (P:=l.prog) (w:=w) (mg:=mg) (base:=base) lM lR zD Al By jK Oy
 have yI:=u4 (P:=l.prog) (w:=w) (mg:=mg) (base:=base) lE dJ eQ eV eO lM Fn zN Am fA fH fU B1
 have Bf:=A8 (P:=l.prog) (w:=w) (mg:=mg) (base:=base) lD jK K7
 have oU:=Zi (P:=l.prog) (w:=w) (mg:=mg) (base:=base) iM lE Ep zX yI dR fM fP fK lD Ck Ej Bf dJ eQ eV eO cP Se
 have xV:=T2 (P:=l.prog) (w:=w) (mg:=mg) (base:=base) nR g_Behinds T_Behinds n_Behinds_by_words iM pF pB oU Wq
 have zB:=Xp (P:=l.prog) (w:=w) (mg:=mg) (base:=base) oF g_Behinds T_Behinds dR fM fP fK nR Ez H_Behinds_words xV fX cP BS
 have Dr:=Sh (P:=l.prog) (w:=w) (mg:=mg) (base:=base) nL g_Behinds T_Behinds n_Behinds_by_words n_Behinds_by_mays L3
 have yM:=Pk (P:=l.prog) (w:=w) (mg:=mg) (base:=base) lW g_Behinds T_Behinds oF Ed H_Behinds_gathered zB nL xZ  Dr Eb zT F4
 have wV:=E2 (P:=l.prog) (w:=w) (mg:=mg) (base:=base) kK lW Db Fw yM eM jC jR jP iM pF pB oU d6
 exact Yo Aa mC Cn xR Fk gL lA mP mG jS rB rF rM kH uP tY vZ eM jC jR jP kK tU vD wV cP fU Er Rm
theorem walk{l:PySem.W.OpenLaw}{q:Program}{loose:List Str}{XP:(Str->Option Value)->Heap->Prop}{YP:World->Heap->Prop}{d:DefRec}{K:Params->PySem.W.Frag}(hn:l.most=some 63)(hdf:d.params.defaults=[])
  (hY:∀ (w:World) (h:Heap),YP w h->(K w.params).In h)
  (F:∀ (w:World) (mg:Str->Option Value) (fa:Addr) (h:Heap),(K w.params).In h->h.Ns mainGlobals mg->mg d.name=some (.ref fa) ->
   ∃ fd:FuncData,(∀ (s:Shared) (u:Value),BindsTo s fd ⟨[u],[]⟩ [("_law_script",u)])/\∀ base:Heap,(K w.params).In base->base.Ns mainGlobals mg->FnOk l.prog w (K w.params) mg base aP 9 fa fd ["_law_script"] (LSp (K w.params) 1 pR)) :
  PySem.W.WalkO q loose XP YP l.row.toRowW d [] (fun f vs=>PySem.call f vs) :=
 L2.walk_of (n:=63) (k:=9) (x:="_law_script") (CX:=fun _=>aP) (sp:=fun w=>LSp (K w.params) 1 pR) hn (by decide) hdf ⟨rfl,rfl,by decide,by decide⟩ hY F (fun _ _ a ns hl _ hS=>B5 hS ⟨ns,rfl,hl,fun _=>rfl⟩) fun _ _ _ _ _ z=>z
def Xw(P:Params):Obj:=⟨Value.type "dict",none,Data.dict #[{hash:=PyData.keyHash P (Str.ofString "__name__"),key:=Value.str (Str.ofString "__name__") 165,val:=Value.str (Str.ofString "law_whens_k39_whole_plain_stays_plain") 523},{hash:=PyData.keyHash P (Str.ofString "__doc__"),key:=Value.str (Str.ofString "__doc__") 166,val:=Value.none},{hash:=PyData.keyHash P (Str.ofString "__package__"),key:=Value.str (Str.ofString "__package__") 167,val:=Value.none},{hash:=PyData.keyHash P (Str.ofString "__loader__"),key:=Value.str (Str.ofString "__loader__") 168,val:=Value.builtin "__main__.__loader__#opaque"},{hash:=PyData.keyHash P (Str.ofString "__spec__"),key:=Value.str (Str.ofString "__spec__") 169,val:=Value.none},{hash:=PyData.keyHash P (Str.ofString "__annotations__"),key:=Value.str (Str.ofString "__annotations__") 170,val:=Value.ref 6},{hash:=PyData.keyHash P (Str.ofString "__builtins__"),key:=Value.str (Str.ofString "__builtins__") 171,val:=Value.ref 4},{hash:=PyData.keyHash P (Str.ofString "__file__"),key:=Value.str (Str.ofString "__file__") 173,val:=Value.str (Str.ofString "/claim/cut.py") 172},{hash:=PyData.keyHash P (Str.ofString "__cached__"),key:=Value.str (Str.ofString "__cached__") 174,val:=Value.none},{hash:=PyData.keyHash P (Str.ofString "ORDER"),key:=Value.str (Str.ofString "ORDER") 202,val:=Value.ref 15},{hash:=PyData.keyHash P (Str.ofString "POINT_WORDS"),key:=Value.str (Str.ofString "POINT_WORDS") 231,val:=Value.ref 16},{hash:=PyData.keyHash P (Str.ofString "WAYS"),key:=Value.str (Str.ofString "WAYS") 332,val:=Value.ref 23},{hash:=PyData.keyHash P (Str.ofString "END_COUNTS"),key:=Value.str (Str.ofString "END_COUNTS") 339,val:=Value.ref 37},{hash:=PyData.keyHash P (Str.ofString "words_of"),key:=Value.str (Str.ofString "words_of") 346,val:=Value.ref 44},{hash:=PyData.keyHash P (Str.ofString "turned"),key:=Value.str (Str.ofString "turned") 353,val:=Value.ref 51},{hash:=PyData.keyHash P (Str.ofString "turned_may"),key:=Value.str (Str.ofString "turned_may") 359,val:=Value.ref 56},{hash:=PyData.keyHash P (Str.ofString "ways_by"),key:=Value.str (Str.ofString "ways_by") 368,val:=Value.ref 63},{hash:=PyData.keyHash P (Str.ofString "how_ends"),key:=Value.str (Str.ofString "how_ends") 378,val:=Value.ref 70},{hash:=PyData.keyHash P (Str.ofString "signs_in"),key:=Value.str (Str.ofString "signs_in") 386,val:=Value.ref 75},{hash:=PyData.keyHash P (Str.ofString "span_of"),key:=Value.str (Str.ofString "span_of") 393,val:=Value.ref 82},{hash:=PyData.keyHash P (Str.ofString "spans_of"),key:=Value.str (Str.ofString "spans_of") 399,val:=Value.ref 87},{hash:=PyData.keyHash P (Str.ofString "plain_around"),key:=Value.str (Str.ofString "plain_around") 405,val:=Value.ref 92},{hash:=PyData.keyHash P (Str.ofString "is_plain"),key:=Value.str (Str.ofString "is_plain") 413,val:=Value.ref 99},{hash:=PyData.keyHash P (Str.ofString "forced_way"),key:=Value.str (Str.ofString "forced_way") 423,val:=Value.ref 106},{hash:=PyData.keyHash P (Str.ofString "forced_by"),key:=Value.str (Str.ofString "forced_by") 434,val:=Value.ref 113},{hash:=PyData.keyHash P (Str.ofString "forced_ways"),key:=Value.str (Str.ofString "forced_ways") 440,val:=Value.ref 118},{hash:=PyData.keyHash P (Str.ofString "go_with"),key:=Value.str (Str.ofString "go_with") 450,val:=Value.ref 125},{hash:=PyData.keyHash P (Str.ofString "behind_words"),key:=Value.str (Str.ofString "behind_words") 456,val:=Value.ref 130},{hash:=PyData.keyHash P (Str.ofString "Behinds"),key:=Value.str (Str.ofString "Behinds") 513,val:=Value.ref 166},{hash:=PyData.keyHash P (Str.ofString "behind_mays"),key:=Value.str (Str.ofString "behind_mays") 522,val:=Value.ref 177},{hash:=PyData.keyHash P (Str.ofString "_law_feed"),key:=Value.str (Str.ofString "_law_feed") 531,val:=Value.ref 184},{hash:=PyData.keyHash P (Str.ofString "_law_draw"),key:=Value.str (Str.ofString "_law_draw") 543,val:=Value.ref 191},{hash:=PyData.keyHash P (Str.ofString "_law_plain"),key:=Value.str (Str.ofString "_law_plain") 549,val:=Value.ref 196},{hash:=PyData.keyHash P (Str.ofString "_law_turned_right"),key:=Value.str (Str.ofString "_law_turned_right") 558,val:=Value.ref 203},{hash:=PyData.keyHash P (Str.ofString "_law_behind_right"),key:=Value.str (Str.ofString "_law_behind_right") 564,val:=Value.ref 208},{hash:=PyData.keyHash P (Str.ofString "law"),key:=Value.str (Str.ofString "law") 570,val:=Value.ref 213}] 36,#[]⟩
def CD(P:Params):Obj:=⟨Value.type "tuple",none,Data.seq #[Value.str (Str.ofString "ahead") 189,Value.str (Str.ofString "meets") 190,Value.str (Str.ofString "overlaps") 191,Value.str (Str.ofString "begins") 192,Value.str (Str.ofString "within") 193,Value.str (Str.ofString "ends") 194,Value.str (Str.ofString "same") 195,Value.str (Str.ofString "ended") 196,Value.str (Str.ofString "holds") 197,Value.str (Str.ofString "begun") 198,Value.str (Str.ofString "lapped") 199,Value.str (Str.ofString "met") 200,Value.str (Str.ofString "behind") 201],#[]⟩
def Xy(P:Params):Obj:=⟨Value.type "dict",none,Data.dict #[{hash:=reduceHash (Builtin.Tuple.tupleHashOf [PyData.keyHash P (Str.ofString "point"),PyData.keyHash P (Str.ofString "point")]),key:=Value.ref 17,val:=Value.ref 18},{hash:=reduceHash (Builtin.Tuple.tupleHashOf [PyData.keyHash P (Str.ofString "point"),PyData.keyHash P (Str.ofString "stretch")]),key:=Value.ref 19,val:=Value.ref 20},{hash:=reduceHash (Builtin.Tuple.tupleHashOf [PyData.keyHash P (Str.ofString "stretch"),PyData.keyHash P (Str.ofString "point")]),key:=Value.ref 21,val:=Value.ref 22}] 3,#[]⟩
def P7(P:Params):Obj:=⟨Value.type "tuple",none,Data.seq #[Value.str (Str.ofString "point") 203,Value.str (Str.ofString "point") 204],#[]⟩
def Vu(P:Params):Obj:=⟨Value.type "tuple",none,Data.seq #[Value.str (Str.ofString "ahead") 205,Value.str (Str.ofString "same") 206,Value.str (Str.ofString "behind") 207],#[]⟩
def Wk(P:Params):Obj:=⟨Value.type "tuple",none,Data.seq #[Value.str (Str.ofString "point") 208,Value.str (Str.ofString "stretch") 209],#[]⟩
def BC(P:Params):Obj:=⟨Value.type "tuple",none,Data.seq #[Value.str (Str.ofString "ahead") 210,Value.str (Str.ofString "begins") 211,Value.str (Str.ofString "within") 212,Value.str (Str.ofString "ends") 213,Value.str (Str.ofString "behind") 214],#[]⟩
def Tu(P:Params):Obj:=⟨Value.type "tuple",none,Data.seq #[Value.str (Str.ofString "stretch") 215,Value.str (Str.ofString "point") 216],#[]⟩
def Sn(P:Params):Obj:=⟨Value.type "tuple",none,Data.seq #[Value.str (Str.ofString "ahead") 217,Value.str (Str.ofString "ended") 218,Value.str (Str.ofString "holds") 219,Value.str (Str.ofString "begun") 220,Value.str (Str.ofString "behind") 221],#[]⟩
def Rk(P:Params):Obj:=⟨Value.type "dict",none,Data.dict #[{hash:=PyData.keyHash P (Str.ofString "ahead"),key:=Value.str (Str.ofString "ahead") 232,val:=Value.ref 24},{hash:=PyData.keyHash P (Str.ofString "meets"),key:=Value.str (Str.ofString "meets") 241,val:=Value.ref 25},{hash:=PyData.keyHash P (Str.ofString "overlaps"),key:=Value.str (Str.ofString "overlaps") 249,val:=Value.ref 26},{hash:=PyData.keyHash P (Str.ofString "begins"),key:=Value.str (Str.ofString "begins") 257,val:=Value.ref 27},{hash:=PyData.keyHash P (Str.ofString "within"),key:=Value.str (Str.ofString "within") 264,val:=Value.ref 28},{hash:=PyData.keyHash P (Str.ofString "ends"),key:=Value.str (Str.ofString "ends") 271,val:=Value.ref 29},{hash:=PyData.keyHash P (Str.ofString "same"),key:=Value.str (Str.ofString "same") 277,val:=Value.ref 30},{hash:=PyData.keyHash P (Str.ofString "ended"),key:=Value.str (Str.ofString "ended") 283,val:=Value.ref 31},{hash:=PyData.keyHash P (Str.ofString "holds"),key:=Value.str (Str.ofString "holds") 290,val:=Value.ref 32},{hash:=PyData.keyHash P (Str.ofString "begun"),key:=Value.str (Str.ofString "begun") 297,val:=Value.ref 33},{hash:=PyData.keyHash P (Str.ofString "lapped"),key:=Value.str (Str.ofString "lapped") 303,val:=Value.ref 34},{hash:=PyData.keyHash P (Str.ofString "met"),key:=Value.str (Str.ofString "met") 309,val:=Value.ref 35},{hash:=PyData.keyHash P (Str.ofString "behind"),key:=Value.str (Str.ofString "behind") 314,val:=Value.ref 36}] 13,#[]⟩
def R9(P:Params):Obj:=⟨Value.type "tuple",none,Data.seq #[Value.int (-1) 234,Value.int (-1) 236,Value.int (-1) 238,Value.int (-1) 240],#[]⟩
def Sq(P:Params):Obj:=⟨Value.type "tuple",none,Data.seq #[Value.int (-1) 243,Value.int (-1) 245,Value.int 0 246,Value.int (-1) 248],#[]⟩
def Yx(P:Params):Obj:=⟨Value.type "tuple",none,Data.seq #[Value.int (-1) 251,Value.int (-1) 253,Value.int 1 254,Value.int (-1) 256],#[]⟩
def Z7(P:Params):Obj:=⟨Value.type "tuple",none,Data.seq #[Value.int 0 258,Value.int (-1) 260,Value.int 1 261,Value.int (-1) 263],#[]⟩
def t7(P:Params):Obj:=⟨Value.type "tuple",none,Data.seq #[Value.int 1 265,Value.int (-1) 267,Value.int 1 268,Value.int (-1) 270],#[]⟩
def Rs(P:Params):Obj:=⟨Value.type "tuple",none,Data.seq #[Value.int 1 272,Value.int (-1) 274,Value.int 1 275,Value.int 0 276],#[]⟩
def X4(P:Params):Obj:=⟨Value.type "tuple",none,Data.seq #[Value.int 0 278,Value.int (-1) 280,Value.int 1 281,Value.int 0 282],#[]⟩
def Sg(P:Params):Obj:=⟨Value.type "tuple",none,Data.seq #[Value.int (-1) 285,Value.int (-1) 287,Value.int 1 288,Value.int 0 289],#[]⟩
def Sr(P:Params):Obj:=⟨Value.type "tuple",none,Data.seq #[Value.int (-1) 292,Value.int (-1) 294,Value.int 1 295,Value.int 1 296],#[]⟩
def BL(P:Params):Obj:=⟨Value.type "tuple",none,Data.seq #[Value.int 0 298,Value.int (-1) 300,Value.int 1 301,Value.int 1 302],#[]⟩
def D9(P:Params):Obj:=⟨Value.type "tuple",none,Data.seq #[Value.int 1 304,Value.int (-1) 306,Value.int 1 307,Value.int 1 308],#[]⟩
def Pf(P:Params):Obj:=⟨Value.type "tuple",none,Data.seq #[Value.int 1 310,Value.int 0 311,Value.int 1 312,Value.int 1 313],#[]⟩
def Rw(P:Params):Obj:=⟨Value.type "tuple",none,Data.seq #[Value.int 1 315,Value.int 1 316,Value.int 1 317,Value.int 1 318],#[]⟩
def N0(P:Params):Obj:=⟨Value.type "dict",none,Data.dict #[{hash:=PyData.keyHash P (Str.ofString "point"),key:=Value.str (Str.ofString "point") 333,val:=Value.int 1 334},{hash:=PyData.keyHash P (Str.ofString "stretch"),key:=Value.str (Str.ofString "stretch") 335,val:=Value.int 2 336}] 2,#[]⟩
def Sd(P:Params):Obj:=⟨Value.type "code",none,Data.fields #[Value.str (Str.ofString "words_of") 340,Value.str (Str.ofString "words_of") 341,Value.str (Str.ofString "/claim/cut.py") 342,Value.int 6 0,Value.int 1 0,Value.int 0 0,Value.int 0 0,Value.int 3 0,Value.ref 38,Value.bool true,Value.int 181 0,Value.ref 39,Value.none,Value.ref 40,Value.ref 41,Value.ref 42,Value.int 344 0,Value.int 6 0,Value.str (Str.ofString "/claim/cut.py") 345],#[]⟩
def Ut(P:Params):Obj:=⟨Value.type "function",none,.func (PySem.W.fnOf "words_of" "words_of" (aZ eJ) (aX eJ) (aO eJ) (Value.none) (Value.none) (Value.none) (Value.str (Str.ofString "whens.words") 187) (none) (Value.ref 43) (Value.none)),#[]⟩
def n6(P:Params):Obj:=⟨Value.type "code",none,Data.fields #[Value.str (Str.ofString "turned") 347,Value.str (Str.ofString "turned") 348,Value.str (Str.ofString "/claim/cut.py") 349,Value.int 8 0,Value.int 1 0,Value.int 0 0,Value.int 0 0,Value.int 3 0,Value.ref 45,Value.bool true,Value.int 181 0,Value.ref 46,Value.none,Value.ref 47,Value.ref 48,Value.ref 49,Value.int 351 0,Value.int 8 0,Value.str (Str.ofString "/claim/cut.py") 352],#[]⟩
def Vg(P:Params):Obj:=⟨Value.type "function",none,.func (PySem.W.fnOf "turned" "turned" (aZ gU) (aX gU) (aO gU) (Value.none) (Value.none) (Value.none) (Value.str (Str.ofString "whens.words") 187) (none) (Value.ref 50) (Value.none)),#[]⟩
def Zd(P:Params):Obj:=⟨Value.type "code",none,Data.fields #[Value.str (Str.ofString "turned_may") 354,Value.str (Str.ofString "turned_may") 355,Value.str (Str.ofString "/claim/cut.py") 356,Value.int 10 0,Value.int 1 0,Value.int 0 0,Value.int 0 0,Value.int 3 0,Value.ref 52,Value.bool true,Value.int 181 0,Value.ref 53,Value.none,Value.none,Value.none,Value.ref 54,Value.int 357 0,Value.int 10 0,Value.str (Str.ofString "/claim/cut.py") 358],#[]⟩
def Wu(P:Params):Obj:=⟨Value.type "function",none,.func (PySem.W.fnOf "turned_may" "turned_may" (aZ gX) (aX gX) (aO gX) (Value.none) (Value.none) (Value.none) (Value.str (Str.ofString "whens.words") 187) (none) (Value.ref 55) (Value.none)),#[]⟩
def Qb(P:Params):Obj:=⟨Value.type "code",none,Data.fields #[Value.str (Str.ofString "ways_by") 360,Value.str (Str.ofString "ways_by") 361,Value.str (Str.ofString "/claim/cut.py") 362,Value.int 12 0,Value.int 2 0,Value.int 0 0,Value.int 0 0,Value.int 3 0,Value.ref 57,Value.bool true,Value.int 181 0,Value.ref 58,Value.none,Value.ref 59,Value.ref 60,Value.ref 61,Value.int 366 0,Value.int 12 0,Value.str (Str.ofString "/claim/cut.py") 367],#[]⟩
def Q4(P:Params):Obj:=⟨Value.type "function",none,.func (PySem.W.fnOf "ways_by" "ways_by" (aZ eW) (aX eW) (aO eW) (Value.none) (Value.none) (Value.none) (Value.str (Str.ofString "whens.words") 187) (none) (Value.ref 62) (Value.none)),#[]⟩
def B6(P:Params):Obj:=⟨Value.type "code",none,Data.fields #[Value.str (Str.ofString "how_ends") 369,Value.str (Str.ofString "how_ends") 370,Value.str (Str.ofString "/claim/cut.py") 371,Value.int 19 0,Value.int 4 0,Value.int 0 0,Value.int 0 0,Value.int 3 0,Value.ref 64,Value.bool true,Value.int 181 0,Value.ref 65,Value.none,Value.ref 66,Value.ref 67,Value.ref 68,Value.int 376 0,Value.int 19 0,Value.str (Str.ofString "/claim/cut.py") 377],#[]⟩
def M2(P:Params):Obj:=⟨Value.type "function",none,.func (PySem.W.fnOf "how_ends" "how_ends" (aZ jB) (aX jB) (aO jB) (Value.none) (Value.none) (Value.none) (Value.str (Str.ofString "whens.words") 187) (none) (Value.ref 69) (Value.none)),#[]⟩
def R7(P:Params):Obj:=⟨Value.type "code",none,Data.fields #[Value.str (Str.ofString "signs_in") 381,Value.str (Str.ofString "signs_in") 382,Value.str (Str.ofString "/claim/cut.py") 383,Value.int 22 0,Value.int 4 0,Value.int 0 0,Value.int 0 0,Value.int 3 0,Value.ref 71,Value.bool true,Value.int 181 0,Value.ref 72,Value.none,Value.none,Value.none,Value.ref 73,Value.int 384 0,Value.int 22 0,Value.str (Str.ofString "/claim/cut.py") 385],#[]⟩
def u9(P:Params):Obj:=⟨Value.type "function",none,.func (PySem.W.fnOf "signs_in" "signs_in" (aZ hR) (aX hR) (aO hR) (Value.none) (Value.none) (Value.none) (Value.str (Str.ofString "whens.plain") 379) (none) (Value.ref 74) (Value.none)),#[]⟩
def u5(P:Params):Obj:=⟨Value.type "code",none,Data.fields #[Value.str (Str.ofString "span_of") 387,Value.str (Str.ofString "span_of") 388,Value.str (Str.ofString "/claim/cut.py") 389,Value.int 24 0,Value.int 1 0,Value.int 0 0,Value.int 0 0,Value.int 3 0,Value.ref 76,Value.bool true,Value.int 181 0,Value.ref 77,Value.none,Value.ref 78,Value.ref 79,Value.ref 80,Value.int 391 0,Value.int 24 0,Value.str (Str.ofString "/claim/cut.py") 392],#[]⟩
def Qz(P:Params):Obj:=⟨Value.type "function",none,.func (PySem.W.fnOf "span_of" "span_of" (aZ gV) (aX gV) (aO gV) (Value.none) (Value.none) (Value.none) (Value.str (Str.ofString "whens.plain") 379) (none) (Value.ref 81) (Value.none)),#[]⟩
def Wr(P:Params):Obj:=⟨Value.type "code",none,Data.fields #[Value.str (Str.ofString "spans_of") 394,Value.str (Str.ofString "spans_of") 395,Value.str (Str.ofString "/claim/cut.py") 396,Value.int 26 0,Value.int 2 0,Value.int 0 0,Value.int 0 0,Value.int 3 0,Value.ref 83,Value.bool true,Value.int 181 0,Value.ref 84,Value.none,Value.none,Value.none,Value.ref 85,Value.int 397 0,Value.int 26 0,Value.str (Str.ofString "/claim/cut.py") 398],#[]⟩
def G5(P:Params):Obj:=⟨Value.type "function",none,.func (PySem.W.fnOf "spans_of" "spans_of" (aZ iB) (aX iB) (aO iB) (Value.none) (Value.none) (Value.none) (Value.str (Str.ofString "whens.plain") 379) (none) (Value.ref 86) (Value.none)),#[]⟩
def V7(P:Params):Obj:=⟨Value.type "code",none,Data.fields #[Value.str (Str.ofString "plain_around") 400,Value.str (Str.ofString "plain_around") 401,Value.str (Str.ofString "/claim/cut.py") 402,Value.int 28 0,Value.int 2 0,Value.int 0 0,Value.int 0 0,Value.int 3 0,Value.ref 88,Value.bool true,Value.int 181 0,Value.ref 89,Value.none,Value.none,Value.none,Value.ref 90,Value.int 403 0,Value.int 28 0,Value.str (Str.ofString "/claim/cut.py") 404],#[]⟩
def Ti(P:Params):Obj:=⟨Value.type "function",none,.func (PySem.W.fnOf "plain_around" "plain_around" (aZ gM) (aX gM) (aO gM) (Value.none) (Value.none) (Value.none) (Value.str (Str.ofString "whens.plain") 379) (none) (Value.ref 91) (Value.none)),#[]⟩
def M9(P:Params):Obj:=⟨Value.type "code",none,Data.fields #[Value.str (Str.ofString "is_plain") 406,Value.str (Str.ofString "is_plain") 407,Value.str (Str.ofString "/claim/cut.py") 408,Value.int 31 0,Value.int 2 0,Value.int 0 0,Value.int 0 0,Value.int 3 0,Value.ref 93,Value.bool true,Value.int 181 0,Value.ref 94,Value.none,Value.ref 95,Value.ref 96,Value.ref 97,Value.int 411 0,Value.int 31 0,Value.str (Str.ofString "/claim/cut.py") 412],#[]⟩
def Wj(P:Params):Obj:=⟨Value.type "function",none,.func (PySem.W.fnOf "is_plain" "is_plain" (aZ fB) (aX fB) (aO fB) (Value.none) (Value.none) (Value.none) (Value.str (Str.ofString "whens.plain") 379) (none) (Value.ref 98) (Value.none)),#[]⟩
def Zk(P:Params):Obj:=⟨Value.type "code",none,Data.fields #[Value.str (Str.ofString "forced_way") 416,Value.str (Str.ofString "forced_way") 417,Value.str (Str.ofString "/claim/cut.py") 418,Value.int 34 0,Value.int 2 0,Value.int 0 0,Value.int 0 0,Value.int 3 0,Value.ref 100,Value.bool true,Value.int 181 0,Value.ref 101,Value.none,Value.ref 102,Value.ref 103,Value.ref 104,Value.int 421 0,Value.int 34 0,Value.str (Str.ofString "/claim/cut.py") 422],#[]⟩
def W5(P:Params):Obj:=⟨Value.type "function",none,.func (PySem.W.fnOf "forced_way" "forced_way" (aZ iY) (aX iY) (aO iY) (Value.none) (Value.none) (Value.none) (Value.str (Str.ofString "whens.behind") 414) (none) (Value.ref 105) (Value.none)),#[]⟩
def Q3(P:Params):Obj:=⟨Value.type "code",none,Data.fields #[Value.str (Str.ofString "forced_by") 424,Value.str (Str.ofString "forced_by") 425,Value.str (Str.ofString "/claim/cut.py") 426,Value.int 40 0,Value.int 2 0,Value.int 0 0,Value.int 0 0,Value.int 3 0,Value.ref 107,Value.bool true,Value.int 181 0,Value.ref 108,Value.none,Value.ref 109,Value.ref 110,Value.ref 111,Value.int 432 0,Value.int 40 0,Value.str (Str.ofString "/claim/cut.py") 433],#[]⟩
def G8(P:Params):Obj:=⟨Value.type "function",none,.func (PySem.W.fnOf "forced_by" "forced_by" (aZ iO) (aX iO) (aO iO) (Value.none) (Value.none) (Value.none) (Value.str (Str.ofString "whens.behind") 414) (none) (Value.ref 112) (Value.none)),#[]⟩
def Qc(P:Params):Obj:=⟨Value.type "code",none,Data.fields #[Value.str (Str.ofString "forced_ways") 435,Value.str (Str.ofString "forced_ways") 436,Value.str (Str.ofString "/claim/cut.py") 437,Value.int 46 0,Value.int 3 0,Value.int 0 0,Value.int 0 0,Value.int 3 0,Value.ref 114,Value.bool true,Value.int 181 0,Value.ref 115,Value.none,Value.none,Value.none,Value.ref 116,Value.int 438 0,Value.int 46 0,Value.str (Str.ofString "/claim/cut.py") 439],#[]⟩
def W8(P:Params):Obj:=⟨Value.type "function",none,.func (PySem.W.fnOf "forced_ways" "forced_ways" (aZ gP) (aX gP) (aO gP) (Value.none) (Value.none) (Value.none) (Value.str (Str.ofString "whens.behind") 414) (none) (Value.ref 117) (Value.none)),#[]⟩
def Qo(P:Params):Obj:=⟨Value.type "code",none,Data.fields #[Value.str (Str.ofString "go_with") 441,Value.str (Str.ofString "go_with") 442,Value.str (Str.ofString "/claim/cut.py") 443,Value.int 53 0,Value.int 2 0,Value.int 0 0,Value.int 0 0,Value.int 3 0,Value.ref 119,Value.bool true,Value.int 181 0,Value.ref 120,Value.none,Value.ref 121,Value.ref 122,Value.ref 123,Value.int 448 0,Value.int 53 0,Value.str (Str.ofString "/claim/cut.py") 449],#[]⟩
def Vm(P:Params):Obj:=⟨Value.type "function",none,.func (PySem.W.fnOf "go_with" "go_with" (aZ iT) (aX iT) (aO iT) (Value.none) (Value.none) (Value.none) (Value.str (Str.ofString "whens.behind") 414) (none) (Value.ref 124) (Value.none)),#[]⟩
def BR(P:Params):Obj:=⟨Value.type "code",none,Data.fields #[Value.str (Str.ofString "behind_words") 451,Value.str (Str.ofString "behind_words") 452,Value.str (Str.ofString "/claim/cut.py") 453,Value.int 58 0,Value.int 3 0,Value.int 0 0,Value.int 0 0,Value.int 3 0,Value.ref 126,Value.bool true,Value.int 181 0,Value.ref 127,Value.none,Value.none,Value.none,Value.ref 128,Value.int 454 0,Value.int 58 0,Value.str (Str.ofString "/claim/cut.py") 455],#[]⟩
def C3(P:Params):Obj:=⟨Value.type "function",none,.func (PySem.W.fnOf "behind_words" "behind_words" (aZ gB) (aX gB) (aO gB) (Value.none) (Value.none) (Value.none) (Value.str (Str.ofString "whens.behind") 414) (none) (Value.ref 129) (Value.none)),#[]⟩
def Wf(P:Params):Obj:=⟨Value.type "code",none,Data.fields #[Value.str (Str.ofString "__init__") 469,Value.str (Str.ofString "Behinds.__init__") 470,Value.str (Str.ofString "/claim/cut.py") 471,Value.int 65 0,Value.int 1 0,Value.int 0 0,Value.int 0 0,Value.int 3 0,Value.ref 138,Value.bool true,Value.int 181 0,Value.ref 139,Value.none,Value.ref 140,Value.ref 141,Value.ref 142,Value.int 473 0,Value.int 65 0,Value.str (Str.ofString "/claim/cut.py") 474],#[]⟩
def f8(P:Params):Obj:=⟨Value.type "function",none,.func (PySem.W.fnOf "__init__" "Behinds.__init__" (aZ gW) (aX gW) (aO gW) (Value.none) (Value.none) (Value.none) (Value.str (Str.ofString "whens.behind") 414) (none) (Value.ref 143) (Value.none)),#[]⟩
def Rz(P:Params):Obj:=⟨Value.type "code",none,Data.fields #[Value.str (Str.ofString "words") 476,Value.str (Str.ofString "Behinds.words") 477,Value.str (Str.ofString "/claim/cut.py") 478,Value.int 69 0,Value.int 4 0,Value.int 0 0,Value.int 0 0,Value.int 3 0,Value.ref 145,Value.bool true,Value.int 181 0,Value.ref 146,Value.none,Value.ref 147,Value.ref 148,Value.ref 149,Value.int 484 0,Value.int 69 0,Value.str (Str.ofString "/claim/cut.py") 485],#[]⟩
def Wp(P:Params):Obj:=⟨Value.type "function",none,.func (PySem.W.fnOf "words" "Behinds.words" (aZ iK) (aX iK) (aO iK) (Value.none) (Value.none) (Value.none) (Value.str (Str.ofString "whens.behind") 414) (none) (Value.ref 150) (Value.none)),#[]⟩
def W2(P:Params):Obj:=⟨Value.type "code",none,Data.fields #[Value.str (Str.ofString "gathered") 498,Value.str (Str.ofString "Behinds.gathered") 499,Value.str (Str.ofString "/claim/cut.py") 500,Value.int 81 0,Value.int 4 0,Value.int 0 0,Value.int 0 0,Value.int 3 0,Value.ref 159,Value.bool true,Value.int 181 0,Value.ref 160,Value.none,Value.none,Value.none,Value.ref 161,Value.int 501 0,Value.int 81 0,Value.str (Str.ofString "/claim/cut.py") 502],#[]⟩
def L8(P:Params):Obj:=⟨Value.type "function",none,.func (PySem.W.fnOf "gathered" "Behinds.gathered" (aZ gY) (aX gY) (aO gY) (Value.none) (Value.none) (Value.none) (Value.str (Str.ofString "whens.behind") 414) (none) (Value.ref 162) (Value.none)),#[]⟩
def Tj(P:Params):Obj:=⟨Value.type "tuple",none,Data.seq #[Value.str (Str.ofString "by_mays") 504,Value.str (Str.ofString "by_words") 505],#[]⟩
def Vl(P:Params):Obj:=⟨Value.type "dict",none,Data.dict #[{hash:=PyData.keyHash P (Str.ofString "__module__"),key:=Value.str (Str.ofString "__module__") 464,val:=Value.str (Str.ofString "whens.behind") 414},{hash:=PyData.keyHash P (Str.ofString "__firstlineno__"),key:=Value.str (Str.ofString "__firstlineno__") 468,val:=Value.int 63 467},{hash:=PyData.keyHash P (Str.ofString "__init__"),key:=Value.str (Str.ofString "__init__") 475,val:=Value.ref 144},{hash:=PyData.keyHash P (Str.ofString "words"),key:=Value.str (Str.ofString "words") 486,val:=Value.ref 151},{hash:=PyData.keyHash P (Str.ofString "mays"),key:=Value.str (Str.ofString "mays") 497,val:=Value.ref 158},{hash:=PyData.keyHash P (Str.ofString "gathered"),key:=Value.str (Str.ofString "gathered") 503,val:=Value.ref 163},{hash:=PyData.keyHash P (Str.ofString "__static_attributes__"),key:=Value.str (Str.ofString "__static_attributes__") 506,val:=Value.ref 164},{hash:=PyData.keyHash P (Str.ofString "__dict__"),key:=Value.str (Str.ofString "__dict__") 508,val:=Value.ref 167},{hash:=PyData.keyHash P (Str.ofString "__weakref__"),key:=Value.str (Str.ofString "__weakref__") 510,val:=Value.ref 168},{hash:=PyData.keyHash P (Str.ofString "__doc__"),key:=Value.str (Str.ofString "__doc__") 511,val:=Value.none}] 4,#[]⟩
def Z1(P:Params):Obj:=⟨Value.type "type",none,Data.cls {name:=Str.ofString "Behinds",bases:=[Value.type "object"],mro:=[Value.ref 166,Value.type "object"],ns:=165,qualname:=Str.ofString "Behinds"},#[none,none,some (Value.str (Str.ofString "Behinds") 457),some (Value.str (Str.ofString "Behinds") 465),some (Value.builtin "object.__new__"),some (Value.bool true)]⟩
def v0(P:Params):Obj:=⟨Value.type "getset_descriptor",none,Data.fields #[Value.str (Str.ofString "__dict__") 507,Value.ref 166,Value.builtin "function.__dict__",Value.builtin "function.__dict__#set"],#[]⟩
def Xk(P:Params):Obj:=⟨Value.type "getset_descriptor",none,Data.fields #[Value.str (Str.ofString "__weakref__") 509,Value.ref 166,Value.builtin "ExceptionGroup.__weakref__",Value.none],#[]⟩
def Ub(P:Params):Obj:=⟨Value.type "code",none,Data.fields #[Value.str (Str.ofString "behind_mays") 514,Value.str (Str.ofString "behind_mays") 515,Value.str (Str.ofString "/claim/cut.py") 516,Value.int 91 0,Value.int 3 0,Value.int 0 0,Value.int 0 0,Value.int 3 0,Value.ref 171,Value.bool true,Value.int 181 0,Value.ref 172,Value.none,Value.ref 173,Value.ref 174,Value.ref 175,Value.int 520 0,Value.int 91 0,Value.str (Str.ofString "/claim/cut.py") 521],#[]⟩
def Qy(P:Params):Obj:=⟨Value.type "function",none,.func (PySem.W.fnOf "behind_mays" "behind_mays" (aZ gR) (aX gR) (aO gR) (Value.none) (Value.none) (Value.none) (Value.str (Str.ofString "whens.behind") 414) (none) (Value.ref 176) (Value.none)),#[]⟩
def T3(P:Params):Obj:=⟨Value.type "code",none,Data.fields #[Value.str (Str.ofString "_law_feed") 525,Value.str (Str.ofString "_law_feed") 526,Value.str (Str.ofString "/claim/cut.py") 527,Value.int 94 0,Value.int 1 0,Value.int 0 0,Value.int 0 0,Value.int 3 0,Value.ref 178,Value.bool true,Value.int 181 0,Value.ref 179,Value.none,Value.ref 180,Value.ref 181,Value.ref 182,Value.int 529 0,Value.int 94 0,Value.str (Str.ofString "/claim/cut.py") 530],#[]⟩
def F1(P:Params):Obj:=⟨Value.type "function",none,.func (PySem.W.fnOf "_law_feed" "_law_feed" (aZ iX) (aX iX) (aO iX) (Value.none) (Value.none) (Value.none) (Value.str (Str.ofString "law_whens_k39_whole_plain_stays_plain") 523) (none) (Value.ref 183) (Value.none)),#[]⟩
def D5(P:Params):Obj:=⟨Value.type "code",none,Data.fields #[Value.str (Str.ofString "_law_draw") 532,Value.str (Str.ofString "_law_draw") 533,Value.str (Str.ofString "/claim/cut.py") 534,Value.int 96 0,Value.int 2 0,Value.int 0 0,Value.int 0 0,Value.int 3 0,Value.ref 185,Value.bool true,Value.int 181 0,Value.ref 186,Value.none,Value.ref 187,Value.ref 188,Value.ref 189,Value.int 541 0,Value.int 96 0,Value.str (Str.ofString "/claim/cut.py") 542],#[]⟩
def Wl(P:Params):Obj:=⟨Value.type "function",none,.func (PySem.W.fnOf "_law_draw" "_law_draw" (aZ gI) (aX gI) (aO gI) (Value.none) (Value.none) (Value.none) (Value.str (Str.ofString "law_whens_k39_whole_plain_stays_plain") 523) (none) (Value.ref 190) (Value.none)),#[]⟩
def Zc(P:Params):Obj:=⟨Value.type "code",none,Data.fields #[Value.str (Str.ofString "_law_plain") 544,Value.str (Str.ofString "_law_plain") 545,Value.str (Str.ofString "/claim/cut.py") 546,Value.int 113 0,Value.int 2 0,Value.int 0 0,Value.int 0 0,Value.int 3 0,Value.ref 192,Value.bool true,Value.int 181 0,Value.ref 193,Value.none,Value.none,Value.none,Value.ref 194,Value.int 547 0,Value.int 113 0,Value.str (Str.ofString "/claim/cut.py") 548],#[]⟩
def Vj(P:Params):Obj:=⟨Value.type "function",none,.func (PySem.W.fnOf "_law_plain" "_law_plain" (aZ hX) (aX hX) (aO hX) (Value.none) (Value.none) (Value.none) (Value.str (Str.ofString "law_whens_k39_whole_plain_stays_plain") 523) (none) (Value.ref 195) (Value.none)),#[]⟩
def Qr(P:Params):Obj:=⟨Value.type "code",none,Data.fields #[Value.str (Str.ofString "_law_turned_right") 550,Value.str (Str.ofString "_law_turned_right") 551,Value.str (Str.ofString "/claim/cut.py") 552,Value.int 118 0,Value.int 2 0,Value.int 0 0,Value.int 0 0,Value.int 3 0,Value.ref 197,Value.bool true,Value.int 181 0,Value.ref 198,Value.none,Value.ref 199,Value.ref 200,Value.ref 201,Value.int 556 0,Value.int 118 0,Value.str (Str.ofString "/claim/cut.py") 557],#[]⟩
def r8(P:Params):Obj:=⟨Value.type "function",none,.func (PySem.W.fnOf "_law_turned_right" "_law_turned_right" (aZ hJ) (aX hJ) (aO hJ) (Value.none) (Value.none) (Value.none) (Value.str (Str.ofString "law_whens_k39_whole_plain_stays_plain") 523) (none) (Value.ref 202) (Value.none)),#[]⟩
def Yc(P:Params):Obj:=⟨Value.type "code",none,Data.fields #[Value.str (Str.ofString "_law_behind_right") 559,Value.str (Str.ofString "_law_behind_right") 560,Value.str (Str.ofString "/claim/cut.py") 561,Value.int 121 0,Value.int 3 0,Value.int 0 0,Value.int 0 0,Value.int 3 0,Value.ref 204,Value.bool true,Value.int 181 0,Value.ref 205,Value.none,Value.none,Value.none,Value.ref 206,Value.int 562 0,Value.int 121 0,Value.str (Str.ofString "/claim/cut.py") 563],#[]⟩
def P4(P:Params):Obj:=⟨Value.type "function",none,.func (PySem.W.fnOf "_law_behind_right" "_law_behind_right" (aZ hZ) (aX hZ) (aO hZ) (Value.none) (Value.none) (Value.none) (Value.str (Str.ofString "law_whens_k39_whole_plain_stays_plain") 523) (none) (Value.ref 207) (Value.none)),#[]⟩
def C1(P:Params):Obj:=⟨Value.type "code",none,Data.fields #[Value.str (Str.ofString "law") 565,Value.str (Str.ofString "law") 566,Value.str (Str.ofString "/claim/cut.py") 567,Value.int 130 0,Value.int 1 0,Value.int 0 0,Value.int 0 0,Value.int 3 0,Value.ref 209,Value.bool true,Value.int 181 0,Value.ref 210,Value.none,Value.none,Value.none,Value.ref 211,Value.int 568 0,Value.int 130 0,Value.str (Str.ofString "/claim/cut.py") 569],#[]⟩
def Xr(P:Params):Obj:=⟨Value.type "function",none,.func (PySem.W.fnOf "law" "law" (aZ fR) (aX fR) (aO fR) (Value.none) (Value.none) (Value.none) (Value.str (Str.ofString "law_whens_k39_whole_plain_stays_plain") 523) (none) (Value.ref 212) (Value.none)),#[]⟩
def kk(P:Params):PySem.W.Frag:=[(3,Xw P),(15,CD P),(16,Xy P),(17,P7 P),(18,Vu P),(19,Wk P),(20,BC P),(21,Tu P),(22,Sn P),(23,Rk P),(24,R9 P),(25,Sq P),(26,Yx P),(27,Z7 P),(28,t7 P),(29,Rs P),(30,X4 P),(31,Sg P),(32,Sr P),(33,BL P),(34,D9 P),(35,Pf P),(36,Rw P),(37,N0 P),(43,Sd P),(44,Ut P),(50,n6 P),(51,Vg P),(55,Zd P),(56,Wu P),(62,Qb P),(63,Q4 P),(69,B6 P),(70,M2 P),(74,R7 P),(75,u9 P),(81,u5 P),(82,Qz P),(86,Wr P),(87,G5 P),(91,V7 P),(92,Ti P),(98,M9 P),(99,Wj P),(105,Zk P),(106,W5 P),(112,Q3 P),(113,G8 P),(117,Qc P),(118,W8 P),(124,Qo P),(125,Vm P),(129,BR P),(130,C3 P),(143,Wf P),(144,f8 P),(150,Rz P),(151,Wp P),(162,W2 P),(163,L8 P),(164,Tj P),(165,Vl P),(166,Z1 P),(167,v0 P),(168,Xk P),(176,Ub P),(177,Qy P),(183,T3 P),(184,F1 P),(190,D5 P),(191,Wl P),(195,Zc P),(196,Vj P),(202,Qr P),(203,r8 P),(207,Yc P),(208,P4 P),(212,C1 P),(213,Xr P)]
end K39
open PySem PySem.W PyProof.Rows
set_option maxRecDepth 100000 in
set_option maxHeartbeats 0 in
theorem PySem.Challenge.cw_whens_k39_whole_plain_stays_plain_holds : PySem.Challenge.rw_whens_k39_whole_plain_stays_plain.Holds := by
 w_on;o_law;refine H39.head (H:=kHook K39.kk [3,15,16,17,18,19,20,21,22,23,24,25,26,27,28,29,30,31,32,33,34,35,36,37,43,44,50,51,55,56,62,63,69,70,74,75,81,82,86,87,91,92,98,99,105,106,112,113,117,118,124,125,129,130,143,144,150,151,162,163,164,165,166,167,168,176,177,183,184,190,191,195,196,202,203,207,208,212,213] (fun _=>by kernel_rfl)) (fun w os=>by kernel_rfl) (by assumption) (by rfl) (by rfl) (by rfl) ?hw ?hc;(case hw=>w_witness2)
 k_fill
 refine K39.walk (l:=PySem.Challenge.rw_whens_k39_whole_plain_stays_plain) rfl rfl (fun w h Y=>PySem.W.kIn_of Y) ?F
 case F =>
  intro w mg fa h KX G hmg
  refine' K39.all_mk (bL:=166) (uU:=44) (vE:=51) (uJ:=56) (wJ:=63) (xD:=70) (tI:=75) (sS:=82) (uL:=87) (xB:=92) (xH:=99) (wB:=106) (uQ:=113) (vU:=118) (sW:=125) (wQ:=130) (qC:=144) (qG:=151) (nN:=163) (vW:=177) (wR:=184) (vM:=191) (xA:=196) (tP:=203) (uW:=208) (tV:=213) (jY:=16) (gS:=15) (kR:=23) (eA:=37) KX G hmg ?g_Behinds ?pg_Behinds ?hd_Behinds ?po_Behinds ?sa_Behinds ?mk_Behinds ?kc_Behinds ?n_Behinds_by_words ?n_Behinds_by_mays ?a0 ?l0 ?c0 ?k0 ?a1 ?l1 ?c1 ?k1 ?a2 ?l2 ?c2 ?k2 ?a3 ?l3 ?c3 ?k3 ?a4 ?l4 ?c4 ?k4 ?a5 ?l5 ?c5 ?k5 ?a6 ?l6 ?c6 ?k6 ?a7 ?l7 ?c7 ?k7 ?a8 ?l8 ?c8 ?k8 ?a9 ?l9 ?c9 ?k9 ?a10 ?l10 ?c10 ?k10 ?a11 ?l11 ?c11 ?k11 ?a12 ?l12 ?c12 ?k12 ?a13 ?l13 ?c13 ?k13 ?a14 ?l14 ?c14 ?k14 ?a15 ?l15 ?c15 ?k15 ?i15 ?a16 ?l16 ?c16 ?k16 ?i16 ?a17 ?l17 ?c17 ?k17 ?i17 ?a18 ?l18 ?c18 ?k18 ?a19 ?l19 ?c19 ?k19 ?a20 ?l20 ?c20 ?k20 ?a21 ?l21 ?c21 ?k21 ?a22 ?l22 ?c22 ?k22 ?a23 ?l23 ?c23 ?k23 ?a24 ?l24 ?c24 ?k24 ?zU ?zH ?Ba ?yS ?yK ?Az ?Bt ?Ch ?Be ?Br ?yH ?Bz ?De ?Eh ?zZ ?y_WAYS ?Fg ?Ci ?y_END_COUNTS ?Cm ?Em ?lk_POINT_WORDS_0 ?lr_POINT_WORDS_0 ?lk_POINT_WORDS_1 ?lr_POINT_WORDS_1 ?lk_POINT_WORDS_2 ?lr_POINT_WORDS_2 ?y_POINT_WORDS ?Cl ?Bn ?z_tuple ?z_reversed ?z_sorted ?z_range ?z_all ?z_zip ?z_len ?z_list ?z_int
  (case g_Behinds=>kernel_rfl)
  (case pg_Behinds=>kernel_rfl)
  (case hd_Behinds=>kernel_rfl)
  (case po_Behinds=>kernel_rfl)
  (case sa_Behinds=>kernel_rfl)
  (case mk_Behinds=>kernel_rfl)
  (case kc_Behinds=>kernel_rfl)
  (case n_Behinds_by_words=>kernel_rfl)
  (case n_Behinds_by_mays=>kernel_rfl)
  (case a0=>kernel_rfl)
  (case l0=>exact rfl)
  (case c0=>kernel_rfl)
  (case k0=>kernel_rfl)
  (case a1=>kernel_rfl)
  (case l1=>exact rfl)
  (case c1=>kernel_rfl)
  (case k1=>kernel_rfl)
  (case a2=>kernel_rfl)
  (case l2=>exact rfl)
  (case c2=>kernel_rfl)
  (case k2=>kernel_rfl)
  (case a3=>kernel_rfl)
  (case l3=>exact rfl)
  (case c3=>kernel_rfl)
  (case k3=>kernel_rfl)
  (case a4=>kernel_rfl)
  (case l4=>exact rfl)
  (case c4=>kernel_rfl)
  (case k4=>kernel_rfl)
  (case a5=>kernel_rfl)
  (case l5=>exact rfl)
  (case c5=>kernel_rfl)
  (case k5=>kernel_rfl)
  (case a6=>kernel_rfl)
  (case l6=>exact rfl)
  (case c6=>kernel_rfl)
  (case k6=>kernel_rfl)
  (case a7=>kernel_rfl)
  (case l7=>exact rfl)
  (case c7=>kernel_rfl)
  (case k7=>kernel_rfl)
  (case a8=>kernel_rfl)
  (case l8=>exact rfl)
  (case c8=>kernel_rfl)
  (case k8=>kernel_rfl)
  (case a9=>kernel_rfl)
  (case l9=>exact rfl)
  (case c9=>kernel_rfl)
  (case k9=>kernel_rfl)
  (case a10=>kernel_rfl)
  (case l10=>exact rfl)
  (case c10=>kernel_rfl)
  (case k10=>kernel_rfl)
  (case a11=>kernel_rfl)
  (case l11=>exact rfl)
  (case c11=>kernel_rfl)
  (case k11=>kernel_rfl)
  (case a12=>kernel_rfl)
  (case l12=>exact rfl)
  (case c12=>kernel_rfl)
  (case k12=>kernel_rfl)
  (case a13=>kernel_rfl)
  (case l13=>exact rfl)
  (case c13=>kernel_rfl)
  (case k13=>kernel_rfl)
  (case a14=>kernel_rfl)
  (case l14=>exact rfl)
  (case c14=>kernel_rfl)
  (case k14=>kernel_rfl)
  (case a15=>kernel_rfl)
  (case l15=>exact rfl)
  (case c15=>kernel_rfl)
  (case k15=>kernel_rfl)
  (case i15=>kernel_rfl)
  (case a16=>kernel_rfl)
  (case l16=>exact rfl)
  (case c16=>kernel_rfl)
  (case k16=>kernel_rfl)
  (case i16=>kernel_rfl)
  (case a17=>kernel_rfl)
  (case l17=>exact rfl)
  (case c17=>kernel_rfl)
  (case k17=>kernel_rfl)
  (case i17=>kernel_rfl)
  (case a18=>kernel_rfl)
  (case l18=>exact rfl)
  (case c18=>kernel_rfl)
  (case k18=>kernel_rfl)
  (case a19=>kernel_rfl)
  (case l19=>exact rfl)
  (case c19=>kernel_rfl)
  (case k19=>kernel_rfl)
  (case a20=>kernel_rfl)
  (case l20=>exact rfl)
  (case c20=>kernel_rfl)
  (case k20=>kernel_rfl)
  (case a21=>kernel_rfl)
  (case l21=>exact rfl)
  (case c21=>kernel_rfl)
  (case k21=>kernel_rfl)
  (case a22=>kernel_rfl)
  (case l22=>exact rfl)
  (case c22=>kernel_rfl)
  (case k22=>kernel_rfl)
  (case a23=>kernel_rfl)
  (case l23=>exact rfl)
  (case c23=>kernel_rfl)
  (case k23=>kernel_rfl)
  (case a24=>kernel_rfl)
  (case l24=>exact rfl)
  (case c24=>kernel_rfl)
  (case k24=>kernel_rfl)
  (case zU=>kernel_rfl)
  (case zH=>exact rfl)
  (case Ba=>exact rfl)
  (case yS=>exact rfl)
  (case yK=>exact rfl)
  (case Az=>exact rfl)
  (case Bt=>exact rfl)
  (case Ch=>exact rfl)
  (case Be=>exact rfl)
  (case Br=>exact rfl)
  (case yH=>exact rfl)
  (case Bz=>exact rfl)
  (case De=>exact rfl)
  (case Eh=>exact rfl)
  (case zZ=>exact rfl)
  (case y_WAYS=>rfl)
  (case Fg=>kernel_rfl)
  (case Ci=>exact rfl)
  (case y_END_COUNTS=>rfl)
  (case Cm=>kernel_rfl)
  (case Em=>exact rfl)
  (case lk_POINT_WORDS_0=>exact rfl)
  (case lr_POINT_WORDS_0=>exact rfl)
  (case lk_POINT_WORDS_1=>exact rfl)
  (case lr_POINT_WORDS_1=>exact rfl)
  (case lk_POINT_WORDS_2=>exact rfl)
  (case lr_POINT_WORDS_2=>exact rfl)
  (case y_POINT_WORDS=>rfl)
  (case Cl=>kernel_rfl)
  (case Bn=>exact rfl)
  (case z_tuple=>kernel_rfl)
  (case z_reversed=>kernel_rfl)
  (case z_sorted=>kernel_rfl)
  (case z_range=>kernel_rfl)
  (case z_all=>kernel_rfl)
  (case z_zip=>kernel_rfl)
  (case z_len=>kernel_rfl)
  (case z_list=>kernel_rfl)
  (case z_int=>kernel_rfl)
#print axioms PySem.Challenge.cw_whens_k39_whole_plain_stays_plain_holds
