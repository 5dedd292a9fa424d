import PyProof.Rows.All
import Wide.All
import OpenK.AllK
import Wide.FinOn
import Lean
import PyProof.EqAt
import PyProof.EqKinds
import PyProof.TupleCall
import PyProof.ListMulRoad
import KE.KRevIter
import PyProof.ZipIter
import PyProof.TupleIter
import PyProof.Rows.SortWalk
import PyProof.Rows.SortStr
import PyProof.Rows.StrWeight2
import PyProof.ConsumeWalk
import PyProof.SliceStr2
import PyProof.ListRange
import PyProof.TupleOfSeq
import PyProof.P3In
import PyProof.AttrMissHeap
import KE.KDictOf
import PyProof.StrBlockI
import PyProof.WalksEnum
import PyProof.EnumMake
import PyProof.DictWalks
import PyProof.SetRoads
import PyProof.SetNew
import PyProof.Rows.SetFrom
import PyProof.CollectWalk
import PyProof.StrWalks
import PyProof.FString5
import PyProof.Rows.SortShell
import PyProof.SeqI3
import PyProof.SliceList
import Open.Tops
import PyProof.DictDisplay
import PyProof.Rows.TupDisplay
import PySem.Challenge.RW_whens_k29_papers_laid_and_retold
set_option Elab.async false
set_option linter.all false
set_option maxRecDepth 100000
set_option maxHeartbeats 4000000
namespace L2
open PySem PySem.Spec PyProof.Rows
noncomputable instance decPy:DecidableEq PyData:=fun _ _=>Classical.propDecidable _
mutual
def isK:PyData->Bool
 | .int _=>true
 | .str x=>PyData.strOk x
 | .tuple xs=>isKs xs
 | .none | .bool _ | .list _ | .dict _=>false
def isKs:List PyData->Bool
 | []=>true
 | x::xs=>isK x&&isKs xs
end
mutual
def yM(w:World):PyData->Int
 | .int i=>hashInt i
 | .str x=>hashStr w x
 | .tuple xs=>reduceHash (Builtin.Tuple.tupleHashOf (hashKs w xs))
 | .none | .bool _ | .list _ | .dict _=>0
def hashKs(w:World):List PyData->List Int
 | []=>[]
 | x::xs=>yM w x::hashKs w xs
end
mutual
def wN:PyData->Nat
 | .int _ | .str _=>1
 | .tuple xs=>drawsKs xs+1
 | .none | .bool _ | .list _ | .dict _=>0
def drawsKs:List PyData->Nat
 | []=>0
 | x::xs=>wN x+drawsKs xs
end
mutual
theorem uW:∀ p:PyData,isK p=true->p.canLay0=true
 | .int _,_=>rfl
 | .str _,h=>h
 | .tuple xs,h=>isKs_lay xs h
 | .none,h | .bool _,h | .list _,h | .dict _,h=>by simp[isK]at h
theorem isKs_lay:∀ ps:List PyData,isKs ps=true->PyData.canLayAll0 ps=true
 | [],_=>rfl
 | x::xs,h=>by
  simp only[isKs,Bool.and_eq_true]at h;simp only[PyData.canLayAll0,uW x h.1,isKs_lay xs h.2,Bool.and_self]
end
mutual
theorem Mw:∀ p q:PyData,isK p=true->isK q=true->p.eqv q=decide (p=q)
 | .int i,.int j,_,_=>by
  simp only[PyData.eqv,PyData.int.injEq];exact Bool.eq_iff_iff.mpr (by simp)
 | .str x,.str y,_,_=>by
  simp only[PyData.eqv,PyData.str.injEq];exact Bool.eq_iff_iff.mpr (by simp)
 | .tuple xs,.tuple ys,h,h'=>by
  have e:=isKs_eqv xs ys h h'
  simp only[PyData.eqv,PyData.tuple.injEq];exact e
 | .int i,.str y,_,_ | .str y,.int i,_,_ | .int i,.tuple y,_,_ | .tuple y,.int i,_,_ | .str i,.tuple y,_,_ | .tuple y,.str i,_,_=>by
  simp only[PyData.eqv];exact(decide_eq_false (fun e=>nomatch e)).symm
 | .none,_,h,_ | .bool _,_,h,_ | .list _,_,h,_ | .dict _,_,h,_=>by simp[isK]at h
 | .int _,.none,_,h | .int _,.bool _,_,h | .int _,.list _,_,h | .int _,.dict _,_,h=>by simp[isK]at h
 | .str _,.none,_,h | .str _,.bool _,_,h | .str _,.list _,_,h | .str _,.dict _,_,h=>by simp[isK]at h
 | .tuple _,.none,_,h | .tuple _,.bool _,_,h | .tuple _,.list _,_,h | .tuple _,.dict _,_,h=>by simp[isK]at h
theorem isKs_eqv:∀ p q:List PyData,isKs p=true->isKs q=true->PyData.eqvAll p q=decide (p=q)
 | [],[],_,_=>by simp[PyData.eqvAll]
 | [],_::_,_,_=>by simp[PyData.eqvAll]
 | _::_,[],_,_=>by simp[PyData.eqvAll]
 | x::xs,y::ys,h,h'=>by
  simp only[isKs,Bool.and_eq_true]at h h';simp only[PyData.eqvAll,Mw x y h.1 h'.1,isKs_eqv xs ys h.2 h'.2,List.cons.injEq];exact(Bool.decide_and _ _).symm
end
mutual
theorem El{h h':Heap}{d:Addr}{o:Obj}{es ep}(ho:h.get? d=some o)(hd:o.data=.dict es ep)(hs:Heap.SameBut d h h') :
  ∀ (p:PyData) (v:Value) (as:List Addr),isK p=true->Reads h v p as->Reads h' v p as
 | .int _,_,_,_,r=>by cases r;exact .int _ _
 | .str _,_,_,_,r=>by cases r;exact .str _ _
 | .tuple xs,_,_,hk,r=>by
  cases r with
  | tuple h1 h2 h3 h4 =>
   rename_i a ob vs n;have hne:a≠d:=by
    rintro rfl;obtain rfl:ob=o:=Option.some.inj (h1.symm.trans ho);rw[hd]at h3;exact nomatch h3
   exact .tuple ((hs.2 _ hne).trans h1) h2 h3 (readsAll_keep ho hd hs xs _ _ hk h4)
 | .none,_,_,h,_ | .bool _,_,_,h,_ | .list _,_,_,h,_ | .dict _,_,_,h,_=>by simp[isK]at h
theorem readsAll_keep{h h':Heap}{d:Addr}{o:Obj}{es ep}(ho:h.get? d=some o)(hd:o.data=.dict es ep)(hs:Heap.SameBut d h h') :
  ∀ (ps:List PyData) (vs:List Value) (as:List Addr),isKs ps=true->ReadsAll h vs ps as->ReadsAll h' vs ps as
 | [],_,_,_,r=>by cases r;exact .nil
 | x::xs,_,_,hk,r=>by
  simp only[isKs,Bool.and_eq_true]at hk
  cases r with
  | cons r1 r2=>exact .cons (El ho hd hs x _ _ hk.1 r1) (readsAll_keep ho hd hs xs _ _ hk.2 r2)
end
section
variable {prog:Program}{w:World}
mutual
theorem Ep:∀ (p:PyData) (v:Value) (A:Around) (E:Value->Shared->Prop) (s:Shared) (as:List Addr) (Q:Int->Shared->Prop),isK p=true->Reads s.heap v p as->A.units+p.depth<cLine ->
  Q (yM w p) {s with toks:=s.toks+wN p}->wpAny (model prog w) A (pyHash v) Q E s
 | .int i,_,A,E,s,_,Q,_,r,_,h=>by cases r;exact wpAny_pyHash_int h
 | .str x,_,A,E,s,_,Q,_,r,_,h=>by cases r;exact wpAny_pyHash_str h
 | .tuple xs,_,A,E,s,_,Q,hk,r,hu,h=>by
  cases r with
  | tuple h1 h2 h3 h4 =>
   refine PySem.W.pyHash_slot (T:="tuple") ⟨_,h1,h2⟩ F.slot_tuple_hash F.entry_tuple_hash (F.args_tuple_hash_1 _) (beq_builtin_none _) (.inr (by omega)) ?_
   show wpAny _ _ (Builtin.Tuple.tupleItemsOf (.ref _)>>=_) _ _ s
   refine wpAny_bind (wpAny_tupleItemsOf h1 h3 ?_);refine wpAny_bind ?_;rw[<- Array.forIn_toList];refine hash_readsAll xs _ A.in1 E s _ #[] _ hk h4 (by simp only[PyData.depth,Around.in1_units]at hu ⊢;omega) fun b hb=>?_
   show wpAny _ _ (retInt (Builtin.Tuple.tupleHashOf b.toList)) _ _ _
   rw[hb];exact wpAny_bind (wpAny_mkInt (wpAny_pure ⟨_,_,rfl,h⟩))
 | .none,_,_,_,_,_,_,h,_,_,_ | .bool _,_,_,_,_,_,_,h,_,_,_ | .list _,_,_,_,_,_,_,h,_,_,_ | .dict _,_,_,_,_,_,_,h,_,_,_=>by simp[isK]at h
theorem hash_readsAll:∀ (ps:List PyData) (vs:List Value) (A:Around) (E:Value->Shared->Prop) (s:Shared) (as:List Addr) (b:Array Int) (Q:Array Int->Shared->Prop),isKs ps=true->ReadsAll s.heap vs ps as->A.units+PyData.depthAll ps<cLine ->
  (∀ b',b'.toList=b.toList++hashKs w ps->Q b' {s with toks:=s.toks+drawsKs ps}) ->
  wpAny (model prog w) A (forIn vs b fun x r=>do let h <- pyHash x;pure PUnit.unit;pure (ForInStep.yield (r.push h))) Q E s
 | [],_,A,E,s,_,b,Q,_,x,_,h=>by cases x;exact wpAny_pure (h b (by simp[hashKs]))
 | k::xs,_,A,E,s,_,b,Q,hk,x,hu,h=>by
  cases x with
  | cons x1 x2 =>
   simp only[isKs,Bool.and_eq_true,PyData.depthAll]at hk hu;rw[List.forIn_cons];refine wpAny_bind (wpAny_bind (Ep k _ A E s _ _ hk.1 x1 (by omega) ?_))
   refine wpAny_bind (wpAny_pure (wpAny_pure ?_));refine hash_readsAll xs _ A E _ _ _ Q hk.2 x2 (by omega) fun b' hb=>?_
   have:=h b' (by simp[hb,hashKs])
   simpa[drawsKs,Nat.add_assoc] using this
end
mutual
theorem Nh:∀ (p:PyData) (v:Value) (A:Around) (E:Value->Shared->Prop) (s:Shared) (as:List Addr) (n:Nat) (Q:Bool->Shared->Prop),isK p=true->Reads s.heap v p as->p.depth<=n ->
  Q true s->wpAny (model prog w) A (eqIsQuiet n v) Q E s
 | .int i,_,A,E,s,_,n,Q,_,r,_,h=>by cases r;rw[eqIsQuiet_byValue _ rfl];exact wpAny_pure h
 | .str x,_,A,E,s,_,n,Q,_,r,_,h=>by cases r;rw[eqIsQuiet_byValue _ rfl];exact wpAny_pure h
 | .tuple xs,_,A,E,s,_,n,Q,hk,r,hn,h=>by
  cases r with
  | tuple h1 h2 h3 h4 =>
   have hT:s.TypeIs (.ref _) "tuple":=⟨_,h1,h2⟩
   unfold eqIsQuiet;refine wpAny_bind (wpAny_specialOf hT F.slot_tuple_eq.lookup ?_);show wpAny _ _ (isInstance (.ref _) (.type "tuple")>>=_) _ _ s
   refine wpAny_bind (wpAny_isInstance hT isSubtype_tuple_tuple ?_);simp only[Bool.not_true,Bool.false_eq_true,if_false];simp only[PyData.depth]at hn;obtain⟨n',rfl⟩:∃ n',n=n'+1:=⟨n-1,by omega⟩
   refine wpAny_bind (wpAny_seqItems h1 h3 ?_);refine wpAny_bind ?_;show wpAny _ _ (forIn _ _ _) _ _ s
   rw[<- Array.forIn_toList];refine wpAny_forIn_list _ (fun rest r s'=>r.1=none/\s'=s/\∃ ps as,isKs ps=true/\PyData.depthAll ps<=n'/\(∀ q∈ps,q∈xs)/\ReadsAll s.heap rest ps as) _ ?_ ?_ _ _ ⟨rfl,rfl,xs,_,hk,by omega,fun _ z=>z,h4⟩
   ·rintro v rest r s' ⟨hr,rfl,ps,as',hks,hd,hmem,ra⟩
    cases ra with
    | cons r1 r2 =>
     rename_i q qs as1 as2;simp only[isKs,Bool.and_eq_true,PyData.depthAll]at hks hd;have hq:q∈xs:=hmem q List.mem_cons_self
     have hdep:sizeOf q<sizeOf (PyData.tuple xs):=by have:=List.sizeOf_lt_of_mem hq;simp;omega
     refine wpAny_bind (Nh q v A E _ _ _ _ hks.1 r1 (by omega) ?_)
     simp only[Bool.not_true,Bool.false_eq_true,if_false];exact wpAny_pure ⟨rfl,rfl,qs,_,hks.2,by omega,fun z hz=>hmem z (List.mem_cons_of_mem _ hz),r2⟩
   ·rintro⟨r1,r2⟩ s' ⟨hr,rfl,_⟩;simp only at hr;subst hr;exact wpAny_pure h
 | .none,_,_,_,_,_,_,_,h,_,_,_ | .bool _,_,_,_,_,_,_,_,h,_,_,_ | .list _,_,_,_,_,_,_,_,h,_,_,_ | .dict _,_,_,_,_,_,_,_,h,_,_,_=>by simp[isK]at h
termination_by p=>sizeOf p
end
end
noncomputable def gF(prog:Program)(w:World):HeapKind prog w (List PyData) where
 is:=fun h ks a=>isKs ks=true/\PyData.depthAll ks<=6/\∃ as,Reads h (.ref a) (.tuple ks) as
 hash:=fun ks=>yM w (.tuple ks)
 draws:=fun ks=>wN (.tuple ks)
 room:=fun A=>A.units+20<cLine
 inj:=fun {h a x y} hx hy=>by
  obtain⟨k1,_,_,r1⟩:=hx;obtain⟨k2,_,_,r2⟩:=hy;have e:=SeqAt.Reads.unique _ _ _ _ _ (uW (.tuple x) k1) r1 r2
  exact PyData.tuple.inj e
 keeps:=fun x ho hd hs=>let ⟨k1,k2,as,r⟩:=x;⟨k1,k2,as,El ho hd hs _ _ _ k1 r⟩
 pyHash:=fun {A E s k a Q} hu hk h=>by
  obtain⟨k1,k2,as,r⟩:=hk;exact Ep (.tuple k) _ A E s as Q k1 r (by simp only[PyData.depth];omega) h
 eqBool:=fun {A E s x y a b Q} hu hx hy h=>by
  obtain⟨k1,d1,as,r1⟩:=hx;obtain⟨k2,d2,bs,r2⟩:=hy;refine SeqAt.eqAt_reads (.tuple x) (.tuple y) A s _ _ _ _ r1 r2 (uW (.tuple x) k1) (uW (.tuple y) k2) (by simp only[PyData.depth];omega) prog w E Q ?_
  rw[Mw (.tuple x) (.tuple y) k1 k2];have e:decide (PyData.tuple x=PyData.tuple y)=decide (x=y):=by
   simp only[PyData.tuple.injEq]
  rw[e];exact h
 quiet:=fun {A E s k a Q} hk h=>by
  obtain⟨k1,k2,as,r⟩:=hk;exact Nh (.tuple k) _ A E s as 8 Q k1 r (by simp only[PyData.depth];omega) h
end L2
namespace L2
open PySem PySem.Spec PyProof.Rows
abbrev aN:=Sum Int Str
def mR:aN->Value->Bool
 | .inl k,v=>Value.isInt k v
 | .inr x,v=>Value.isStrOf x v
def Vi(w:World):aN->Int
 | .inl k=>hashInt k
 | .inr x=>hashStr w x
theorem jB:∀ {k:aN} {v:Value},mR k v=true->(∃ i t,k=Sum.inl i/\v=Value.int i t)\/(∃ x t,k=Sum.inr x/\v=Value.str x t)
 | .inl i,v,h=>by
  obtain⟨t,e⟩:=Value.isInt_shape (k:=i) (v:=v) h;exact .inl ⟨i,t,rfl,e⟩
 | .inr x,v,h=>by
  obtain⟨t,e⟩:=Value.isStrOf_shape (x:=x) (v:=v) h;exact .inr ⟨x,t,rfl,e⟩
theorem Hu(i:Int)(t:Tok):mR (.inl i) (.int i t)=true:=by simp[mR,Value.isInt]
theorem N4(x:Str)(t:Tok):mR (.inr x) (.str x t)=true:=by simp[mR,Value.isStrOf]
theorem CK(a b:Int):decide ((Sum.inl a:aN)=Sum.inl b)=(a==b):=by
 by_cases e:a=b
 ·subst e;simp
 ·have h:¬ (Sum.inl a:aN)=Sum.inl b:=fun q=>e (Sum.inl.inj q)
  rw[decide_eq_false h];exact(beq_eq_false_iff_ne.mpr e).symm
theorem A2(a b:Str):decide ((Sum.inr a:aN)=Sum.inr b)=decide (a=b):=by
 by_cases e:a=b
 ·subst e;simp
 ·have h:¬ (Sum.inr a:aN)=Sum.inr b:=fun q=>e (Sum.inr.inj q)
  rw[decide_eq_false h,decide_eq_false e]
theorem Zz(a:Int)(b:Str):decide ((Sum.inl a:aN)=Sum.inr b)=false:=decide_eq_false (fun q=>nomatch q)
theorem Qh(a:Str)(b:Int):decide ((Sum.inr a:aN)=Sum.inl b)=false:=decide_eq_false (fun q=>nomatch q)
def bZ(prog:Program)(w:World):PySem.KeyKind prog w aN where
 is:=mR
 hash:=Vi w
 inj:=fun v a b ha hb=>by
  rcases jB ha with⟨i,t,rfl,rfl⟩ | ⟨x,t,rfl,rfl⟩
  ·rcases jB hb with⟨j,u,rfl,e⟩ | ⟨y,u,rfl,e⟩
   ·injection e with e1 _;rw[e1]
   ·exact nomatch e
  ·rcases jB hb with⟨j,u,rfl,e⟩ | ⟨y,u,rfl,e⟩
   ·exact nomatch e
   ·injection e with e1 _;rw[e1]
 byValue:=fun k v h=>by
  rcases jB h with⟨i,t,rfl,rfl⟩ | ⟨x,t,rfl,rfl⟩<;>rfl
 pyHash:=fun hv h=>by
  rcases jB hv with⟨i,t,rfl,rfl⟩ | ⟨x,t,rfl,rfl⟩
  ·exact wpAny_pyHash_int h
  ·exact wpAny_pyHash_str h
 eqBool:=fun hu hv h=>by
  rcases jB hu with⟨i,t,rfl,rfl⟩ | ⟨x,t,rfl,rfl⟩
  ·rcases jB hv with⟨j,u,rfl,rfl⟩ | ⟨y,u,rfl,rfl⟩
   ·rw[CK]at h;exact wpAny_eqBool_int h
   ·rw[Zz]at h;exact SeqAt.EqAt.int_str i t y u _ _ _ _ h
  ·rcases jB hv with⟨j,u,rfl,rfl⟩ | ⟨y,u,rfl,rfl⟩
   ·rw[Qh]at h;exact SeqAt.EqAt.str_int x t j u _ _ _ _ h
   ·rw[A2]at h;exact wpAny_eqBool_str h
 «strs»:=fun k x t v h=>by
  rcases jB h with⟨i,u,rfl,e⟩ | ⟨y,u,rfl,e⟩
  ·exact nomatch e
  ·injection e with e1 _
   subst e1
   cases v<;>rfl
theorem AF(prog:Program)(w:World)(i:Int)(t:Tok):(bZ prog w).is (.inl i) (.int i t)=true:=Hu i t
theorem x6(prog:Program)(w:World)(x:Str)(t:Tok):(bZ prog w).is (.inr x) (.str x t)=true:=N4 x t
end L2
namespace L2
open PySem PySem.Spec PyProof.Rows
inductive V where
 | non | bl (b:Bool) | int (i:Int) | str (x:Str) | byt (b:Array UInt8) | flt (b:UInt64) | ref (a:Addr) | ty (n:String)
 deriving DecidableEq
def RelV:V->Value->Prop
 | .non,u=>u=Value.none
 | .bl b,u=>u=Value.bool b
 | .int i,u=>∃ t,u=Value.int i t
 | .str x,u=>∃ t,u=Value.str x t
 | .byt b,u=>∃ t,u=Value.bytes b t
 | .flt b,u=>∃ t,u=Value.float b t
 | .ref a,u=>u=Value.ref a
 | .ty n,u=>u=Value.type n
abbrev Vals:List V->List Value->Prop:=Paired RelV
theorem Vals.length{xs:List V}{us:List Value}(r:Vals xs us):xs.length=us.length:=Paired.length r
theorem Vals.get:∀ {xs:List V} {us:List Value} {i:Nat} {x:V},Vals xs us->xs[i]?=some x->∃ u,us[i]?=some u/\RelV x u
 | _,_,_,_,.nil,e=>by simp at e
 | _,_,0,_,.cons r _,e=>by simp at e;subst e;exact⟨_,rfl,r⟩
 | _,_,i+1,x,.cons _ t,e=>by
  obtain⟨u,h1,h2⟩:=Vals.get (i:=i) (x:=x) t (by simpa using e)
  exact⟨u,by simpa using h1,h2⟩
theorem Vals.set{x:V}{u:Value}(r:RelV x u):∀ {xs:List V} {us:List Value} (i:Nat),Vals xs us->Vals (xs.set i x) (us.set i u)
 | _,_,_,.nil=>.nil
 | _,_,0,.cons _ t=>.cons r t
 | _,_,i+1,.cons q t=>.cons q (Vals.set r i t)
theorem Vals.append:∀ {xs ys:List V} {us ws:List Value},Vals xs us->Vals ys ws->Vals (xs++ys) (us++ws)
 | _,_,_,_,.nil,s=>s
 | _,_,_,_,.cons r t,s=>.cons r (Vals.append t s)
theorem Vals.take:∀ {xs:List V} {us:List Value} (n:Nat),Vals xs us->Vals (xs.take n) (us.take n)
 | _,_,0,_=>.nil
 | _,_,_+1,.nil=>.nil
 | _,_,n+1,.cons r t=>.cons r (Vals.take n t)
theorem Vals.drop:∀ {xs:List V} {us:List Value} (n:Nat),Vals xs us->Vals (xs.drop n) (us.drop n)
 | _,_,0,r=>r
 | _,_,_+1,.nil=>.nil
 | _,_,n+1,.cons _ t=>Vals.drop n t
def RelO:Option V->Option Value->Prop
 | some v,some u=>RelV v u
 | none,none=>True
 | _,_=>False
def KV{κ:Type}:List (κ×V)->List (κ×Value)->Prop:=Paired fun(p:κ×V) (q:κ×Value)=>p.1=q.1/\RelV p.2 q.2
def kV:aN->V
 | .inl i=>.int i
 | .inr x=>.str x
inductive HO where
 | lst (xs:List V)
 | tup (xs:List V)
 | dK (kvs:List (aN×V)) | dT (kvs:List (List aN×V)) | dN (K:PySem.W.Frag) (kvs:List (List PyData×V))
 | set (S:Int->Bool) (n:Nat)
 | ins (C dx:Addr) (fs:List (Str×V))
 | own (x:Addr)
 | xd (fs:List (Str×V))
 | met (f x:Addr)
 | rng (lo hi:Int)
 | frz (o:Obj) (u:HO)
 | tbl (ps:Array Value)
 | ext (φ:Heap->Prop)
abbrev Hp:=Addr->Option HO
def upd(H:Hp)(a:Addr)(o:HO):Hp:=fun b=>if b=a then some o else H b
theorem cX{H:Hp}{a:Addr}{o:HO}:upd H a o a=some o:=by unfold upd;rw[if_pos rfl]
theorem bR{H:Hp}{a b:Addr}{o:HO}(h:b≠a):upd H a o b=H b:=by unfold upd;rw[if_neg h]
theorem zD{H:Hp}{a b:Addr}{o u:HO}(h:H a=some o)(h':H b=some u)(d:o≠u):a≠b:=by
 intro e;subst e;rw[h]at h';exact d (Option.some.inj h')
theorem mB{H:Hp}{a b:Addr}{o:HO}(h:H a=some o)(h':H b=none):a≠b:=by
 intro e;subst e;rw[h]at h';cases h'
def NoD(h:Heap)(a:Addr):Prop:=∃ o,h.get? a=some o/\o.dict=none
theorem NoD.new(h:Heap)(c:Value)(d:Data)(hf:Obj.isFreed {cls:=c,data:=d}=false:=by rfl):NoD (h.push {cls:=c,data:=d}) h.objs.size:=⟨_,Heap.get?_push_size _ hf,rfl⟩
theorem NoD.keep{h h':Heap}{a:Addr}(x:NoD h a)(k:∀ o,h.get? a=some o->h'.get? a=some o):NoD h' a:=let ⟨o,e,d⟩:=x;⟨o,k _ e,d⟩
def TupAt(K:PySem.W.Frag)(H:Hp)(a:Addr)(xs:List V):Prop:=(H a=some (.tup xs)\/∃ o,H a=some (.frz o (.tup xs))) \/
  ∃ (o:Obj) (its:Array Value) (n:Nat),K.lookup a=some o/\(o.cls=.type "tuple"/\o.dict=none)/\o.data=.seq its n/\its.size<=sizeLine/\Vals xs its.toList
mutual
def NKV(K:PySem.W.Frag)(H:Hp):PyData->V->Prop
 | .int i,v=>v=.int i
 | .str x,v=>v=.str x
 | .tuple xs,v=>∃ a vs,v=.ref a/\TupAt K H a vs/\NKVs K H xs vs
 | .none,_ | .bool _,_ | .list _,_ | .dict _,_=>False
def NKVs(K:PySem.W.Frag)(H:Hp):List PyData->List V->Prop
 | [],vs=>vs=[]
 | x::xs,vs=>∃ v r,vs=v::r/\NKV K H x v/\NKVs K H xs r
end
section
variable {K:PySem.W.Frag}{H H':Hp}
theorem TupAt.stay{a:Addr}{xs:List V}(x:TupAt K H a xs)(ht:∀ b xs,H b=some (.tup xs)->H' b=some (.tup xs))(hf:∀ b o u,H b=some (.frz o u)->H' b=some (.frz o u)):TupAt K H' a xs:=by
 rcases x with (x | ⟨o,x⟩) | x
 ·exact .inl (.inl (ht _ _ x))
 ·exact .inl (.inr ⟨o,hf _ _ _ x⟩)
 ·exact .inr x
mutual
theorem NKV.stay(ht:∀ b xs,H b=some (.tup xs)->H' b=some (.tup xs))(hf:∀ b o u,H b=some (.frz o u)->H' b=some (.frz o u)):∀ (p:PyData) (v:V),NKV K H p v->NKV K H' p v
 | .int _,_,x=>by simpa only[NKV] using x
 | .str _,_,x=>by simpa only[NKV] using x
 | .tuple xs,_,x=>by
  simp only[NKV]at x ⊢;obtain⟨a,vs,e,x1,x2⟩:=x;exact⟨a,vs,e,x1.stay ht hf,NKVs.stay ht hf xs vs x2⟩
 | .none,_,x | .bool _,_,x | .list _,_,x | .dict _,_,x=>by simp only[NKV]at x
theorem NKVs.stay(ht:∀ b xs,H b=some (.tup xs)->H' b=some (.tup xs))(hf:∀ b o u,H b=some (.frz o u)->H' b=some (.frz o u)):∀ (ps:List PyData) (vs:List V),NKVs K H ps vs->NKVs K H' ps vs
 | [],_,x=>by simpa only[NKVs] using x
 | p::ps,_,x=>by
  simp only[NKVs]at x ⊢;obtain⟨v,r,e,x1,x2⟩:=x;exact⟨v,r,e,NKV.stay ht hf p v x1,NKVs.stay ht hf ps r x2⟩
end
end
section
variable (P:Program)(w:World)
def ObjOk(H:Hp)(h:Heap)(a:Addr):HO->Prop
 | .lst xs=>xs.length<=sizeLine/\∃ (its:List Value) (n:Nat),Vals xs its/\h.get? a=some {cls:=.type "list",data:=.seq its.toArray n}
 | .tup xs=>(xs.length<=sizeLine/\NoD h a)/\∃ its:List Value,Vals xs its/\IsTup h a its.toArray
 | .dK kvs=>kvs.length<=sizeLine/\(a==sysModules)=false/\∃ vs,KV kvs vs/\h.DictOf (bZ P w) a vs
 | .dT kvs=>kvs.length<=sizeLine/\(a==sysModules)=false/\∃ xs:List (List aN×Addr×Value),
   Paired (fun(p:List aN×V) (q:List aN×Addr×Value)=>p.1=q.1/\H q.2.1=some (.tup (p.1.map kV))/\RelV p.2 q.2.2) kvs xs /\
   ∃ o es ep,h.get? a=some o/\o.ExactDict/\o.data=.dict es ep/\es.toList=xs.map (entryOfKey (tupleKind (bZ P w)))/\(xs.map (·.1)).Nodup
 | .dN K kvs=>kvs.length<=sizeLine/\(a==sysModules)=false/\∃ xs:List (List PyData×Addr×Value),
   Paired (fun(p:List PyData×V) (q:List PyData×Addr×Value)=>p.1=q.1/\(isKs p.1=true/\PyData.depthAll p.1<=6/\NKV K H (.tuple p.1) (.ref q.2.1))/\RelV p.2 q.2.2) kvs xs /\
   ∃ o es ep,h.get? a=some o/\o.ExactDict/\o.data=.dict es ep/\es.toList=xs.map (entryOfKey (gF P w))/\(xs.map (·.1)).Nodup
 | .set S n=>h.SetOf (intKind P w) a S n
 | .ins C dx fs=>H dx=some (.own a)/\fs.length<=1000/\dx≠a/\h.get? a=some (PySem.W.instObj C dx) /\
   ∃ mA,h.Ns1 dx mA/\(∀ f,RelO (fs.lookup f) (mA f))/\PySem.Within mA (fs.map (·.1))
 | .own _=>∃ o,h.get? a=some o
 | .xd fs=>∃ mA,h.Ns1 a mA/\∀ f,RelO (fs.lookup f) (mA f)
 | .rng lo hi=>∃ t u v,h.get? a=some {cls:=.type "range",data:=.fields #[.int lo t,.int hi u,.int 1 v]}
 | .frz o u=>h.get? a=some o/\ObjOk H h a u
 | .tbl ps=>h.get? a=some {cls:=.none,data:=.fields ps}
 | .met f x=>h.get? a=some (PySem.W.methodObj (.ref f) (.ref x))
 | .ext φ=>φ h/\(∃ o,h.get? a=some o)/\∀ h1 h2:Heap,φ h1->(∀ o,h1.get? a=some o->h2.get? a=some o)->φ h2
def HOk(H:Hp)(h:Heap):Prop:=∀ a o,H a=some o->ObjOk P w H h a o
end
section
variable {P:Program}{w:World}{H H':Hp}{h h':Heap}{a:Addr}{o:HO}
theorem ObjOk.lt(x:ObjOk P w H h a o):a<h.objs.size:=by
 cases o with
 | lst xs=>obtain⟨_,_,_,_,e⟩:=x;exact Heap.lt_size e
 | tup xs=>obtain⟨_,_,_,p⟩:=x;exact p.lt
 | dK kvs=>obtain⟨_,_,_,_,o,_,_,e,_⟩:=x;exact Heap.lt_size e
 | dT kvs=>obtain⟨_,_,_,_,o,_,_,e,_⟩:=x;exact Heap.lt_size e
 | dN K kvs=>obtain⟨_,_,_,_,o,_,_,e,_⟩:=x;exact Heap.lt_size e
 | set S n=>obtain⟨o,_,_,_,e,_⟩:=x;exact Heap.lt_size e
 | ins C dx fs=>obtain⟨_,_,_,e,_⟩:=x;exact Heap.lt_size e
 | own y=>obtain⟨_,e⟩:=x;exact Heap.lt_size e
 | xd fs=>obtain⟨_,⟨_,_,_,e,_⟩,_⟩:=x;exact Heap.lt_size e
 | rng lo hi=>obtain⟨_,_,_,e⟩:=x;exact Heap.lt_size e
 | frz ob u=>obtain⟨e,_⟩:=x;exact Heap.lt_size e
 | tbl ps=>exact Heap.lt_size (show h.get? a=some _ from x)
 | met f y=>exact Heap.lt_size (show h.get? a=some _ from x)
 | ext φ=>obtain⟨_,⟨_,e⟩,_⟩:=x;exact Heap.lt_size e
theorem Paired.mapP{α β:Type}{F G:α->β->Prop}:∀ {l₁:List α} {l₂:List β},Paired F l₁ l₂->(∀ a b,F a b->G a b)->Paired G l₁ l₂
 | _,_,.nil,_=>.nil
 | _,_,.cons r t,f=>.cons (f _ _ r) (Paired.mapP t f)
theorem ObjOk.stay(x:ObjOk P w H h a o)(k:∀ b u,(b=a\/H b=some (.own a))->h.get? b=some u->h'.get? b=some u)
  (ho:∀ b,H b=some (.own a)->H' b=some (.own a)) (ht:∀ b xs,H b=some (.tup xs)->H' b=some (.tup xs)) (hf:∀ b ob u,H b=some (.frz ob u)->H' b=some (.frz ob u)):ObjOk P w H' h' a o:=by
 induction o with
 | lst xs=>obtain⟨z,its,n,r,e⟩:=x;exact⟨z,its,n,r,k _ _ (.inl rfl) e⟩
 | tup xs=>obtain⟨z,its,r,ob,e,c⟩:=x;exact⟨⟨z.1,z.2.keep fun _ e=>k _ _ (.inl rfl) e⟩,its,r,ob,k _ _ (.inl rfl) e,c⟩
 | dK kvs=>obtain⟨z,y,vs,r,ob,es,ep,e,c⟩:=x;exact⟨z,y,vs,r,ob,es,ep,k _ _ (.inl rfl) e,c⟩
 | dT kvs =>
  obtain⟨z,y,xs,r,ob,es,ep,e,c⟩:=x;exact⟨z,y,xs,Paired.mapP r fun p q z=>⟨z.1,ht _ _ z.2.1,z.2.2⟩,ob,es,ep,k _ _ (.inl rfl) e,c⟩
 | dN K kvs =>
  obtain⟨z,y,xs,r,ob,es,ep,e,c⟩:=x;exact⟨z,y,xs,Paired.mapP r fun p q z=>⟨z.1,⟨z.2.1.1,z.2.1.2.1,NKV.stay ht hf _ _ z.2.1.2.2⟩,z.2.2⟩,ob,es,ep,k _ _ (.inl rfl) e,c⟩
 | set S n=>obtain⟨ob,es,ep,t,e,c⟩:=x;exact⟨ob,es,ep,t,k _ _ (.inl rfl) e,c⟩
 | ins C dx fs =>
  obtain⟨d,z,ne,e,mA,⟨od,es,ep,e2,c⟩,r⟩:=x;exact⟨ho _ d,z,ne,k _ _ (.inl rfl) e,mA,⟨od,es,ep,k _ _ (.inr d) e2,c⟩,r⟩
 | own y=>obtain⟨ob,e⟩:=x;exact⟨ob,k _ _ (.inl rfl) e⟩
 | xd fs=>obtain⟨mA,⟨od,es,ep,e,c⟩,r⟩:=x;exact⟨mA,⟨od,es,ep,k _ _ (.inl rfl) e,c⟩,r⟩
 | rng lo hi=>obtain⟨t,u,v,e⟩:=x;exact⟨t,u,v,k _ _ (.inl rfl) e⟩
 | frz ob u ih=>obtain⟨e,q⟩:=x;exact⟨k _ _ (.inl rfl) e,ih q⟩
 | tbl ps =>
  have e:h.get? a=some {cls:=.none,data:=.fields ps}:=x
  show h'.get? a=some {cls:=.none,data:=.fields ps}
  exact k a _ (.inl rfl) e
 | met f y =>
  have e:h.get? a=some (PySem.W.methodObj (.ref f) (.ref y)):=x
  show h'.get? a=some (PySem.W.methodObj (.ref f) (.ref y))
  exact k a _ (.inl rfl) e
 | ext φ=>obtain⟨p,⟨o,e⟩,st⟩:=x;exact⟨st _ _ p fun o q=>k _ _ (.inl rfl) q,⟨o,k _ _ (.inl rfl) e⟩,st⟩
theorem HOk.lt(x:HOk P w H h)(e:H a=some o):a<h.objs.size:=(x a o e).lt
theorem HOk.fresh(x:HOk P w H h)(e:h.objs.size<=a):H a=none:=by
 cases q:H a with
 | none=>rfl
 | some u=>exact absurd (Nat.lt_of_lt_of_le (x.lt q) e) (Nat.lt_irrefl _)
theorem HOk.kept(x:HOk P w H h)(k:∀ b u,h.get? b=some u->h'.get? b=some u):HOk P w H h':=fun a o e =>
 (x a o e).stay (fun b u _ q=>k b u q) (fun _ q=>q) (fun _ _ q=>q) fun _ _ _ q=>q
theorem HOk.laid(x:HOk P w H h)(k:∀ b u,h.get? b=some u->h'.get? b=some u)(hp:h.objs.size<=a)(new:ObjOk P w (upd H a o) h' a o):HOk P w (upd H a o) h':=fun b u e=>by
 have hn:=x.fresh hp
 by_cases hb:b=a
 ·subst hb;rw[cX]at e;cases e;exact new
 ·rw[bR hb]at e;exact(x b u e).stay (fun c v _ q=>k c v q) (fun c q=>by rw[bR (mB q hn)];exact q) (fun c xs q=>by rw[bR (mB q hn)];exact q) fun c ob u q=>by rw[bR (mB q hn)];exact q
end
def Rd(H:Hp)(a:Addr)(u:HO):Prop:=H a=some u\/∃ o,H a=some (.frz o u)
theorem Rd.of{H:Hp}{a:Addr}{u:HO}(h:H a=some u):Rd H a u:=.inl h
theorem Rd.ok{P:Program}{w:World}{H:Hp}{h:Heap}{a:Addr}{u:HO}(r:Rd H a u)(x:HOk P w H h):ObjOk P w H h a u:=by
 rcases r with r | ⟨o,r⟩
 ·exact x a u r
 ·obtain⟨_,q⟩:=x a _ r;exact q
def pC:Option HO->Prop
 | some (.lst _)=>True
 | some (.dK _)=>True
 | some (.dT _)=>True
 | some (.dN _ _)=>True
 | some (.set _ _)=>True
 | some (.ins _ _ _)=>True
 | some (.ext _)=>True
 | _=>False
section
variable {P:Program}{w:World}{H:Hp}{h h':Heap}{x e:Addr}{o':HO}
theorem HOk.write(ok:HOk P w H h)(mu:pC (H x))(he:e=x\/H e=some (.own x))(k:∀ b u,b≠e->h.get? b=some u->h'.get? b=some u)(heo:∃ u,h'.get? e=some u)
  (new:ObjOk P w (upd H x o') h' x o'):HOk P w (upd H x o') h':=fun b u q=>by
 have nown:∀ c y,H c=some (.own y)->c≠x:=fun c y r z=>by subst z;rw[r]at mu;exact mu
 have ntup:∀ c xs,H c=some (.tup xs)->c≠x:=fun c xs r z=>by subst z;rw[r]at mu;exact mu
 by_cases hb:b=x
 ·subst hb;rw[cX]at q;cases q;exact new
 ·rw[bR hb]at q
  by_cases hbe:b=e
  ·have q':H b=some (.own x):=by
    rcases he with z | z
    ·exact absurd (hbe.trans z) hb
    ·rw[hbe];exact z
   rw[q]at q';cases q';obtain⟨v,hv⟩:=heo;exact⟨v,by rw[hbe];exact hv⟩
  ·refine(ok b u q).stay (fun c v hc r=>k c v ?_ r) (fun c r=>by rw[bR (nown c b r)];exact r) (fun c xs r=>by rw[bR (ntup c xs r)];exact r) fun c ob u r=>by rw[bR (fun z=>by subst z;rw[r]at mu;exact mu)];exact r
   rcases hc with rfl | hc
   ·exact hbe
   ·rintro rfl;rcases he with z | z
    ·exact nown c b hc z
    ·rw[hc]at z;cases z;exact hb rfl
end
structure Un (fs ex:List Addr) (H H':Hp) (h h':Heap):Prop where
 keep:∀ b o,h.get? b=some o->H b=none->b∉fs->b∉ex->h'.get? b=some o
 slot:∀ b o,h.get? b=some o->H b=none->b∈fs->b∉ex->∃ sl,h'.get? b=some {o with slots:=sl}
 free:∀ b o,h.get? b=some o->H b=none->b∉ex->H' b=none
 there:∀ b o,h.get? b=some o->b∉ex->∃ o',h'.get? b=some o'
 tups:∀ b xs,H b=some (.tup xs)->H' b=some (.tup xs)
 frzs:∀ b o u,H b=some (.frz o u)->H' b=some (.frz o u)
 tbls:∀ b ps,H b=some (.tbl ps)->∃ more,H' b=some (.tbl (ps++more))
section
variable {fs fs' ex ex':List Addr}{H H1 H2:Hp}{h h1 h2 h':Heap}{a x e:Addr}{o:HO}
theorem Un.any(u:Un fs ex H H1 h h1){b:Addr}{ob:Obj}(q:h.get? b=some ob)(n:H b=none)(hx:b∉ex):∃ sl,h1.get? b=some {ob with slots:=sl}:=by
 by_cases hb:b∈fs
 ·exact u.slot b ob q n hb hx
 ·exact⟨ob.slots,u.keep b ob q n hb hx⟩
theorem Un.trans(a:Un fs ex H H1 h h1)(b:Un fs ex H1 H2 h1 h2):Un fs ex H H2 h h2 where
 keep:=fun c ob q n hc hx=>b.keep c ob (a.keep c ob q n hc hx) (a.free c ob q n hx) hc hx
 slot:=fun c ob q n hc hx=>by
  obtain⟨sl,e1⟩:=a.slot c ob q n hc hx;obtain⟨sl',e2⟩:=b.slot c _ e1 (a.free c ob q n hx) hc hx;exact⟨sl',e2⟩
 free:=fun c ob q n hx=>by
  obtain⟨o',e1⟩:=a.there c ob q hx;exact b.free c o' e1 (a.free c ob q n hx) hx
 there:=fun c ob q hx=>by
  obtain⟨o',e1⟩:=a.there c ob q hx;exact b.there c o' e1 hx
 tups:=fun c xs q=>b.tups c xs (a.tups c xs q)
 frzs:=fun c ob xs q=>b.frzs c ob xs (a.frzs c ob xs q)
 tbls:=fun c ps q=>by
  obtain⟨m1,e1⟩:=a.tbls c ps q;obtain⟨m2,e2⟩:=b.tbls c _ e1;exact⟨m1++m2,by rw[e2,Array.append_assoc]⟩
theorem Un.kept(k:∀ b u,h.get? b=some u->h'.get? b=some u):Un fs ex H H h h' :=
 ⟨fun b ob q _ _ _=>k b ob q,fun b ob q _ _ _=>⟨ob.slots,k b ob q⟩,fun _ _ _ n _=>n,fun b ob q _=>⟨ob,k b ob q⟩,fun _ _ q=>q,fun _ _ _ q=>q,fun _ ps q=>⟨#[],by rw[q];simp⟩⟩
theorem Un.refl:Un fs ex H H h h:=Un.kept fun _ _ q=>q
theorem Un.laid(k:∀ b u,h.get? b=some u->h'.get? b=some u)(hp:h.objs.size<=a)(hn:H a=none):Un fs ex H (upd H a o) h h' where
 keep:=fun b u q _ _ _=>k b u q
 slot:=fun b u q _ _ _=>⟨u.slots,k b u q⟩
 free:=fun b u q n _=>by rw[bR (Nat.ne_of_lt (Nat.lt_of_lt_of_le (Heap.lt_size q) hp))];exact n
 there:=fun b u q _=>⟨u,k b u q⟩
 tups:=fun b xs q=>by rw[bR (mB q hn)];exact q
 frzs:=fun b u xs q=>by rw[bR (mB q hn)];exact q
 tbls:=fun b ps q=>⟨#[],by rw[bR (mB q hn),q];simp⟩
theorem Un.write(mu:pC (H x))(he:e=x\/H e=some (.own x))(k:∀ b u,b≠e->h.get? b=some u->h'.get? b=some u)(heo:∃ u,h'.get? e=some u):Un fs ex H (upd H x o) h h':=by
 have hx:∀ b,H b=none->b≠x:=fun b n z=>by subst z;rw[n]at mu;exact mu
 have hb:∀ b,H b=none->b≠e:=fun b n z=>by
  subst z;rcases he with r | r
  ·exact hx b n r
  ·rw[n]at r;cases r
 have hm:∀ b u,H b=some u->¬ pC (some u)->b≠x:=fun b u q nm z=>by subst z;rw[q]at mu;exact nm mu
 refine⟨fun b u q n _ _=>k b u (hb b n) q,fun b u q n _ _=>⟨u.slots,k b u (hb b n) q⟩,fun b u q n _=>by rw[bR (hx b n)];exact n,fun b u q _=>?_,
  fun b xs q=>by rw[bR (hm b _ q fun z=>z)];exact q,fun b u xs q=>by rw[bR (hm b _ q fun z=>z)];exact q,fun b ps q=>⟨#[],by rw[bR (hm b _ q fun z=>z),q];simp⟩⟩
 by_cases hbe:b=e
 ·subst hbe;exact heo
 ·exact⟨u,k b u hbe q⟩
theorem Un.mono(u:Un fs ex H H1 h h1)(hs:∀ b∈fs,b∈fs')(hx:∀ b∈ex,b∈ex'):Un fs' ex' H H1 h h1 :=
 ⟨fun b ob q n hb he=>u.keep b ob q n (fun z=>hb (hs b z)) fun z=>he (hx b z),fun _ _ q n _ he=>u.any q n fun z=>he (hx _ z),fun b ob q n he=>u.free b ob q n fun z=>he (hx b z),fun b ob q he=>u.there b ob q fun z=>he (hx b z),u.tups,u.frzs,u.tbls⟩
end
def uA(h:Heap)(H:Hp):List Addr:=(List.range h.objs.size).filter fun a=>(H a).isSome
def jV(h:Heap)(H:Hp):Heap:=PySem.W.hideAll h (uA h H)
theorem EK(h:Heap)(H:Hp):(jV h H).objs.size=h.objs.size:=PySem.W.hideAll_size _ _
theorem Tm{h:Heap}{H:Hp}{b:Addr}{o:Obj}(e:h.get? b=some o)(n:H b=none):(jV h H).get? b=some o :=
 PySem.W.hideAll_get _ e fun hm=>by
  have q:(H b).isSome=true:=(List.mem_filter.mp hm).2
  rw[n]at q;simp at q
theorem Qs{h:Heap}{H:Hp}{b:Addr}{o:Obj}(e:(jV h H).get? b=some o):h.get? b=some o/\H b=none:=by
 have e':h.get? b=some o:=PySem.W.of_hideAll (uA h H) e
 refine⟨e',?_⟩
 cases q:H b with
 | none=>rfl
 | some x =>
  have hm:b∈uA h H:=List.mem_filter.mpr ⟨List.mem_range.mpr (Heap.lt_size e'),by simp[q]⟩
  have z:(jV h H).get? b=none:=PySem.W.hideAll_none (uA h H) hm
  rw[z]at e;cases e
def Ul(g h:Heap)(L:Addr):List (Addr×Obj):=(List.range h.objs.size).filterMap fun a=>if a=L\/(g.get? a).isSome=true then none else (h.get? a).map fun o=>(a,o)
def rest(g h:Heap)(L d:Addr):List (Addr×Obj):=(Ul g h L).filter fun p=>decide (p.1≠d)
end L2
namespace L2
open PySem PySem.Spec PyProof.Rows
structure Mod (K:PySem.W.Frag) (mg:Str->Option Value) (base:Heap):Prop where
 kin:K.In base
 glob:base.Ns mainGlobals mg
 blt:∃ mb,base.Ns builtinsNs mb/\∀ x:Str,x≠"__name__"->mb x=bootBuiltins x
 nolimit:base.NoLimit
structure Cx where
 prog:Program
 w:World
 K:PySem.W.Frag
 mg:Str->Option Value
 base:Heap
 A:Around
 N:List Str
 s₀:Shared
 H₀:Hp
 env:Env
 outer:List Env
 stack:List Env
 ex:List Addr
 fn:Str->Bool
 calm:Bool
 pn:List (Addr×Obj)
 xe:Value->Shared->Prop
def gU(l:List Env):List Addr:=l.filterMap (·.frame)
abbrev Cx.fs(X:Cx):List Addr:=gU X.outer
def iX(sc:Scope)(x:Str):Prop:=sc.names.lookup x=some .local\/sc.names.lookup x=some .cell\/sc.names.lookup x=some .free
def gG(sc:Scope)(x:Str):Prop:=sc.names.lookup x=some .local\/sc.names.lookup x=some .cell
def U6(env:Env)(h:Heap)(m:Str->Option Value)(x:Str)(u:Value):Prop :=
 (env.kindOf x=some .local/\m x=some u)\/((env.kindOf x=some .cell\/env.kindOf x=some .free)/\∃ c,env.cells.lookup x=some c/\h.IsCell c (some u))
structure Cx.Ok (X:Cx):Prop where
 mod:Mod X.K X.mg X.base
 kind:X.env.scope.kind=.function
 glob:X.env.globals=mainGlobals
 blt:X.env.builtins=builtinsNs
 above:X.s₀.heap.objs.size<=X.env.locals
 inj:∀ x y c,X.env.cells.lookup x=some c->X.env.cells.lookup y=some c->x=y
 has:∀ x,(X.env.kindOf x=some .cell\/X.env.kindOf x=some .free)->∃ c,X.env.cells.lookup x=some c
 cab:∀ x c,X.fn x=true->X.env.cells.lookup x=some c->X.s₀.heap.objs.size<=c
 hd:X.calm=true->X.A.handled=none
 frames:X.A.frames=some X.stack
 stk:X.stack=X.outer\/(X.stack=X.env::X.outer/\X.env.frame=some X.env.locals)
 exf:∀ b∈X.ex,b≠X.env.locals/\∀ x c,X.env.cells.lookup x=some c->c≠b
 bs:∀ b o,X.base.get? b=some o->X.s₀.heap.get? b=some o/\X.H₀ b=none
 bsz:X.base.objs.size<=X.s₀.heap.objs.size
 noex:∀ b o,X.base.get? b=some o->b∉X.ex
 exfs:∀ b∈X.ex,b∉X.fs
 funs:X.s₀.heap.FunFrames X.base X.outer
 frf:∀ b∈X.fs,X.H₀ b=none
structure Inv (X:Cx) (pins:List (Addr×Obj)) (σ:List (Option V)) (H:Hp) (s:Shared):Prop where
 ok:X.Ok
 os:s.os=X.s₀.os
 bare:AllBare s.gens
 base:Un X.fs X.ex X.H₀ H X.s₀.heap s.heap
 loc:∃ m,s.heap.Ns X.env.locals m/\∀ (i:Nat) (x:Str) (v:V),X.N[i]?=some x->σ[i]?=some (some v)->iX X.env.scope x->∃ u,RelV v u/\U6 X.env s.heap m x u
 cell:∀ x c,X.env.cells.lookup x=some c->∃ v,s.heap.IsCell c v
 free:H X.env.locals=none
 freeC:∀ x c,X.env.cells.lookup x=some c->H c=none
 pin:∀ p∈X.pn++pins,s.heap.get? p.1=some p.2/\H p.1=none/\p.1≠X.env.locals/\p.1∉X.fs/\∀ v,p.2.data≠.cell v
 hok:HOk X.prog X.w H s.heap
 len:σ.length=X.N.length
section
variable {X:Cx}{pins:List (Addr×Obj)}{σ:List (Option V)}{H H':Hp}{s:Shared}{h':Heap}
theorem Cx.Ok.nofr(ok:X.Ok){b:Addr}{o:Obj}(e:X.base.get? b=some o):b∉X.fs:=fun hb=>by
 have:=(ok.funs.mem hb).1
 rw[e]at this;cases this
theorem Inv.bs(I:Inv X pins σ H s):∀ b o,X.base.get? b=some o->s.heap.get? b=some o/\H b=none:=fun b o e =>
 ⟨I.base.keep b o (I.ok.bs b o e).1 (I.ok.bs b o e).2 (I.ok.nofr e) (I.ok.noex b o e),I.base.free b o (I.ok.bs b o e).1 (I.ok.bs b o e).2 (I.ok.noex b o e)⟩
theorem Inv.bk(I:Inv X pins σ H s):∀ b o,X.base.get? b=some o->s.heap.get? b=some o:=fun b o e=>(I.bs b o e).1
theorem Inv.mod(I:Inv X pins σ H s):Mod X.K X.mg X.base:=I.ok.mod
theorem Inv.kIn(I:Inv X pins σ H s):X.K.In s.heap:=I.ok.mod.kin.keeps I.bk
theorem Inv.nolimit(I:Inv X pins σ H s):s.heap.NoLimit:=I.ok.mod.nolimit.keeps I.bk
theorem Inv.fr(I:Inv X pins σ H s):∃ m,Fr X.base X.env.locals s.heap m :=
 let ⟨m,hn,_⟩:=I.loc
 ⟨m,hn,I.bk,Nat.le_trans I.ok.bsz I.ok.above⟩
theorem Inv.lt(I:Inv X pins σ H s):X.env.locals<s.heap.objs.size:=let ⟨_,hn,_⟩:=I.loc;hn.lt
theorem Inv.sz(I:Inv X pins σ H s):X.s₀.heap.objs.size<=s.heap.objs.size:=Nat.le_trans I.ok.above (Nat.le_of_lt I.lt)
theorem Inv.nofs(I:Inv X pins σ H s){a:Addr}(h:s.heap.objs.size<=a):a∉X.fs:=fun hb=>by
 obtain⟨_,o,ho,_⟩:=I.ok.funs.mem hb;exact absurd (Nat.lt_of_lt_of_le (Heap.lt_size ho) (Nat.le_trans I.sz h)) (Nat.lt_irrefl _)
theorem Inv.cne(I:Inv X pins σ H s):∀ x c,X.env.cells.lookup x=some c->c≠X.env.locals:=fun x c e z=>by
 obtain⟨v,o,ho,hd⟩:=I.cell x c e;obtain⟨m,⟨o',es,ep,ho',hd',_⟩,_⟩:=I.loc;rw[z,ho']at ho;cases ho;rw[hd']at hd;cases hd
theorem Inv.funs(I:Inv X pins σ H s):s.heap.FunFrames X.base X.outer:=by
 have all:∀ (l:List Env),(∀ b∈gU l,b∈X.fs)->X.s₀.heap.FunFrames X.base l->s.heap.FunFrames X.base l:=by
  intro l
  induction l with
  | nil=>intro _ _;trivial
  | cons env r ih =>
   intro hs hl;obtain⟨hk,⟨L,o,hf,hn,ho,hd⟩,hr⟩:=hl;have hL:L∈X.fs:=hs L (by unfold gU;rw[List.filterMap_cons,hf];exact List.mem_cons_self)
   obtain⟨sl,e⟩:=I.base.slot L o ho (I.ok.frf L hL) hL fun z=>I.ok.exfs L z hL;exact⟨hk,⟨L,_,hf,hn,e,hd⟩,ih (fun b hb=>hs b (by unfold gU;rw[List.filterMap_cons,hf];exact List.mem_cons_of_mem _ hb)) hr⟩
 exact all X.outer (fun _ hb=>hb) I.ok.funs
theorem Inv.stack(I:Inv X pins σ H s):s.heap.FunFrames X.base X.stack:=by
 rcases I.ok.stk with e | ⟨e,hf⟩
 ·rw[e];exact I.funs
 ·rw[e];obtain⟨m,hn,_⟩:=I.loc;refine .cons (by rw[I.ok.kind];decide) hf hn ?_ I.funs
  exact Heap.get?_none_of_le (Nat.le_trans I.ok.bsz I.ok.above)
theorem Inv.stkSub(I:Inv X pins σ H s):∀ b∈gU X.stack,b∈X.env.locals::X.fs:=fun b hb=>by
 rcases I.ok.stk with e | ⟨e,hf⟩
 ·rw[e]at hb;exact List.mem_cons_of_mem _ hb
 ·rw[e]at hb;unfold gU at hb;rw[List.filterMap_cons,hf]at hb;exact hb
theorem Inv.stkFree(I:Inv X pins σ H s):∀ b∈gU X.stack,H b=none:=fun b hb=>by
 rcases List.mem_cons.mp (I.stkSub b hb) with e | hb
 ·rw[e];exact I.free
 ·obtain⟨_,o,ho,_⟩:=I.ok.funs.mem hb;exact I.base.free b o ho (I.ok.frf b hb) fun z=>I.ok.exfs b z hb
theorem Inv.step{g':Array GenState}{t':Nat}{d':Drawn}{ch:List Addr}(I:Inv X pins σ H s)
  (hch:∀ b∈ch,(b∈X.ex\/X.s₀.heap.objs.size<=b)/\b≠X.env.locals/\(∀ x c,X.env.cells.lookup x=some c->c≠b)/\∀ p∈X.pn++pins,p.1≠b)
  (keep:∀ b o,b≠X.env.locals->b∉X.fs->b∉ch->s.heap.get? b=some o->H b=none->h'.get? b=some o)
  (slot:∀ b o,b≠X.env.locals->b∈X.fs->b∉ch->s.heap.get? b=some o->H b=none->∃ sl,h'.get? b=some {o with slots:=sl}) (free:∀ b o,b∉ch->s.heap.get? b=some o->H b=none->H' b=none)
  (there:∀ b o,b∉ch->s.heap.get? b=some o->∃ o',h'.get? b=some o')
  (tups:∀ b xs,H b=some (.tup xs)->H' b=some (.tup xs)) (frzs:∀ b o u,H b=some (.frz o u)->H' b=some (.frz o u)) (tbls:∀ b ps,H b=some (.tbl ps)->∃ more,H' b=some (.tbl (ps++more)))
  (ns:∀ m,s.heap.Ns X.env.locals m->h'.Ns X.env.locals m) (hok:HOk X.prog X.w H' h') (hg:AllBare g') :
  Inv X pins σ H' {s with heap:=h',gens:=g',drawn:=d',toks:=t'}:=by
 have neL:∀ b o,X.s₀.heap.get? b=some o->b≠X.env.locals:=fun b o e=>Nat.ne_of_lt (Nat.lt_of_lt_of_le (Heap.lt_size e) I.ok.above)
 have neC:∀ b o,X.s₀.heap.get? b=some o->b∉X.ex->b∉ch:=fun b o e hx hb=>by
  rcases (hch b hb).1 with z | z
  ·exact hx z
  ·exact absurd (Nat.lt_of_lt_of_le (Heap.lt_size e) z) (Nat.lt_irrefl _)
 have cellK:∀ x c,X.env.cells.lookup x=some c->∀ v,s.heap.IsCell c v->h'.IsCell c v:=fun x c e v ⟨o,ho,hd⟩=>by
  have nch:c∉ch:=fun z=>(hch c z).2.2.1 x c e rfl
  by_cases hc:c∈X.fs
  ·obtain⟨sl,q⟩:=slot c o (I.cne x c e) hc nch ho (I.freeC x c e);exact⟨_,q,hd⟩
  ·exact⟨o,keep c o (I.cne x c e) hc nch ho (I.freeC x c e),hd⟩
 refine⟨I.ok,I.os,hg,⟨fun b o e n hb hx=>?_,fun b o e n hb hx=>?_,fun b o e n hx=>?_,fun b o e hx=>?_,fun b xs e=>tups b xs (I.base.tups b xs e),fun b o xs e=>frzs b o xs (I.base.frzs b o xs e),fun b ps e=>?_⟩,?_,fun x c e=>?_,?_,fun x c e=>?_,fun p hp=>?_,hok,I.len⟩
 ·exact keep b o (neL b o e) hb (neC b o e hx) (I.base.keep b o e n hb hx) (I.base.free b o e n hx)
 ·obtain⟨sl,e1⟩:=I.base.slot b o e n hb hx;obtain⟨sl',e2⟩:=slot b _ (neL b o e) hb (neC b o e hx) e1 (I.base.free b o e n hx);exact⟨sl',e2⟩
 ·obtain⟨o',e1⟩:=I.base.there b o e hx;exact free b o' (neC b o e hx) e1 (I.base.free b o e n hx)
 ·obtain⟨o',e1⟩:=I.base.there b o e hx;exact there b o' (neC b o e hx) e1
 ·obtain⟨m1,e1⟩:=I.base.tbls b ps e;obtain⟨m2,e2⟩:=tbls b _ e1;exact⟨m1++m2,by rw[e2,Array.append_assoc]⟩
 ·obtain⟨m,hn,hl⟩:=I.loc;refine⟨m,ns m hn,fun i x v e1 e2 e3=>?_⟩;obtain⟨u,r,l⟩:=hl i x v e1 e2 e3;refine⟨u,r,?_⟩;rcases l with l | ⟨k,c,e,z⟩
  ·exact .inl l
  ·exact .inr ⟨k,c,e,cellK x c e _ z⟩
 ·obtain⟨v,z⟩:=I.cell x c e;exact⟨v,cellK x c e v z⟩
 ·obtain⟨m,⟨o,_,_,ho,_⟩,_⟩:=I.loc;exact free _ o (fun z=>(hch _ z).2.1 rfl) ho I.free
 ·obtain⟨v,o,ho,hd⟩:=I.cell x c e;exact free c o (fun z=>(hch c z).2.2.1 x c e rfl) ho (I.freeC x c e)
 ·obtain⟨e,n,ne,nf,d⟩:=I.pin p hp;have nch:p.1∉ch:=fun z=>(hch p.1 z).2.2.2 p hp rfl
  exact⟨keep p.1 p.2 ne nf nch e n,free p.1 p.2 nch e n,ne,nf,d⟩
theorem Inv.un{t':Nat}(I:Inv X pins σ H s)(u:Un X.fs [] H H' s.heap h')(hok:HOk X.prog X.w H' h'):Inv X pins σ H' {s with heap:=h',toks:=t'}:=by
 obtain⟨m,⟨o,es,ep,ho,r⟩,_⟩:=id I.loc;obtain⟨sl,hL⟩:=u.any ho I.free (by simp)
 exact I.step (g':=s.gens) (d':=s.drawn) (ch:=[]) (fun _ z=>nomatch z) (fun b o _ hb _ e n=>u.keep b o e n hb (by simp)) (fun b o _ hb _ e n=>u.slot b o e n hb (by simp)) (fun b o _ e n=>u.free b o e n (by simp)) (fun b o _ e=>u.there b o e (by simp)) u.tups u.frzs u.tbls (fun m' hm=>by
  obtain⟨o',es',ep',ho',r'⟩:=hm;rw[ho]at ho';cases ho';exact⟨_,es',ep',hL,r'⟩) hok I.bare
theorem Inv.call{g':Array GenState}{t':Nat}{d':Drawn}{ch:List Addr}(I:Inv X pins σ H s)(u:Un (gU X.stack) ch H H' s.heap h')(hok:HOk X.prog X.w H' h')(hg:AllBare g')
  (hch:∀ b∈ch,(b∈X.ex\/X.s₀.heap.objs.size<=b)/\b≠X.env.locals/\(∀ x c,X.env.cells.lookup x=some c->c≠b)/\∀ p∈X.pn++pins,p.1≠b) :
  Inv X pins σ H' {s with heap:=h',gens:=g',drawn:=d',toks:=t'}:=by
 obtain⟨m,⟨o,es,ep,ho,r⟩,_⟩:=id I.loc;obtain⟨sl,hL⟩:=u.any ho I.free fun z=>(hch _ z).2.1 rfl;exact I.step (ch:=ch) hch (fun b o hL hb hc e n=>u.keep b o e n (fun z=>(List.mem_cons.mp (I.stkSub b z)).elim hL hb) hc) (fun b o _ _ hc e n=>u.any e n hc) (fun b o hc e n=>u.free b o e n hc) (fun b o hc e=>u.there b o e hc) u.tups u.frzs u.tbls (fun m' hm=>by
  obtain⟨o',es',ep',ho',r'⟩:=hm;rw[ho]at ho';cases ho';exact⟨_,es',ep',hL,r'⟩) hok hg
theorem Inv.turned{t':Nat}{it:Addr}(I:Inv X pins σ H s)(k:∀ b o,b≠it->s.heap.get? b=some o->h'.get? b=some o)(hn:H it=none)(hL:it≠X.env.locals)
  (h1:it∈X.ex\/X.s₀.heap.objs.size<=it) (h2:∀ x c,X.env.cells.lookup x=some c->c≠it) (h3:∀ p∈X.pn++pins,p.1≠it):Inv X pins σ H {s with heap:=h',toks:=t'}:=by
 have nit:∀ b u,H b=some u->b≠it:=fun b u e z=>by rw[z,hn]at e;cases e
 refine I.step (g':=s.gens) (d':=s.drawn) (ch:=[it]) (fun b hb=>?_) (fun b o _ _ hc e _=>k b o (fun z=>hc (by simp[z])) e) (fun b o _ _ hc e _=>⟨o.slots,k b o (fun z=>hc (by simp[z])) e⟩) (fun _ _ _ _ n=>n)
  (fun b o hc e=>⟨o,k b o (fun z=>hc (by simp[z])) e⟩) (fun _ _ e=>e) (fun _ _ _ e=>e) (fun b ps e=>⟨#[],by rw[e];simp⟩) (fun m hm=>?_) (fun b u e=>?_) I.bare
 ·have e:b=it:=by simpa using hb
  subst e;exact⟨h1,hL,h2,h3⟩
 ·obtain⟨o,es,ep,ho,r⟩:=hm;exact⟨o,es,ep,k _ o (Ne.symm hL) ho,r⟩
 ·refine(I.hok b u e).stay (fun c v hc q=>k c v ?_ q) (fun _ q=>q) (fun _ _ q=>q) fun _ _ _ q=>q;rcases hc with z | z
  ·rw[z];exact nit b u e
  ·exact nit c _ z
theorem Inv.tok(I:Inv X pins σ H s)(t:Nat):Inv X pins σ H {s with toks:=t}:=I.un (h':=s.heap) (t':=t) Un.refl I.hok
theorem Inv.kept{t':Nat}(I:Inv X pins σ H s)(k:∀ b u,s.heap.get? b=some u->h'.get? b=some u):Inv X pins σ H {s with heap:=h',toks:=t'}:=I.un (Un.kept k) (I.hok.kept k)
theorem Inv.laid{a:Addr}{o:HO}{t':Nat}(I:Inv X pins σ H s)(k:∀ b u,s.heap.get? b=some u->h'.get? b=some u)(hp:s.heap.objs.size<=a)(new:ObjOk X.prog X.w (upd H a o) h' a o) :
  Inv X pins σ (upd H a o) {s with heap:=h',toks:=t'}:=I.un (Un.laid k hp (I.hok.fresh hp)) (I.hok.laid k hp new)
theorem Inv.write{x e:Addr}{o:HO}{t':Nat}(I:Inv X pins σ H s)(mu:pC (H x))(he:e=x\/H e=some (.own x))(k:∀ b u,b≠e->s.heap.get? b=some u->h'.get? b=some u)(heo:∃ u,h'.get? e=some u)
  (new:ObjOk X.prog X.w (upd H x o) h' x o):Inv X pins σ (upd H x o) {s with heap:=h',toks:=t'}:=I.un (Un.write mu he k heo) (I.hok.write mu he k heo new)
theorem Inv.pins_of{pins':List (Addr×Obj)}(I:Inv X pins σ H s)(h:∀ p∈pins',s.heap.get? p.1=some p.2/\H p.1=none/\p.1≠X.env.locals/\p.1∉X.fs/\∀ v,p.2.data≠.cell v):Inv X pins' σ H s :=
 ⟨I.ok,I.os,I.bare,I.base,I.loc,I.cell,I.free,I.freeC,fun p hp=>(List.mem_append.mp hp).elim (fun z=>I.pin p (List.mem_append_left _ z)) (h p),I.hok,I.len⟩
theorem Ex{N:List Str}(hN:N.Nodup){i j:Nat}{x:Str}(a:N[i]?=some x)(b:N[j]?=some x):i=j:=by
 obtain⟨h1,e1⟩:=List.getElem?_eq_some_iff.mp a;obtain⟨h2,e2⟩:=List.getElem?_eq_some_iff.mp b;exact(List.getElem_inj hN).mp (e1.trans e2.symm)
theorem wE{M:Model}{A:Around}{E:Value->Shared->Prop}{i:Nat}{x:Str}{v:V}{u:Value}{Q:Unit->Shared->Prop}(I:Inv X pins σ H s)(hN:X.N.Nodup)(hi:X.N[i]?=some x)(hx:gG X.env.scope x)(r:RelV v u)
  (h:∀ s',Inv X pins (σ.set i (some v)) H s'->(∃ a,Heap.SameBut a s.heap s'.heap/\(a=X.env.locals\/X.env.cells.lookup x=some a))->Q () s') (hf:X.fn x=true\/X.env.scope.names.lookup x=some .local:=by first | exact .inl rfl | exact .inr rfl | assumption):wpAny M A (storeName X.env x u) Q E s:=by
 obtain⟨m,hn,hl⟩:=id I.loc;have hcls:(X.env.scope.kind==.class||(X.env.scope.kind==.module&&X.env.locals != X.env.globals))=false:=by rw[I.ok.kind];rfl
 have hiσ:i<σ.length:=by rw[I.len];exact(List.getElem?_eq_some_iff.mp hi).1
 have cne:=I.cne
 have tracked:∀ {a:Addr} {h':Heap},(∃ o,s.heap.get? a=some o/\H a=none)->Heap.SameBut a s.heap h'->HOk X.prog X.w H h':=fun {a h'} ha hs b ob e=>by
  obtain⟨_,_,hfree⟩:=ha;refine(I.hok b ob e).stay (fun c w' hc q=>(hs.2 c ?_).trans q) (fun _ q=>q) (fun _ _ q=>q) fun _ _ _ q=>q;rintro rfl;rcases hc with rfl | hc
  ·rw[hfree]at e;cases e
  ·rw[hfree]at hc;cases hc
 rcases hx with hk | hk
 ·refine wpAny_storeName_local hk hn (fun h' hn' hs=>?_) hcls;obtain⟨oL,_,_,hoL,_⟩:=id hn;refine h _ ⟨I.ok,I.os,I.bare,⟨fun b o e n hb hx=>?_,fun b o e n hb hx=>?_,I.base.free,fun b o e hx=>?_,I.base.tups,I.base.frzs,I.base.tbls⟩,⟨_,hn',fun j y v' e1 e2 e3=>?_⟩,fun y c e=>?_,I.free,I.freeC,fun p hp=>?_,tracked ⟨oL,hoL,I.free⟩ hs,by simpa using I.len⟩ ⟨_,hs,.inl rfl⟩
  ·exact(hs.2 b (Nat.ne_of_lt (Nat.lt_of_lt_of_le (Heap.lt_size e) I.ok.above))).trans (I.base.keep b o e n hb hx)
  ·obtain⟨sl,e1⟩:=I.base.slot b o e n hb hx;exact⟨sl,(hs.2 b (Nat.ne_of_lt (Nat.lt_of_lt_of_le (Heap.lt_size e) I.ok.above))).trans e1⟩
  ·obtain⟨o',e1⟩:=I.base.there b o e hx;exact⟨o',(hs.2 b (Nat.ne_of_lt (Nat.lt_of_lt_of_le (Heap.lt_size e) I.ok.above))).trans e1⟩
  ·by_cases hj:j=i
   ·subst hj;rw[hi]at e1;cases e1;rw[List.getElem?_set_self hiσ]at e2
    cases e2
    exact⟨u,r,.inl ⟨hk,by simp⟩⟩
   ·rw[List.getElem?_set_ne (Ne.symm hj)]at e2;obtain⟨u',r',q⟩:=hl j y v' e1 e2 e3;refine⟨u',r',?_⟩;rcases q with⟨k,e⟩ | ⟨k,c,e,z⟩
    ·refine .inl ⟨k,?_⟩;have:y≠x:=fun e=>hj (Ex hN e1 (e▸hi))
     simp[this,e]
    ·exact .inr ⟨k,c,e,z.sameBut hs (cne y c e)⟩
  ·obtain⟨w',z⟩:=I.cell y c e;exact⟨w',z.sameBut hs (cne y c e)⟩
  ·obtain⟨e,n,ne,nf,d⟩:=I.pin p hp;exact⟨(hs.2 p.1 ne).trans e,n,ne,nf,d⟩
 ·have hfn:X.fn x=true:=by
   rcases hf with z | z
   ·exact z
   ·rw[z]at hk;cases hk
  obtain⟨c,hc⟩:=I.ok.has x (.inl hk);obtain⟨w',z⟩:=I.cell x c hc;refine wpAny_storeName_cell I.ok.kind hk hc z (fun h' hc' hs=>?_);obtain⟨oc,hoc,hocd⟩:=id z;refine h {s with heap:=h'} ⟨I.ok,I.os,I.bare,⟨fun b o e n hb hx=>?_,fun b o e n hb hx=>?_,I.base.free,fun b o e hx=>?_,I.base.tups,I.base.frzs,I.base.tbls⟩,⟨m,hn.sameBut hs (Ne.symm (cne x c hc)),fun j y v' e1 e2 e3=>?_⟩,fun y c' e=>?_,I.free,I.freeC,fun p hp=>?_,tracked ⟨oc,hoc,I.freeC x c hc⟩ hs,by simpa using I.len⟩ ⟨c,hs,.inr hc⟩
  ·exact(hs.2 b (Nat.ne_of_lt (Nat.lt_of_lt_of_le (Heap.lt_size e) (I.ok.cab x c hfn hc)))).trans (I.base.keep b o e n hb hx)
  ·obtain⟨sl,e1⟩:=I.base.slot b o e n hb hx;exact⟨sl,(hs.2 b (Nat.ne_of_lt (Nat.lt_of_lt_of_le (Heap.lt_size e) (I.ok.cab x c hfn hc)))).trans e1⟩
  ·obtain⟨o',e1⟩:=I.base.there b o e hx;exact⟨o',(hs.2 b (Nat.ne_of_lt (Nat.lt_of_lt_of_le (Heap.lt_size e) (I.ok.cab x c hfn hc)))).trans e1⟩
  ·by_cases hj:j=i
   ·subst hj;rw[hi]at e1;cases e1;rw[List.getElem?_set_self hiσ]at e2
    cases e2
    exact⟨u,r,.inr ⟨.inl hk,c,hc,hc'⟩⟩
   ·rw[List.getElem?_set_ne (Ne.symm hj)]at e2;obtain⟨u',r',q⟩:=hl j y v' e1 e2 e3;refine⟨u',r',?_⟩;rcases q with q | ⟨k,c',e,z'⟩
    ·exact .inl q
    ·refine .inr ⟨k,c',e,z'.sameBut hs ?_⟩;rintro rfl;exact hj (Ex hN e1 (I.ok.inj _ _ _ e hc▸hi))
  ·by_cases hcc:c'=c
   ·subst hcc;exact⟨_,hc'⟩
   ·obtain⟨w2,z2⟩:=I.cell y c' e;exact⟨w2,z2.sameBut hs hcc⟩
  ·obtain⟨e,n,ne,nf,d⟩:=I.pin p hp;refine⟨(hs.2 p.1 ?_).trans e,n,ne,nf,d⟩;intro q;rw[q,hoc]at e;have q':oc=p.2:=Option.some.inj e
   exact d w' (by rw[<- q'];exact hocd)
theorem uZ{M:Model}{A:Around}{E:Value->Shared->Prop}{i:Nat}{x:Str}{v:V}{u:Value}{Q:Unit->Shared->Prop}(I:Inv X pins σ H s)(hN:X.N.Nodup)(hi:X.N[i]?=some x)(hx:gG X.env.scope x)(r:RelV v u)
  (h:∀ s',Inv X pins (σ.set i (some v)) H s'->Q () s') (hf:X.fn x=true\/X.env.scope.names.lookup x=some .local:=by first | exact .inl rfl | exact .inr rfl | assumption):wpAny M A (storeName X.env x u) Q E s :=
 wE I hN hi hx r (fun s' I' _=>h s' I') hf
theorem Inv.call'{s':Shared}{ch:List Addr}(I:Inv X pins σ H s)(ho:s'.os=s.os)(u:Un (gU X.stack) ch H H' s.heap s'.heap)(hok:HOk X.prog X.w H' s'.heap)(hg:AllBare s'.gens)
  (hch:∀ b∈ch,(b∈X.ex\/X.s₀.heap.objs.size<=b)/\b≠X.env.locals/\(∀ x c,X.env.cells.lookup x=some c->c≠b)/\∀ p∈X.pn++pins,p.1≠b):Inv X pins σ H' s':=by
 obtain⟨h',g',d',t',o'⟩:=s';have e:o'=s.os:=ho
 subst e;exact I.call (g':=g') (t':=t') (d':=d') u hok hg hch
end
abbrev XK:=Value->Option Addr->Hp->Prop
abbrev St:=List (Option V)
abbrev VK:=V->Hp->Prop
abbrev TE:=St->Hp->VK->Prop
abbrev TT:=St->Hp->(Bool->Hp->Prop)->Prop
abbrev TA:=St->Hp->(List V->Hp->Prop)->Prop
structure Ends where
 nx:St->Hp->Prop
 rt:VK
 bk:St->Hp->Prop:=fun _ _=>False
 ct:St->Hp->Prop:=fun _ _=>False
abbrev TS:=Ends->St->Hp->Prop
def EP(X:Cx)(pins:List (Addr×Obj))(σ:St)(Q:VK)(u:Value)(s':Shared):Prop:=∃ v H',Inv X pins σ H' s'/\RelV v u/\Q v H'
def TP(X:Cx)(pins:List (Addr×Obj))(σ:St)(Q:Bool->Hp->Prop)(b:Bool)(s':Shared):Prop:=∃ H',Inv X pins σ H' s'/\Q b H'
def AP(X:Cx)(pins:List (Addr×Obj))(σ:St)(Q:List V->Hp->Prop)(us:List Value)(s':Shared):Prop:=∃ vs H',Inv X pins σ H' s'/\Vals vs us/\Q vs H'
def SP(X:Cx)(pins:List (Addr×Obj))(D:Ends)(f:Flow)(s':Shared):Prop :=
 match f with
 | .next=>∃ σ' H',Inv X pins σ' H' s'/\D.nx σ' H'
 | .brk=>∃ σ' H',Inv X pins σ' H' s'/\D.bk σ' H'
 | .cont=>∃ σ' H',Inv X pins σ' H' s'/\D.ct σ' H'
 | .ret u=>∃ v σ' H',Inv X pins σ' H' s'/\RelV v u/\D.rt v H'
def PE(X:Cx)(e:Expr)(t:TE):Prop :=
 ∀ (pins:List (Addr×Obj)) (s:Shared) (σ:St) (H:Hp) (Q:VK),Inv X pins σ H s->t σ H Q->wpAny (model X.prog X.w) X.A (eval e X.env) (EP X pins σ Q) X.xe s
def PT(X:Cx)(e:Expr)(t:TT):Prop :=
 ∀ (pins:List (Addr×Obj)) (s:Shared) (σ:St) (H:Hp) (Q:Bool->Hp->Prop),Inv X pins σ H s->t σ H Q->wpAny (model X.prog X.w) X.A (isTrue e X.env (eval e X.env)) (TP X pins σ Q) X.xe s
def PW(X:Cx)(e:Expr)(t:TT):Prop :=
 ∀ (whole:Sem Value) (pins:List (Addr×Obj)) (s:Shared) (σ:St) (H:Hp) (Q:Bool->Hp->Prop),Inv X pins σ H s->t σ H Q->wpAny (model X.prog X.w) X.A (isTrue e X.env whole) (TP X pins σ Q) X.xe s
theorem PW.pt{X:Cx}{e:Expr}{t:TT}(h:PW X e t):PT X e t:=h _
def PA(X:Cx)(es:List Expr)(t:TA):Prop :=
 ∀ (pos:Pos) (pins:List (Addr×Obj)) (s:Shared) (σ:St) (H:Hp) (Q:List V->Hp->Prop),Inv X pins σ H s->t σ H Q->wpAny (model X.prog X.w) X.A (spliced (backTo pos (starEach es X.env))) (AP X pins σ Q) X.xe s
def PS(X:Cx)(st:Stmt)(t:TS):Prop :=
 ∀ (pins:List (Addr×Obj)) (s:Shared) (σ:St) (H:Hp) (D:Ends),Inv X pins σ H s->t D σ H->wpAny (model X.prog X.w) X.A (exec st X.env) (SP X pins D) X.xe s
def PSs(X:Cx)(st:List Stmt)(t:TS):Prop :=
 ∀ (pins:List (Addr×Obj)) (s:Shared) (σ:St) (H:Hp) (D:Ends),Inv X pins σ H s->t D σ H->wpAny (model X.prog X.w) X.A (execs st X.env) (SP X pins D) X.xe s
theorem bA{α:Type}{t:Sem α}{Q Q':α->Shared->Prop}{M:Model}{A:Around}{E:Value->Shared->Prop}{s:Shared}(h:wpAny M A t Q E s)(hQ:∀ a s,Q a s->Q' a s):wpAny M A t Q' E s:=wpAny_mono h hQ fun _ _ x=>x
end L2
namespace L2
open PySem PySem.Spec PyProof.Rows
section
variable {X:Cx}
def O0(i:Nat):TE:=fun σ H Q=>∃ v,σ[i]?=some (some v)/\Q v H
def tC(v:V):TE:=fun _ H Q=>Q v H
theorem Lu{i:Nat}{x:Str}{pos:Pos}(hN:X.N[i]?=some x)(hv:iX X.env.scope x)(hd:(x==("__debug__" : Str))=false:=by decide)(hcd:(x==("__classdict__" : Str))=false:=by decide):PE X (.Name x pos) (O0 i):=by
 intro pins s σ H Q I h;obtain⟨v,e,h⟩:=h;obtain⟨m,hn,hl⟩:=I.loc;obtain⟨u,r,l⟩:=hl i x v hN e hv;have fin:EP X pins σ Q u s:=⟨v,H,I,r,h⟩
 rcases l with⟨hk,hm⟩ | ⟨hk,c,hc,hcell⟩
 ·exact wpAny_Name (wpAny_loadName_local I.ok.kind hk hn hm fin) hd
 ·rcases hk with hk | hk
  ·exact wpAny_Name (wpAny_loadName_cell I.ok.kind hk hc hcell fin) hd
  ·exact wpAny_Name (wpAny_loadName_free I.ok.kind hk hc hcell fin hcd) hd
theorem Xy{i j pos}:PE X (.Constant (.int i) j pos) (tC (.int i)):=fun _ _ _ H _ I h=>wpAny_Constant_int ⟨.int i,H,I.tok _,⟨_,rfl⟩,h⟩
theorem Tk{b j pos}:PE X (.Constant (.bool b) j pos) (tC (.bl b)):=fun _ _ _ H _ I h=>Constant_bool ⟨.bl b,H,I,rfl,h⟩
theorem R8{j pos}:PE X (.Constant .none j pos) (tC .non):=fun _ _ _ H _ I h=>Constant_none ⟨.non,H,I,rfl,h⟩
theorem CG{x j pos}:PE X (.Constant (.str x) j pos) (tC (.str x)):=fun _ _ _ H _ I h=>Calls.Constant_str ⟨.str x,H,I.tok _,⟨_,rfl⟩,h⟩
def Gl(X:Cx)(x:Str):Prop:=X.env.kindOf x=some .globalImplicit
theorem Jr{E:Value->Shared->Prop}{pins:List (Addr×Obj)}{s:Shared}{σ:St}{H:Hp}{x:Str}{u:Value}{pos:Pos}{Q:Value->Shared->Prop}(I:Inv X pins σ H s)(hg:Gl X x)(hm:X.mg x=some u)(h:Q u s)
  (hd:(x==("__debug__" : Str))=false:=by decide):wpAny (model X.prog X.w) X.A (eval (.Name x pos) X.env) Q E s :=
 Calls.Name_function_global I.ok.kind hg (Calls.loadGlobal_global (by rw[I.ok.glob];exact I.mod.glob.keeps I.bk) hm h) hd
theorem gQ{E:Value->Shared->Prop}{pins:List (Addr×Obj)}{s:Shared}{σ:St}{H:Hp}{x:Str}{u:Value}{pos:Pos}{Q:Value->Shared->Prop}(I:Inv X pins σ H s)(hg:Gl X x)(hm:X.mg x=none)(hv:bootBuiltins x=some u)(h:Q u s)
  (hn:x≠"__name__":=by decide) (hd:(x==("__debug__" : Str))=false:=by decide):wpAny (model X.prog X.w) X.A (eval (.Name x pos) X.env) Q E s:=by
 obtain⟨mb,h1,h2⟩:=I.mod.blt;exact Calls.Name_function_global I.ok.kind hg (Calls.loadGlobal_builtin (by rw[I.ok.glob];exact I.mod.glob.keeps I.bk) hm (by rw[I.ok.blt];exact h1.keeps I.bk) ((h2 x hn).trans hv) h) hd
theorem GK{x:Str}{v:V}{u:Value}{pos:Pos}(hg:Gl X x)(hm:X.mg x=some u)(r:RelV v u)(hd:(x==("__debug__" : Str))=false:=by decide):PE X (.Name x pos) (tC v) :=
 fun _ _ _ H _ I h=>Jr I hg hm ⟨v,H,I,r,h⟩ hd
variable {a b:Expr}{ta tb:TE}{pos:Pos}
def tB(t:TE):TT:=fun σ H Q=>t σ H fun x H1=>∃ c,x=.bl c/\Q c H1
variable {tA tB':TT}{rest:List Expr}
def Uc(t:TT)(ta tb:TE):TE:=fun σ H Q=>t σ H fun c H1=>if c=true then ta σ H1 Q else tb σ H1 Q
theorem Yg{c:Expr}(hc:PT X c tA)(ha:PE X a ta)(hb:PE X b tb):PE X (.IfExp c a b pos) (Uc tA ta tb):=by
 intro pins s σ H Q I h;refine wpAny_IfExp (bA (hc pins s σ H _ I h) fun d s1 ⟨H1,I1,q1⟩=>?_)
 cases d with
 | true=>exact ha pins s1 σ H1 Q I1 q1
 | false=>exact hb pins s1 σ H1 Q I1 q1
end
end L2
namespace L2
open PySem PySem.Spec PyProof.Rows
def SqL(K:PySem.W.Frag)(H:Hp)(a:Addr)(xs:List V):Prop :=
 Rd H a (.lst xs) \/
  ∃ (o:Obj) (its:Array Value) (n:Nat),K.lookup a=some o/\o.cls=.type "list"/\o.dict=none/\o.data=.seq its n/\its.size<=sizeLine/\Vals xs its.toList
def SqT(K:PySem.W.Frag)(H:Hp)(a:Addr)(xs:List V):Prop :=
 Rd H a (.tup xs) \/
  ∃ (o:Obj) (its:Array Value) (n:Nat),K.lookup a=some o/\(o.cls=.type "tuple"/\o.dict=none)/\o.data=.seq its n/\its.size<=sizeLine/\Vals xs its.toList
def v5:Value->Option V
 | .none=>some .non
 | .bool b=>some (.bl b)
 | .int i _=>some (.int i)
 | .str x _=>some (.str x)
 | .bytes b _=>some (.byt b)
 | .float b _=>some (.flt b)
 | .ref a=>some (.ref a)
 | .type n=>some (.ty n)
 | _=>none
theorem RelV.abs{x:V}{u:Value}(r:RelV x u):v5 u=some x:=by
 cases x with
 | non=>cases r;rfl
 | bl _=>cases r;rfl
 | int _=>obtain⟨t,rfl⟩:=r;rfl
 | str _=>obtain⟨t,rfl⟩:=r;rfl
 | byt _=>obtain⟨t,rfl⟩:=r;rfl
 | flt _=>obtain⟨t,rfl⟩:=r;rfl
 | ref _=>cases r;rfl
 | ty _=>cases r;rfl
theorem RelV.inj{x y:V}{u:Value}(r:RelV x u)(q:RelV y u):x=y:=Option.some.inj (r.abs.symm.trans q.abs)
theorem Vals.inj:∀ {xs ys:List V} {us:List Value},Vals xs us->Vals ys us->xs=ys
 | _,_,_,.nil,.nil=>rfl
 | _,_,_,.cons r t,.cons r' t'=>by rw[r.inj r',Vals.inj t t']
section
variable {X:Cx}{pins:List (Addr×Obj)}{σ:St}{H:Hp}{s:Shared}{a:Addr}{xs ys:List V}
theorem SqL.of{K:PySem.W.Frag}(h:H a=some (.lst xs)):SqL K H a xs:=.inl (.inl h)
theorem SqT.of{K:PySem.W.Frag}(h:H a=some (.tup xs)):SqT K H a xs:=.inl (.inl h)
theorem Inv.list(I:Inv X pins σ H s)(h:SqL X.K H a xs):∃ its:List Value,Vals xs its/\PlainL s.heap a its.toArray/\xs.length<=sizeLine:=by
 rcases h with h | ⟨o,its,n,hk,hc,hd,hs,hz,r⟩
 ·obtain⟨z,its,n,r,e⟩:=h.ok I.hok;exact⟨its,r,⟨_,n,e,rfl,rfl,rfl⟩,z⟩
 ·refine⟨its.toList,r,⟨o,n,I.kIn a o hk,hc,hd,by simpa using hs⟩,?_⟩
  have e:=r.length
  simp only[Array.length_toList]at e;omega
theorem Inv.tuple(I:Inv X pins σ H s)(h:SqT X.K H a xs):∃ its:List Value,Vals xs its/\IsTup s.heap a its.toArray/\xs.length<=sizeLine:=by
 rcases h with h | ⟨o,its,n,hk,hc,hs,hz,r⟩
 ·obtain⟨z,its,r,p⟩:=h.ok I.hok;exact⟨its,r,p,z.1⟩
 ·refine⟨its.toList,r,⟨o,I.kIn a o hk,hc.1,n,by simpa using hs⟩,?_⟩
  have e:=r.length
  simp only[Array.length_toList]at e;omega
theorem Inv.list_inj(I:Inv X pins σ H s)(h:SqL X.K H a xs)(h':SqL X.K H a ys):xs=ys:=by
 obtain⟨its,r,⟨o,n,e,_,_,d⟩,_⟩:=I.list h;obtain⟨its',r',⟨o',n',e',_,_,d'⟩,_⟩:=I.list h';rw[e]at e';cases e';rw[d]at d'
 injection d' with d1 _
 have:its=its':=by simpa using congrArg Array.toList d1
 subst this;exact r.inj r'
theorem Inv.tuple_inj(I:Inv X pins σ H s)(h:SqT X.K H a xs)(h':SqT X.K H a ys):xs=ys:=by
 obtain⟨its,r,⟨o,e,_,n,d⟩,_⟩:=I.tuple h;obtain⟨its',r',⟨o',e',_,n',d'⟩,_⟩:=I.tuple h';rw[e]at e';cases e';rw[d]at d'
 injection d' with d1 _
 have:its=its':=by simpa using congrArg Array.toList d1
 subst this;exact r.inj r'
end
abbrev Cx.wish(X:Cx)(E:Value->Shared->Prop):Cx:={X with xe:=E}
abbrev Cx.nox(X:Cx):Cx:=X.wish fun _ _=>False
theorem Cx.Ok.wish{X:Cx}(ok:X.Ok)(E:Value->Shared->Prop):(X.wish E).Ok :=
 ⟨ok.mod,ok.kind,ok.glob,ok.blt,ok.above,ok.inj,ok.has,ok.cab,ok.hd,ok.frames,ok.stk,ok.exf,ok.bs,ok.bsz,ok.noex,ok.exfs,ok.funs,ok.frf⟩
theorem Cx.Ok.unwish{X:Cx}{E:Value->Shared->Prop}(ok:(X.wish E).Ok):X.Ok :=
 ⟨ok.mod,ok.kind,ok.glob,ok.blt,ok.above,ok.inj,ok.has,ok.cab,ok.hd,ok.frames,ok.stk,ok.exf,ok.bs,ok.bsz,ok.noex,ok.exfs,ok.funs,ok.frf⟩
section
variable {X:Cx}{pins:List (Addr×Obj)}{σ:St}{H:Hp}{s:Shared}{E:Value->Shared->Prop}
theorem Inv.wish(I:Inv X pins σ H s)(E:Value->Shared->Prop):Inv (X.wish E) pins σ H s:=⟨I.ok.wish E,I.os,I.bare,I.base,I.loc,I.cell,I.free,I.freeC,I.pin,I.hok,I.len⟩
theorem Inv.unwish(I:Inv (X.wish E) pins σ H s):Inv X pins σ H s:=⟨I.ok.unwish,I.os,I.bare,I.base,I.loc,I.cell,I.free,I.freeC,I.pin,I.hok,I.len⟩
theorem SP.unwish{D:Ends}{f:Flow}{s':Shared}(h:SP (X.wish E) pins D f s'):SP X pins D f s':=by
 cases f with
 | next=>obtain⟨σ',H',I,q⟩:=h;exact⟨σ',H',I.unwish,q⟩
 | brk=>obtain⟨σ',H',I,q⟩:=h;exact⟨σ',H',I.unwish,q⟩
 | cont=>obtain⟨σ',H',I,q⟩:=h;exact⟨σ',H',I.unwish,q⟩
 | ret u=>obtain⟨v,σ',H',I,r,q⟩:=h;exact⟨v,σ',H',I.unwish,r,q⟩
theorem PE.nox{e:Expr}{t:TE}(h:PE X.nox e t):PE X e t:=fun pins s σ H Q I hw =>
 wpAny_mono (h pins s σ H Q (I.wish _) hw) (fun _ _ ⟨v,H',I',r,q⟩=>⟨v,H',I'.unwish,r,q⟩) fun _ _ z=>False.elim z
theorem PT.nox{e:Expr}{t:TT}(h:PT X.nox e t):PT X e t:=fun pins s σ H Q I hw =>
 wpAny_mono (h pins s σ H Q (I.wish _) hw) (fun _ _ ⟨H',I',q⟩=>⟨H',I'.unwish,q⟩) fun _ _ z=>False.elim z
theorem PSs.nox{st:List Stmt}{t:TS}(h:PSs X.nox st t):PSs X st t:=fun pins s σ H D I hw =>
 wpAny_mono (h pins s σ H D (I.wish _) hw) (fun _ _ q=>q.unwish) fun _ _ z=>False.elim z
end
section
variable {X:Cx}{st:Stmt}{rest:List Stmt}{t u:TS}{e:Expr}{te:TE}{pos:Pos}
def Yo:TS:=fun D σ H=>D.nx σ H
def Rt(t u:TS):TS:=fun D σ H=>t {D with nx:=u D} σ H
theorem Pt:PSs X [] Yo:=fun _ _ σ H _ I h=>wpAny_execs_nil ⟨σ,H,I,h⟩
theorem Qv(h1:PS X st t)(h2:PSs X rest u):PSs X (st::rest) (Rt t u):=by
 intro pins s σ H D I h;refine wpAny_execs_cons (bA (h1 pins s σ H {D with nx:=u D} I h) fun f s1 q=>?_)
 cases f with
 | next =>
  obtain⟨σ',H',I',q⟩:=q;exact h2 pins s1 σ' H' D I' q
 | ret v=>exact q
 | brk=>exact q
 | cont=>exact q
theorem Inv.quiet{pins:List (Addr×Obj)}{σ:St}{H:Hp}{s:Shared}(I:Inv X pins σ H s):interactive X.env=false:=by simp[interactive,I.ok.kind]
def CW(te:TE):TS:=fun D σ H=>te σ H fun _ H1=>D.nx σ H1
theorem Xn(he:PE X e te)(hs:swapsWith e none pos.line X.env=pure false:=by rfl):PS X (.Expr e pos) (CW te):=by
 intro pins s σ H D I h;exact wpAny_Expr_any (bA (he pins s σ H _ I h) fun v s1 ⟨x,H1,I1,r1,q1⟩=>⟨σ,H1,I1,q1⟩) I.quiet hs
def J4(te:TE):TS:=fun D σ H=>te σ H D.rt
theorem C3(he:PE X e te):PS X (.Return (some e) pos) (J4 te):=by
 intro pins s σ H D I h;exact wpAny_Return_some (bA (he pins s σ H _ I h) fun v s1 ⟨x,H1,I1,r1,q1⟩=>⟨x,σ,H1,I1,r1,q1⟩)
def R0(c:TT)(t u:TS):TS:=fun D σ H=>c σ H fun b H1=>if b=true then t D σ H1 else u D σ H1
theorem Yn{c:Expr}{a b:List Stmt}{tc:TT}(hc:PT X c tc)(ha:PSs X a t)(hb:PSs X b u):PS X (.If c a b pos) (R0 tc t u):=by
 intro pins s σ H D I h;refine wpAny_If (bA (hc pins s σ H _ I h) fun d s1 ⟨H1,I1,q1⟩=>?_)
 cases d with
 | true=>exact ha pins s1 σ H1 D I1 q1
 | false=>exact hb pins s1 σ H1 D I1 q1
end
abbrev TG:=V->St->Hp->(St->Hp->Prop)->Prop
abbrev jK:=List V->St->Hp->(St->Hp->Prop)->Prop
def PG(X:Cx)(target:Expr)(t:TG):Prop :=
 ∀ (pins:List (Addr×Obj)) (s:Shared) (σ:St) (H:Hp) (v:V) (u:Value) (Q:St->Hp->Prop),Inv X pins σ H s->RelV v u->t v σ H Q ->
  wpAny (model X.prog X.w) X.A (assign target X.env u) (fun _ s'=>∃ σ' H',Inv X pins σ' H' s'/\Q σ' H') X.xe s
def PGs(X:Cx)(ts:List Expr)(t:jK):Prop :=
 ∀ (pins:List (Addr×Obj)) (s:Shared) (σ:St) (H:Hp) (vs:List V) (us:List Value) (Q:St->Hp->Prop),Inv X pins σ H s->Vals vs us->t vs σ H Q ->
  wpAny (model X.prog X.w) X.A (assignInOrder ((assignEach ts X.env).map (·.2)) us) (fun _ s'=>∃ σ' H',Inv X pins σ' H' s'/\Q σ' H') X.xe s
abbrev TSet:=V->V->V->Hp->(Hp->Prop)->Prop
def Ij(X:Cx)(t:TSet):Prop :=
 ∀ (pins:List (Addr×Obj)) (s:Shared) (σ:St) (H:Hp) (o i v:V) (ov iv u:Value) (Q:Hp->Prop),Inv X pins σ H s->RelV o ov->RelV i iv->RelV v u->t o i v H Q ->
  wpAny (model X.prog X.w) X.A (setItem ov iv u) (fun _ s'=>∃ H',Inv X pins σ H' s'/\Q H') X.xe s
section
variable {X:Cx}{pos:Pos}
def Hm(i:Nat):TG:=fun v σ H Q=>Q (σ.set i (some v)) H
theorem O2{i:Nat}{x:Str}(hN:X.N.Nodup)(hi:X.N[i]?=some x)(hx:gG X.env.scope x)(hf:X.fn x=true\/X.env.scope.names.lookup x=some .local:=by first | exact .inl rfl | exact .inr rfl | assumption):PG X (.Name x pos) (Hm i):=by
 intro pins s σ H v u Q I r h;exact wpAny_assign_Name (uZ I hN hi hx r (fun s' I'=>⟨_,H,I',h⟩) hf)
def l8:jK:=fun vs σ H Q=>vs=[]/\Q σ H
def v8(t:TG)(u:jK):jK:=fun vs σ H Q=>∃ v r,vs=v::r/\t v σ H fun σ' H'=>u r σ' H' Q
theorem Zu:PGs X [] l8:=by
 intro pins s σ H vs us Q I r h;obtain⟨e,h⟩:=h;subst e
 cases r
 exact assignInOrder_nil ⟨σ,H,I,h⟩
theorem FK{e:Expr}{es:List Expr}{t:TG}{u:jK}(h1:PG X e t)(h2:PGs X es u)
  (hs:(assignEach (e::es) X.env).map (·.2)=assign e X.env::(assignEach es X.env).map (·.2):=by rfl):PGs X (e::es) (v8 t u):=by
 intro pins s σ H vs us Q I r h;obtain⟨v,vr,e1,h⟩:=h;subst e1
 cases r with
 | cons r rr =>
  rw[hs];refine assignInOrder_cons (bA (h1 pins s σ H _ _ _ I r h) fun _ s1 ⟨σ1,H1,I1,q1⟩=>?_);exact h2 pins s1 σ1 H1 _ _ Q I1 rr q1
def Qc(K:PySem.W.Frag)(n:Nat)(t:jK):TG:=fun v σ H Q=>∃ a xs,v=.ref a/\SqT K H a xs/\xs.length=n/\t xs σ H Q
theorem AA{es:List Expr}{k:Nat}{t:jK}{n:Nat}(hc:X.calm=true)(h:PGs X es t)
  (hn:(assignEach es X.env).length=n:=by rfl) (hst:(assignEach es X.env).findIdx? (·.1)=none:=by rfl):PG X (.Tuple es k pos) (Qc X.K n t):=by
 intro pins s σ H v u Q I r hw;obtain⟨a,xs,e1,hq,hl,hw⟩:=hw;subst e1
 cases r
 obtain⟨its,rv,ht,hz⟩:=I.tuple hq;refine assign_Tuple_tuple (I.ok.hd hc) ht (by simp[hn,<- hl,rv.length]) hst fun h' hx=>?_
 have I1:Inv X pins σ H {s with heap:=h'}:=I.kept (t':=s.toks) fun b o e=>hx b o (Nat.ne_of_lt (Heap.lt_size e)) e
 exact h pins _ σ H xs _ Q I1 (by simpa using rv) hw
def Ur(to ti:TE)(t:TSet):TG:=fun v σ H Q=>to σ H fun o H1=>ti σ H1 fun i H2=>t o i v H2 fun H3=>Q σ H3
theorem FD{o i:Expr}{to ti:TE}{t:TSet}(ho:PE X o to)(hi:PE X i ti)(hs:Ij X t)
  (ha:∀ v,assign (.Subscript o i pos) X.env v=(do
   let ov <- holding [v] (eval o X.env)
   let iv <- holding [v,ov] (eval i X.env)
   standAt pos
   holding [v,ov,iv] (setItem ov iv v)
   release [v,ov,iv] []):=by intro _;rfl):PG X (.Subscript o i pos) (Ur to ti t):=by
 intro pins s σ H v u Q I r h;rw[ha];refine wpAny_bind (wpAny_holding (bA (ho pins s σ H _ I h) fun ov s1 ⟨x,H1,I1,r1,q1⟩=>?_));refine wpAny_bind (wpAny_holding (bA (hi pins s1 σ H1 _ I1 q1) fun iv s2 ⟨y,H2,I2,r2,q2⟩=>?_));refine wpAny_bind (wpAny_standAt (wpAny_bind (wpAny_holding (bA (hs pins s2 σ H2 x y v ov iv u _ I2 r1 r2 r q2) fun _ s3 ⟨H3,I3,q3⟩=>?_))));exact wpAny_release ⟨σ,H3,I3,q3⟩
def Jy(te:TE)(g:TG):TS:=fun D σ H=>te σ H fun x H1=>g x σ H1 D.nx
theorem Dx{tg e:Expr}{te:TE}{g:TG}(he:PE X e te)(hg:PG X tg g)(hs:swapsWithSole [tg] e pos.line X.env=pure false:=by rfl)(hw:swappedStores [tg] e X.env=pure none:=by rfl)
  (h1:(assignEach [tg] X.env).map (·.2)=[assign tg X.env]:=by rfl):PS X (.Assign [tg] e pos) (Jy te g):=by
 intro pins s σ H D I h;refine wpAny_Assign_stores (bA (he pins s σ H _ I h) fun v s1 ⟨x,H1,I1,r1,q1⟩=>?_) hs hw;rw[h1];exact bA (hg pins s1 σ H1 x v _ I1 r1 q1) fun _ s2 q=>q
theorem t7{i:Nat}{x:Str}{e:Expr}{te:TE}{pos':Pos}(hN:X.N.Nodup)(hi:X.N[i]?=some x)(hx:gG X.env.scope x)(he:PE X e te)(hs:swapsWith e (some (.Name x pos')) pos.line X.env=pure false:=by rfl)(hf:X.fn x=true\/X.env.scope.names.lookup x=some .local:=by first | exact .inl rfl | exact .inr rfl | assumption) :
  PS X (.Assign [.Name x pos'] e pos) (Jy te (Hm i)):=by
 intro pins s σ H D I h;refine wpAny_Assign_Name (bA (he pins s σ H _ I h) fun v s1 ⟨y,H1,I1,r1,q1⟩=>?_) hs;exact uZ I1 hN hi hx r1 (fun s2 I2=>⟨_,H1,I2,q1⟩) hf
def FF(i j:Nat)(ta:TA):TS:=fun D σ H=>ta σ H fun vs H1=>∃ v w,vs=[v,w]/\D.nx ((σ.set i (some v)).set j (some w)) H1
theorem FN{i j:Nat}{x y:Str}{a b:Expr}{ta:TA}{px py pt:Pos}{kt k2 pt2}(hc:X.calm=true)(hN:X.N.Nodup)(hi:X.N[i]?=some x)(hj:X.N[j]?=some y)(hij:i≠j)
  (hx:X.env.scope.names.lookup x=some .local) (hy:X.env.scope.names.lookup y=some .local) (ha:PA X [a,b] ta)
  (hw:swappedStores [.Tuple [.Name x px,.Name y py] kt pt] (.Tuple [a,b] k2 pt2) X.env=pure (some [x,y]))
  (hs:swapsWithSole [.Tuple [.Name x px,.Name y py] kt pt] (.Tuple [a,b] k2 pt2) pos.line X.env=pure false:=by rfl) :
  PS X (.Assign [.Tuple [.Name x px,.Name y py] kt pt] (.Tuple [a,b] k2 pt2) pos) (FF i j ta):=by
 intro pins s σ H D I h;rw[exec_Assign_arm];refine wpAny_bind (wpAny_standAt ?_);rw[hs];refine wpAny_bind (wpAny_pure ?_);rw[if_neg (by decide)]
 refine wpAny_bind (Tuple_ (bA (ha _ pins s σ H _ I h) fun us s1 ⟨vs,H1,I1,r1,q1⟩=>?_));obtain⟨v,w,e1,q1⟩:=q1;subst e1;obtain⟨u1,u2,rfl,rv,rw'⟩:∃ u1 u2,us=[u1,u2]/\RelV v u1/\RelV w u2:=by
  cases r1 with
  | cons p q =>
   cases q with
   | cons p' q' =>
    cases q'
    exact⟨_,_,rfl,p,p'⟩
 refine wpAny_newObj_type ?_ (by show 2<=sizeLine;decide)
 have I2:Inv X pins σ H1 {s1 with heap:=s1.heap.push {cls:=.type "tuple",data:=.seq [u1,u2].toArray}}:=I1.kept (t':=s1.toks) fun b o e=>Heap.get?_push_of_some _ e
 rw[hw];refine wpAny_bind (wpAny_pure ?_);show wpAny (model X.prog X.w) X.A (do rule "assign.swapped-stores";let items <- unpackItems (.ref s1.heap.objs.size) 2 none;assignInOrder [fun v=>bindName X.env y v,fun v=>bindName X.env x v] items.reverse;pure Flow.next) _ _ _
 refine wpAny_bind (wpAny_rule (wpAny_bind (unpackItems_tuple (items:=#[u1,u2]) (I.ok.hd hc) (IsTup.new s1.heap _) fun h' hx'=>?_)));have I3:=I2.kept (h':=h') (t':=s1.toks) fun b o e=>hx' b o (Nat.ne_of_lt (Heap.lt_size e)) e
 show wpAny _ _ (assignInOrder [fun v=>bindName X.env y v,fun v=>bindName X.env x v] [u2,u1]>>=fun _=>pure Flow.next) _ _ _
 refine wpAny_bind (assignInOrder_cons (wpAny_bindName (uZ I3 hN hj (.inl hy) rw' (fun s2 I4=>?_) (.inr hy))));refine assignInOrder_cons (wpAny_bindName (uZ I4 hN hi (.inl hx) rv (fun s3 I5=>assignInOrder_nil (wpAny_pure ?_)) (.inr hx)));rw[List.set_comm _ _ (Ne.symm hij)]at I5;exact⟨_,H1,I5,q1⟩
end
section
variable {X:Cx}{pos:Pos}
def S0(c:TT)(tb:TS):TS:=fun D σ H=>∃ W:Nat->St->Hp->Prop,(∃ m,W m σ H)/\∀ m σ H,W m σ H ->
 c σ H fun b H1=>if b=true then ∃ N:St->Hp->Prop,(∀ σ' H',N σ' H'->∃ m',m'<m/\W m' σ' H')/\tb {D with nx:=N,ct:=N,bk:=D.nx} σ H1 else D.nx σ H1
theorem CM{c:Expr}{body:List Stmt}{tc:TT}{tb:TS}(hp:PassesOwn (model X.prog X.w) X.A X.env X.xe)(hc:PT X c tc)(hb:PSs X body tb):PS X (.While c body [] pos) (S0 tc tb):=by
 intro pins s σ H D I h;obtain⟨W,⟨m0,w0⟩,turn⟩:=h;refine wpAny_While (codeAny_whileLoop (fun n s'=>∃ σ' H',Inv X pins σ' H' s'/\W n σ' H') ?_ m0 ⟨σ,H,I,w0⟩);rintro n s1 ⟨σ1,H1,I1,w1⟩;refine wpAny_passesOwn hp (bA (hc pins s1 σ1 H1 _ I1 (turn n σ1 H1 w1)) fun b s2 ⟨H2,I2,q2⟩=>?_)
 cases b with
 | true =>
  obtain⟨N,hN,q2⟩:=q2;rw[if_pos rfl];refine wpAny_passesOwn hp (bA (hb pins s2 σ1 H2 _ I2 q2) fun f s3 q3=>?_)
  cases f with
  | next =>
   obtain⟨σ3,H3,I3,n3⟩:=q3;obtain⟨m',hm,w3⟩:=hN σ3 H3 n3;exact⟨m',hm,σ3,H3,I3,w3⟩
  | cont =>
   obtain⟨σ3,H3,I3,n3⟩:=q3;obtain⟨m',hm,w3⟩:=hN σ3 H3 n3;exact⟨m',hm,σ3,H3,I3,w3⟩
  | brk=>exact q3
  | ret v=>exact q3
 | false =>
  rw[if_neg Bool.false_ne_true];exact wpAny_execs_nil ⟨σ1,H2,I2,q2⟩
end
structure It where
 go:Nat->Hp->Prop
 yld:Nat->Hp->V->Hp->Prop
 stop:Nat->Hp->Prop
def eL(X:Cx)(pins:List (Addr×Obj))(H:Hp)(b:Addr):Prop :=
 H b=none/\b≠X.env.locals/\b∉X.fs/\(b∈X.ex\/X.s₀.heap.objs.size<=b)/\(∀ x c,X.env.cells.lookup x=some c->c≠b)/\∀ p∈X.pn++pins,p.1≠b
theorem Inv.fpOk{X:Cx}{pins:List (Addr×Obj)}{σ:St}{H H':Hp}{s:Shared}{b:Addr}(I:Inv X pins σ H s)(hb:s.heap.objs.size<=b)(hn:H' b=none):eL X pins H' b:=by
 refine⟨hn,Nat.ne_of_gt (Nat.lt_of_lt_of_le I.lt hb),I.nofs hb,.inr (Nat.le_trans I.sz hb),fun x c e z=>?_,fun p hp z=>?_⟩
 ·obtain⟨v,q⟩:=I.cell x c e;exact absurd (Nat.lt_of_lt_of_le q.lt (by rw[z];exact hb)) (Nat.lt_irrefl _)
 ·exact absurd (Nat.lt_of_lt_of_le (Heap.lt_size (I.pin p hp).1) (by rw[z];exact hb)) (Nat.lt_irrefl _)
structure Turn (P:Program) (w:World) (K:PySem.W.Frag) (tg:Expr) (J:It) (fp:List Addr) (it:Addr) (tn:Nat->Heap->Prop):Prop where
 mem:it∈fp
 obj:∀ i h,tn i h->∀ b∈fp,∃ o,h.get? b=some o/\∀ v,o.data≠.cell v
 keep:∀ i h h',tn i h->(∀ b∈fp,∀ o,h.get? b=some o->h'.get? b=some o)->tn i h'
 item:∀ (X:Cx),X.prog=P->X.w=w->X.K=K->X.calm=true->∀ (i:Nat) (pins:List (Addr×Obj)) (s:Shared) (σ:St) (H:Hp) (E:Value->Shared->Prop),Inv X pins σ H s->(∀ b∈fp,eL X pins H b)->tn i s.heap->J.go i H ->
  wpAny (model P w) X.A (pyNext (.ref it)) (fun r s1=>∃ u,r=some u /\
   wpAny (model P w) X.A (letOwnedTupleGo tg (.ref it) u) (fun _ s2=>∃ x H',Inv X pins σ H' s2/\RelV x u/\J.yld i H x H'/\tn (i+1) s2.heap/\∀ b∈fp,H' b=none) E s1) E s
 done:∀ (X:Cx),X.prog=P->X.w=w->X.K=K->X.calm=true->∀ (i:Nat) (pins:List (Addr×Obj)) (s:Shared) (σ:St) (H:Hp) (E:Value->Shared->Prop),Inv X pins σ H s->(∀ b∈fp,eL X pins H b)->tn i s.heap->J.stop i H ->
  wpAny (model P w) X.A (pyNext (.ref it)) (fun r s1=>r=none/\Inv X pins σ H s1) E s
 self:∀ (A:Around) (i:Nat) (s:Shared) (Q:Value->Shared->Prop) (E:Value->Shared->Prop),tn i s.heap->Q (.ref it) s->wpAny (model P w) A (pyIter (.ref it)) Q E s
abbrev TI:=St->Hp->(It->Hp->Prop)->Prop
def Gm(X:Cx)(pins:List (Addr×Obj))(σ:St)(tg:Expr)(R:It->Hp->Prop)(itv:Value)(s2:Shared):Prop :=
 ∃ (it:Addr) (fp:List Addr) (tn:Nat->Heap->Prop) (J:It) (H':Hp),itv=.ref it/\Inv X pins σ H' s2/\Turn X.prog X.w X.K tg J fp it tn/\tn 0 s2.heap/\(∀ b∈fp,eL X pins H' b)/\R J H'
def PI(X:Cx)(tg iter:Expr)(wi:TI):Prop :=
 ∀ (pins:List (Addr×Obj)) (s:Shared) (σ:St) (H:Hp) (R:It->Hp->Prop),Inv X pins σ H s->wi σ H R ->
  wpAny (model X.prog X.w) X.A (eval iter X.env) (fun v s1=>wpAny (model X.prog X.w) X.A (pyIter v) (Gm X pins σ tg R) X.xe s1) X.xe s
theorem wW{M:Model}{A:Around}{E:Value->Shared->Prop}{s:Shared}{tg:Expr}{it:Addr}{u:Value}{o:Obj}{n:String}{vs:Array Value}{Q:Unit->Shared->Prop}(ho:s.heap.get? it=some o)(hc:o.cls=.type n)(hd:o.data=.fields vs)
  (hn:["enumerate","zip","dict_itemiterator","dict_reverseitemiterator","odict_iterator","itertools.zip_longest","itertools.pairwise"].contains n=false) (hQ:Q () s):wpAny M A (letOwnedTupleGo tg (.ref it) u) Q E s:=by
 unfold letOwnedTupleGo
 cases tg<;>first
  | exact wpAny_pure hQ
  | (cases u<;>first
    | exact wpAny_pure hQ
    | (refine wpAny_bind (wpAny_load ho ?_)
       rw[hc,hd];show wpAny M A (if (["enumerate","zip","dict_itemiterator","dict_reverseitemiterator","odict_iterator","itertools.zip_longest","itertools.pairwise"].contains n&&vs[0]? == some (rawInt _))=true then _ else _) Q E s
       rw[if_neg (by intro h;rw[hn,Bool.false_and]at h;cases h)]
       exact wpAny_pure hQ))
def Itl(K:PySem.W.Frag)(a:Addr):It :=
 ⟨fun i H=>∃ xs x,SqL K H a xs/\xs[i]?=some x,fun i H x H'=>H'=H/\∀ xs,SqL K H a xs->xs[i]?=some x,fun i H=>∃ xs,SqL K H a xs/\xs.length<=i⟩
def zZ(K:PySem.W.Frag)(a:Addr):It :=
 ⟨fun i H=>∃ xs x,SqT K H a xs/\xs[i]?=some x,fun i H x H'=>H'=H/\∀ xs,SqT K H a xs->xs[i]?=some x,fun i H=>∃ xs,SqT K H a xs/\xs.length<=i⟩
def tW(lo:Int)(n:Nat):It:=⟨fun i _=>i<n,fun i H x H'=>H'=H/\x=.int (lo+i),fun i _=>n<=i⟩
theorem Vc{P:Program}{w:World}{K:PySem.W.Frag}{tg:Expr}(a it:Addr):Turn P w K tg (Itl K a) [it] it (fun i h=>h.IsListIter it a i) where
 mem:=by simp
 obj:=fun i h st b hb=>by
  have e:b=it:=by simpa using hb
  subst e;obtain⟨o,e,c,d⟩:=st;exact⟨o,e,fun v z=>by rw[d]at z;cases z⟩
 keep:=fun i h h' st k=>st.at fun o e=>k it (by simp) o e
 item:=by
  intro X hP hw hK hc i pins s σ H E I hf st hg;subst hP hw hK;obtain⟨xs,x,hq,hx⟩:=hg;obtain⟨its,rv,p,hz⟩:=I.list hq;obtain⟨u,hu,ru⟩:=rv.get hx;obtain⟨f0,f1,f2,f3,f4,f5⟩:=hf it (by simp)
  refine wpAny_pyNext_list_item st p.isList (x:=u) (by simpa using hu) fun h' st' sb=>?_
  have I1:Inv X pins σ H {s with heap:=h'}:=I.turned (t':=s.toks) (fun b o hb e=>(sb.2 b hb).trans e) f0 f1 f3 f4 f5
  obtain⟨o,e,c,d⟩:=id st';exact⟨u,rfl,wW (s:={s with heap:=h'}) e c d (by decide) ⟨x,H,I1,ru,⟨rfl,fun ys hy=>by rw[I.list_inj hy hq];exact hx⟩,st',fun b hb=>(hf b hb).1⟩⟩
 done:=by
  intro X hP hw hK hc i pins s σ H E I hf st hg;subst hP hw hK;obtain⟨xs,hq,hx⟩:=hg;obtain⟨its,rv,p,hz⟩:=I.list hq;obtain⟨f0,f1,f2,f3,f4,f5⟩:=hf it (by simp)
  have hl:=rv.length
  exact wpAny_pyNext_list_end (I.ok.hd hc) st p.isList (by simp;omega) fun h' eb=>⟨rfl,I.turned (t':=s.toks) (fun b o hb e=>eb b o hb e) f0 f1 f3 f4 f5⟩
 self:=fun _ _ _ _ _ st h=>wpAny_pyIter_listiter st h
theorem BH{P:Program}{w:World}{K:PySem.W.Frag}{tg:Expr}(a it:Addr):Turn P w K tg (zZ K a) [it] it (fun i h=>h.IsTupleIter it a i) where
 mem:=by simp
 obj:=fun i h st b hb=>by
  have e:b=it:=by simpa using hb
  subst e;obtain⟨o,e,c,d⟩:=st;exact⟨o,e,fun v z=>by rw[d]at z;cases z⟩
 keep:=fun i h h' st k=>st.at fun o e=>k it (by simp) o e
 item:=by
  intro X hP hw hK hc i pins s σ H E I hf st hg;subst hP hw hK;obtain⟨xs,x,hq,hx⟩:=hg;obtain⟨its,rv,p,hz⟩:=I.tuple hq;obtain⟨u,hu,ru⟩:=rv.get hx;obtain⟨f0,f1,f2,f3,f4,f5⟩:=hf it (by simp)
  refine wpAny_pyNext_tuple_item st (show s.heap.IsTuple a its.toArray from p) (x:=u) (by simpa using hu) fun h' st' sb=>?_
  have I1:Inv X pins σ H {s with heap:=h'}:=I.turned (t':=s.toks) (fun b o hb e=>(sb.2 b hb).trans e) f0 f1 f3 f4 f5
  obtain⟨o,e,c,d⟩:=id st';exact⟨u,rfl,wW (s:={s with heap:=h'}) e c d (by decide) ⟨x,H,I1,ru,⟨rfl,fun ys hy=>by rw[I.tuple_inj hy hq];exact hx⟩,st',fun b hb=>(hf b hb).1⟩⟩
 done:=by
  intro X hP hw hK hc i pins s σ H E I hf st hg;subst hP hw hK;obtain⟨xs,hq,hx⟩:=hg;obtain⟨its,rv,p,hz⟩:=I.tuple hq;obtain⟨f0,f1,f2,f3,f4,f5⟩:=hf it (by simp)
  have hl:=rv.length
  exact wpAny_pyNext_tuple_end (I.ok.hd hc) st (show s.heap.IsTuple a its.toArray from p) (by simp;omega) fun h' eb=>⟨rfl,I.turned (t':=s.toks) (fun b o hb e=>eb b o hb e) f0 f1 f3 f4 f5⟩
 self:=fun _ _ _ _ _ st h=>wpAny_pyIter_tupleiter st h
theorem p8{P:Program}{w:World}{K:PySem.W.Frag}{tg:Expr}(it:Addr)(lo:Int)(n:Nat):Turn P w K tg (tW lo n) [it] it (fun i h=>IsRangeIter h it (lo+(i:Nat)*1) ((n:Int)-(i:Nat)) 1) where
 mem:=by simp
 obj:=fun i h st b hb=>by
  have e:b=it:=by simpa using hb
  subst e;exact⟨_,st,fun v z=>by
   have z':Data.fields _=Data.cell v:=z
   cases z'⟩
 keep:=fun i h h' st k=>k it (by simp) _ st
 item:=by
  intro X hP hw hK hc i pins s σ H E I hf st hg;subst hP hw hK;obtain⟨f0,f1,f2,f3,f4,f5⟩:=hf it (by simp)
  have W:=Walks.range (prog:=X.prog) (w:=X.w) (I.ok.hd hc) it lo 1 n
  refine W.item i s _ _ hg st fun v h' tk hv st' kk=>?_;obtain⟨t,rfl⟩:=hv;have I1:Inv X pins σ H {s with heap:=h',toks:=tk}:=I.turned (fun b o hb e=>kk b o (by simpa using hb) e) f0 f1 f3 f4 f5
  refine⟨_,rfl,wW (s:={s with heap:=h',toks:=tk}) (n:="range_iterator") st' rfl rfl (by decide) ⟨.int (lo+i),H,I1,⟨t,?_⟩,⟨rfl,rfl⟩,st',fun b hb=>(hf b hb).1⟩⟩
  rw[Int.mul_one]
 done:=by
  intro X hP hw hK hc i pins s σ H E I hf st hg;subst hP hw hK;obtain⟨f0,f1,f2,f3,f4,f5⟩:=hf it (by simp)
  exact wpAny_pyNext_range_end (I.ok.hd hc) st (by have:n<=i:=hg;omega) fun h' eb=>⟨rfl,I.turned (t':=s.toks) (fun b o hb e=>eb b o hb e) f0 f1 f3 f4 f5⟩
 self:=fun _ _ _ _ _ st h=>wpAny_pyIter_rangeiter st h
end L2
namespace L2
open PySem PySem.Spec PyProof.Rows
section
variable {X:Cx}{tg:Expr}
theorem Gq{pins:List (Addr×Obj)}{σ:St}{H:Hp}{s:Shared}{R:It->Hp->Prop}{E:Value->Shared->Prop}{lo hi:Int}{t u v:Tok}{tk:Nat}(I:Inv X pins σ H s)(h1:-(2^62)<=lo)(h2:lo<2^62)(h3:-(2^62)<=hi)(h4:hi<2^62)
  (q:R (tW lo (hi-lo).toNat) H):wpAny (model X.prog X.w) X.A (pyIter (.ref s.heap.objs.size)) (Gm X pins σ tg R) E {s with heap:=s.heap.push {cls:=.type "range",data:=.fields #[.int lo t,.int hi u,.int 1 v]},toks:=tk}:=by
 refine wpAny_pyIter_range (IsRange.new ..) (small_one h1 h2 h3 h4) ?_;have I1:Inv X pins σ H {s with heap:=s.heap.push {cls:=.type "range",data:=.fields #[.int lo t,.int hi u,.int 1 v]},toks:=tk}:=I.kept fun b o e=>Heap.get?_push_of_some _ e
 refine⟨(s.heap.push {cls:=.type "range",data:=.fields #[.int lo t,.int hi u,.int 1 v]}).objs.size,[(s.heap.push {cls:=.type "range",data:=.fields #[.int lo t,.int hi u,.int 1 v]}).objs.size],_,_,H,rfl,
  I1.kept (t':=tk) fun b o e=>Heap.get?_push_of_some _ e,p8 _ lo (hi-lo).toNat,?_,fun b hb=>?_,q⟩
 ·have e1:lo+((0:Nat):Int)*1=lo:=by simp
  have e2:(((hi-lo).toNat:Nat):Int)-((0:Nat):Int)=Builtin.Range.rangeSize lo hi 1:=by rw[rangeSize_one];split<;>omega
  show IsRangeIter _ _ (lo+((0:Nat):Int)*1) ((((hi-lo).toNat:Nat):Int)-((0:Nat):Int)) 1
  rw[e1,e2];exact Heap.get?_push_size _ rfl
 ·have e:b=(s.heap.push {cls:=.type "range",data:=.fields #[.int lo t,.int hi u,.int 1 v]}).objs.size:=by simpa using hb
  subst e;exact I1.fpOk (Nat.le_refl _) (I1.hok.fresh (Nat.le_refl _))
def C9(ta:TA):TI:=fun σ H R=>ta σ H fun vs H1=>∃ j:Int,vs=[.int j]/\-(2^62)<=j/\j<2^62/\R (tW 0 j.toNat) H1
def FP(ta:TA):TI:=fun σ H R=>ta σ H fun vs H1=>∃ i j:Int,vs=[.int i,.int j]/\(-(2^62)<=i/\i<2^62/\-(2^62)<=j/\j<2^62)/\R (tW i (j-i).toNat) H1
theorem Wj{a:Expr}{ta:TA}{p pos:Pos}(hg:Gl X "range")(hm:X.mg "range"=none)(ha:PA X [a] ta)(hs:starEach [a] X.env=[(false,eval a X.env)]:=by rfl):PI X tg (.Call (.Name "range" p) [a] [] pos) (C9 ta):=by
 intro pins s σ H R I h;refine Call_ (gQ I hg hm boot_range (PyProof.Rows.callWith_type1 (bA (ha pos pins s σ H _ I h) fun us s1 ⟨vs,H1,I1,r1,q1⟩=>?_) hs rfl));obtain⟨j,e,q1,q2,q⟩:=q1;subst e
 cases r1 with
 | cons r rr =>
  cases rr
  obtain⟨t,rfl⟩:=r;exact call_range_1 (Gq I1 (by omega) (by omega) q1 q2 (by simpa using q))
theorem BC{a b:Expr}{ta:TA}{p pos:Pos}(hg:Gl X "range")(hm:X.mg "range"=none)(ha:PA X [a,b] ta)(hs:starEach [a,b] X.env=[(false,eval a X.env),(false,eval b X.env)]:=by rfl)(hs2:starEach [b] X.env=[(false,eval b X.env)]:=by rfl) :
  PI X tg (.Call (.Name "range" p) [a,b] [] pos) (FP ta):=by
 intro pins s σ H R I h;refine Call_ (gQ I hg hm boot_range (PyProof.Rows.callWith_type1 (bA (ha pos pins s σ H _ I h) fun us s1 ⟨vs,H1,I1,r1,q1⟩=>?_) (by rw[hs,hs2]) (by rw[hs2];rfl)))
 obtain⟨i,j,e,⟨q1,q2,q3,q4⟩,q⟩:=q1;subst e
 cases r1 with
 | cons r rr =>
  cases rr with
  | cons r' rr =>
   cases rr
   obtain⟨t,rfl⟩:=r;obtain⟨t',rfl⟩:=r';exact call_range_2 (Gq I1 q1 q2 q3 q4 q)
def BV(wi:TI)(g:TG)(tb:TS):TS:=fun D σ H=>wi σ H fun J H1=>∃ W:Nat->Nat->St->Hp->Prop,(∃ m,W 0 m σ H1)/\∀ i m σ H,W i m σ H ->
 (J.stop i H/\D.nx σ H)\/(J.go i H/\∃ N:St->Hp->Prop,(∀ σ' H',N σ' H'->∃ m',m'<m/\W (i+1) m' σ' H')/\∀ x H',J.yld i H x H'->g x σ H' fun σ2 H2=>tb {D with nx:=N,ct:=N,bk:=D.nx} σ2 H2)
def pA(fp:List Addr)(h:Heap):List (Addr×Obj):=fp.filterMap fun b=>(h.get? b).map fun o=>(b,o)
theorem tM{fp:List Addr}{h:Heap}{b:Addr}{o:Obj}(hb:b∈fp)(e:h.get? b=some o):(b,o)∈pA fp h:=List.mem_filterMap.mpr ⟨b,hb,by rw[e];rfl⟩
theorem Rw{fp:List Addr}{h:Heap}{p:Addr×Obj}(hp:p∈pA fp h):p.1∈fp/\h.get? p.1=some p.2:=by
 obtain⟨b,hb,e⟩:=List.mem_filterMap.mp hp
 cases q:h.get? b with
 | none=>rw[q]at e;cases e
 | some o =>
  rw[q]at e;have e':(b,o)=p:=Option.some.inj e
  subst e';exact⟨hb,q⟩
theorem Inv.pinned{pins:List (Addr×Obj)}{σ:St}{H:Hp}{s:Shared}{fp:List Addr}(I:Inv X pins σ H s)(hf:∀ b∈fp,eL X pins H b)(ho:∀ b∈fp,∃ o,s.heap.get? b=some o/\∀ v,o.data≠.cell v):Inv X (pins++pA fp s.heap) σ H s :=
 I.pins_of fun p hp=>(List.mem_append.mp hp).elim (fun z=>I.pin p (List.mem_append_right _ z)) fun z=>by
  obtain⟨hb,e⟩:=Rw z;obtain⟨f0,f1,f2,_⟩:=hf p.1 hb;obtain⟨o,e',d⟩:=ho p.1 hb;rw[e]at e';cases e';exact⟨e,f0,f1,f2,d⟩
theorem Inv.unpinned{pins pl:List (Addr×Obj)}{σ:St}{H:Hp}{s:Shared}(I:Inv X (pins++pl) σ H s):Inv X pins σ H s:=I.pins_of fun p hp=>I.pin p (List.mem_append_right _ (List.mem_append_left _ hp))
theorem AH{iter:Expr}{body:List Stmt}{wi:TI}{g:TG}{tb:TS}{pos:Pos}(hp:PassesOwn (model X.prog X.w) X.A X.env X.xe)(hc:X.calm=true)(hi:PI X tg iter wi)(hg:PG X tg g)(hb:PSs X body tb)
  (hs:∀ x,foldedSetIterable iter X.env x=pure x:=by intro _;rfl):PS X (.For tg iter body [] pos) (BV wi g tb):=by
 intro pins s σ H D I h;refine wpAny_For (bA (hi pins s σ H _ I h) fun v s1 h1=>bA h1 fun itv s2 h2=>?_) hs;obtain⟨it,fp,tn,J,H2,e,I2,T,st2,f2,W,⟨m0,w0⟩,turn⟩:=h2;subst e
 -- what stays true of the iterator's objects through the loop
 have stat:∀ {H':Hp},(∀ b∈fp,H' b=none)->∀ b∈fp,eL X pins H' b:=fun hn b hb=>⟨hn b hb,(f2 b hb).2⟩
 refine codeAny_forLoop_any (fun n s'=>∃ i σ' H',Inv X pins σ' H' s'/\tn i s'.heap/\(∀ b∈fp,H' b=none)/\W i n σ' H') ?_ m0 ⟨0,σ,H2,I2,st2,fun b hb=>(f2 b hb).1,w0⟩;rintro n s3 ⟨i,σ3,H3,I3,st3,fr3,w3⟩;rcases turn i n σ3 H3 w3 with⟨stop,qn⟩ | ⟨go,N,hN,step⟩
 ·refine wpAny_passesOwn hp (bA (T.done X rfl rfl rfl hc i pins s3 σ3 H3 X.xe I3 (stat fr3) st3 stop) fun r s4 ⟨hr,I4⟩=>?_);subst hr;exact wpAny_execs_nil ⟨σ3,H3,I4,qn⟩
 ·refine wpAny_passesOwn hp (bA (T.item X rfl rfl rfl hc i pins s3 σ3 H3 X.xe I3 (stat fr3) st3 go) fun r s4 ⟨u,hr,h4⟩=>?_);subst hr;refine wpAny_passesOwn hp (bA h4 fun _ s5 ⟨x,H5,I5,r5,y5,st5,fr5⟩=>?_);have I5':=I5.pinned (stat fr5) (T.obj _ _ st5)
  refine wpAny_passesOwn hp (bA (hg _ s5 σ3 H5 x u _ I5' r5 (step x H5 y5)) fun _ s6 ⟨σ6,H6,I6,q6⟩=>?_);refine wpAny_passesOwn hp (bA (hb _ s6 σ6 H6 _ I6 q6) fun f s7 q7=>?_);have again:∀ {σ7:St} {H7:Hp},Inv X (pins++pA fp s5.heap) σ7 H7 s7->N σ7 H7->∃ m,m<n/\∃ i σ' H',Inv X pins σ' H' s7/\tn i s7.heap/\(∀ b∈fp,H' b=none)/\W i m σ' H':=fun {σ7 H7} I7 n7=>by
   obtain⟨m',hm,w7⟩:=hN σ7 H7 n7;refine⟨m',hm,i+1,σ7,H7,I7.unpinned,T.keep _ _ _ st5 fun b hb o e=>(I7.pin (b,o) (List.mem_append_right _ (List.mem_append_right _ (tM hb e)))).1,fun b hb=>?_,w7⟩;obtain⟨o,e,d⟩:=T.obj _ _ st5 b hb;exact(I7.pin (b,o) (List.mem_append_right _ (List.mem_append_right _ (tM hb e)))).2.1
  cases f with
  | next=>obtain⟨σ7,H7,I7,n7⟩:=q7;exact again I7 n7
  | cont=>obtain⟨σ7,H7,I7,n7⟩:=q7;exact again I7 n7
  | brk=>obtain⟨σ7,H7,I7,q7⟩:=q7;exact⟨σ7,H7,I7.unpinned,q7⟩
  | ret v=>obtain⟨x7,σ7,H7,I7,r7,q7⟩:=q7;exact⟨x7,σ7,H7,I7.unpinned,r7,q7⟩
end
end L2
namespace L2
open PySem PySem.Spec PyProof.Rows
abbrev R2:=V->V->Hp->VK->Prop
def OpR(X:Cx)(f:Value->Value->Sem Value)(r:R2):Prop :=
 ∀ (pins:List (Addr×Obj)) (s:Shared) (σ:St) (H:Hp) (x y:V) (v u:Value) (Q:VK),Inv X pins σ H s->RelV x v->RelV y u->r x y H Q ->
  wpAny (model X.prog X.w) X.A (f v u) (EP X pins σ Q) X.xe s
def Bg(X:Cx)(f:Value->Sem Value)(r:V->Hp->VK->Prop):Prop :=
 ∀ (pins:List (Addr×Obj)) (s:Shared) (σ:St) (H:Hp) (x:V) (v:Value) (Q:VK),Inv X pins σ H s->RelV x v->r x H Q ->
  wpAny (model X.prog X.w) X.A (f v) (EP X pins σ Q) X.xe s
def CallR(X:Cx)(f:Value)(r:List V->Hp->VK->Prop):Prop :=
 ∀ (pins:List (Addr×Obj)) (s:Shared) (σ:St) (H:Hp) (xs:List V) (us:List Value) (Q:VK),Inv X pins σ H s->Vals xs us->r xs H Q ->
  wpAny (model X.prog X.w) X.A (call f us) (EP X pins σ Q) X.xe s
def Tz(r:R2)(ta tb:TE):TE:=fun σ H Q=>ta σ H fun x H1=>tb σ H1 fun y H2=>r x y H2 Q
def A8(r:V->Hp->VK->Prop)(ta:TE):TE:=fun σ H Q=>ta σ H fun x H1=>r x H1 Q
def rI(C:Int->Int->Prop)(g:Int->Int->V):R2:=fun x y H Q=>∃ i j,x=.int i/\y=.int j/\C i j/\Q (g i j) H
def oJ(g:Int->Int->V):R2:=fun x y H Q=>∃ i j,x=.int i/\y=.int j/\Q (g i j) H
def rU(g:Int->V):V->Hp->VK->Prop:=fun x H Q=>∃ i,x=.int i/\Q (g i) H
section
variable {X:Cx}{a b c:Expr}{ta tb tc:TE}{pos:Pos}
theorem Et(ha:PE X a ta)(hb:PE X b tb){pins:List (Addr×Obj)}{s:Shared}{σ:St}{H:Hp}{R:V->V->Hp->Prop}(I:Inv X pins σ H s)
  (h:ta σ H fun x H1=>tb σ H1 fun y H2=>R x y H2) {Q:Value->Shared->Prop} {f:Value->Value->Sem Value}
  (hf:∀ v u s2 x y H2,Inv X pins σ H2 s2->RelV x v->RelV y u->R x y H2->wpAny (model X.prog X.w) X.A (f v u) Q X.xe s2) :
  wpAny (model X.prog X.w) X.A (eval a X.env) (fun v s₁=>wpAny (model X.prog X.w) X.A (eval b X.env) (fun u s₂=>wpAny (model X.prog X.w) X.A (f v u) Q X.xe s₂) X.xe s₁) X.xe s:=by
 refine bA (ha pins s σ H _ I h) fun v s1 ⟨x,H1,I1,r1,q1⟩=>?_;refine bA (hb pins s1 σ H1 _ I1 q1) fun u s2 ⟨y,H2,I2,r2,q2⟩=>?_;exact hf v u s2 x y H2 I2 r1 r2 q2
theorem l6{op:UnaryOp}{r:V->Hp->VK->Prop}(ho:Bg X (unaryOp op) r)(ha:PE X a ta):PE X (.UnaryOp op a pos) (A8 r ta):=by
 intro pins s σ H Q I h;exact UnaryOp_ (bA (ha pins s σ H _ I h) fun v s1 ⟨x,H1,I1,r1,q1⟩=>ho pins s1 σ H1 x v Q I1 r1 q1)
theorem Ee{f:Value->Value->Sem Value}{C:Int->Int->Prop}{g:Int->Int->Int}
  (rule:∀ (i j:Int) (t u:Tok) (s:Shared) (Q:Value->Shared->Prop) (E:Value->Shared->Prop),C i j->Q (.int (g i j) s.toks) {s with toks:=s.toks+1}->wpAny (model X.prog X.w) X.A (f (.int i t) (.int j u)) Q E s) :
  OpR X f (rI C fun i j=>.int (g i j)):=by
 intro pins s σ H x y v u Q I rx ry h;obtain⟨i,j,rfl,rfl,hc,q⟩:=h;obtain⟨t,rfl⟩:=rx;obtain⟨t',rfl⟩:=ry;exact rule i j t t' s _ _ hc ⟨.int (g i j),H,I.tok _,⟨_,rfl⟩,q⟩
theorem Lj{f:Value->Value->Sem Value}{g:Int->Int->Int}
  (rule:∀ (i j:Int) (t u:Tok) (s:Shared) (Q:Value->Shared->Prop) (E:Value->Shared->Prop),Q (.int (g i j) s.toks) {s with toks:=s.toks+1}->wpAny (model X.prog X.w) X.A (f (.int i t) (.int j u)) Q E s) :
  OpR X f (oJ fun i j=>.int (g i j)):=by
 intro pins s σ H x y v u Q I rx ry h;obtain⟨i,j,rfl,rfl,q⟩:=h;obtain⟨t,rfl⟩:=rx;obtain⟨t',rfl⟩:=ry;exact rule i j t t' s _ _ ⟨.int (g i j),H,I.tok _,⟨_,rfl⟩,q⟩
theorem Mm{f:Value->Value->Sem Value}{g:Int->Int->Bool}
  (rule:∀ (i j:Int) (t u:Tok) (s:Shared) (Q:Value->Shared->Prop) (E:Value->Shared->Prop),Q (.bool (g i j)) s->wpAny (model X.prog X.w) X.A (f (.int i t) (.int j u)) Q E s) :
  OpR X f (oJ fun i j=>.bl (g i j)):=by
 intro pins s σ H x y v u Q I rx ry h;obtain⟨i,j,rfl,rfl,q⟩:=h;obtain⟨t,rfl⟩:=rx;obtain⟨t',rfl⟩:=ry;exact rule i j t t' s _ _ ⟨.bl (g i j),H,I,rfl,q⟩
def Rr(i j:Int):Prop:=0<=j/\j<=1000000/\i.natAbs<2^64
def CMul(i j:Int):Prop:=(-(2^64)<i/\i<2^64)\/(-(2^64)<j/\j<2^64)
theorem CMul.ok{i j:Int}(h:CMul i j):IntMulOk i j:=by
 rcases h with⟨h1,h2⟩ | ⟨h1,h2⟩
 ·exact .of_left (intBits_le_64 h1 h2)
 ·exact .of_right (intBits_le_64 h1 h2)
theorem Yj:OpR X (binaryOp .Add) (oJ fun i j=>.int (i+j)):=Lj fun _ _ _ _ _ _ _ q=>add_int q
theorem Qz:OpR X (binaryOp .Sub) (oJ fun i j=>.int (i-j)):=Lj fun _ _ _ _ _ _ _ q=>sub_int q
theorem O1:OpR X (binaryOp .Mod) (rI (fun _ j=>j≠0) fun i j=>.int (i.fmod j)):=Ee fun _ _ _ _ _ _ _ hc q=>mod_int' hc q
theorem Yr:OpR X (binaryOp .Pow) (rI Rr fun i j=>.int (i^j.toNat)):=Ee fun _ _ _ _ _ _ _ hc q=>pow_int_small hc.1 hc.2.1 hc.2.2 q
theorem Tg{f:Value->Sem Value}{g:Int->Int}
  (rule:∀ (i:Int) (t:Tok) (s:Shared) (Q:Value->Shared->Prop) (E:Value->Shared->Prop),Q (.int (g i) s.toks) {s with toks:=s.toks+1}->wpAny (model X.prog X.w) X.A (f (.int i t)) Q E s) :
  Bg X f (rU fun i=>.int (g i)):=by
 intro pins s σ H x v Q I rx h;obtain⟨i,rfl,q⟩:=h;obtain⟨t,rfl⟩:=rx;exact rule i t s _ _ ⟨.int (g i),H,I.tok _,⟨_,rfl⟩,q⟩
theorem BD:Bg X (unaryOp .USub) (rU fun i=>.int (-i)):=Tg fun _ _ _ _ _ q=>neg_int q
end
def Ed:V->V->Bool
 | .non,.non=>true | .non,.int _=>true | .int _,.non=>true | .non,.bl _=>true | .bl _,.non=>true | .non,.str _=>true | .str _,.non=>true
 | .int _,.int _=>true | .bl _,.bl _=>true | .str _,.str _=>true | .byt _,.byt _=>true
 | .int _,.str _=>true | .str _,.int _=>true | .bl _,.str _=>true | .str _,.bl _=>true
 | _,_=>false
def C1:R2:=fun x y H Q=>Ed x y=true/\Q (.bl (decide (x=y))) H
def Zj:R2:=fun x y H Q=>Ed x y=true/\Q (.bl (!decide (x=y))) H
theorem Mr{i j:Int}:decide (V.int i=V.int j)=(i==j):=by
 rw[Bool.eq_iff_iff];simp
theorem Nc{i j:Bool}:decide (V.bl i=V.bl j)=(i==j):=by
 rw[Bool.eq_iff_iff];simp
theorem Lc{i j:Str}:decide (V.str i=V.str j)=(i==j):=by
 rw[Bool.eq_iff_iff];simp
theorem Ip{i j:Array UInt8}:decide (V.byt i=V.byt j)=(i.toList==j.toList):=by
 rw[Bool.eq_iff_iff]
 cases i
 cases j
 simp
section
variable {X:Cx}{a b c:Expr}{ta tb tc:TE}{pos:Pos}
theorem cQ{pins:List (Addr×Obj)}{σ:St}{H:Hp}{s:Shared}{Q:VK}{k k':Bool}(I:Inv X pins σ H s)(q:Q (.bl k) H)(e:k=k'):EP X pins σ Q (.bool k') s:=by
 subst e;exact⟨.bl k,H,I,rfl,q⟩
theorem FJ:OpR X (compareOp .Eq) C1:=by
 intro pins s σ H x y v u Q I rx ry h;obtain⟨hs,q⟩:=h
 cases x with
 | non =>
  cases rx
  cases y with
  | non=>cases ry;exact PySem.EqNone.eq_none_none (cQ I q (by simp))
  | bl j=>cases ry;exact PySem.EqNone.eq_none_bool (cQ I q (by simp))
  | int j=>obtain⟨t',rfl⟩:=ry;exact PySem.EqNone.eq_none_int (cQ I q (by simp))
  | str j=>obtain⟨t',rfl⟩:=ry;exact PySem.EqNone.eq_none_str (cQ I q (by simp))
  | _=>exact absurd (show false=true from hs) Bool.false_ne_true
 | bl i =>
  cases rx
  cases y with
  | non=>cases ry;exact PySem.EqNone.eq_bool_none (cQ I q (by simp))
  | bl j=>cases ry;exact eq_bool (cQ I q Nc)
  | str j=>obtain⟨t',rfl⟩:=ry;exact PySem.EqMixed.eq_bool_str (cQ I q (by simp))
  | _=>exact absurd (show false=true from hs) Bool.false_ne_true
 | int i =>
  obtain⟨t,rfl⟩:=rx
  cases y with
  | non=>cases ry;exact PySem.EqNone.eq_int_none (cQ I q (by simp))
  | int j=>obtain⟨t',rfl⟩:=ry;exact eq_int (cQ I q Mr)
  | str j=>obtain⟨t',rfl⟩:=ry;exact PySem.EqMixed.eq_int_str (cQ I q (by simp))
  | _=>exact absurd (show false=true from hs) Bool.false_ne_true
 | str i =>
  obtain⟨t,rfl⟩:=rx
  cases y with
  | non=>cases ry;exact PySem.EqNone.eq_str_none (cQ I q (by simp))
  | bl j=>cases ry;exact PySem.EqMixed.eq_str_bool (cQ I q (by simp))
  | int j=>obtain⟨t',rfl⟩:=ry;exact PySem.EqMixed.eq_str_int (cQ I q (by simp))
  | str j=>obtain⟨t',rfl⟩:=ry;exact eq_str (cQ I q Lc)
  | _=>exact absurd (show false=true from hs) Bool.false_ne_true
 | byt i =>
  obtain⟨t,rfl⟩:=rx
  cases y with
  | byt j=>obtain⟨t',rfl⟩:=ry;exact PySem.W.eq_bytes (cQ I q Ip)
  | _=>exact absurd (show false=true from hs) Bool.false_ne_true
 | _=>cases y<;>exact absurd (show false=true from hs) Bool.false_ne_true
theorem b8:OpR X (compareOp .NotEq) Zj:=by
 intro pins s σ H x y v u Q I rx ry h;obtain⟨hs,q⟩:=h
 cases x with
 | non =>
  cases rx
  cases y with
  | non=>cases ry;exact PySem.EqNone.ne_none_none (cQ I q (by simp))
  | bl j=>cases ry;exact PySem.EqNone.ne_none_bool (cQ I q (by simp))
  | int j=>obtain⟨t',rfl⟩:=ry;exact PySem.EqNone.ne_none_int (cQ I q (by simp))
  | str j=>obtain⟨t',rfl⟩:=ry;exact PySem.EqNone.ne_none_str (cQ I q (by simp))
  | _=>exact absurd (show false=true from hs) Bool.false_ne_true
 | bl i =>
  cases rx
  cases y with
  | non=>cases ry;exact PySem.EqNone.ne_bool_none (cQ I q (by simp))
  | bl j=>cases ry;exact ne_bool (cQ I q (congrArg not Nc))
  | str j=>obtain⟨t',rfl⟩:=ry;exact PySem.EqMixed.ne_bool_str (cQ I q (by simp))
  | _=>exact absurd (show false=true from hs) Bool.false_ne_true
 | int i =>
  obtain⟨t,rfl⟩:=rx
  cases y with
  | non=>cases ry;exact PySem.EqNone.ne_int_none (cQ I q (by simp))
  | int j=>obtain⟨t',rfl⟩:=ry;exact ne_int (cQ I q (congrArg not Mr))
  | str j=>obtain⟨t',rfl⟩:=ry;exact PySem.EqMixed.ne_int_str (cQ I q (by simp))
  | _=>exact absurd (show false=true from hs) Bool.false_ne_true
 | str i =>
  obtain⟨t,rfl⟩:=rx
  cases y with
  | non=>cases ry;exact PySem.EqNone.ne_str_none (cQ I q (by simp))
  | bl j=>cases ry;exact PySem.EqMixed.ne_str_bool (cQ I q (by simp))
  | int j=>obtain⟨t',rfl⟩:=ry;exact PySem.EqMixed.ne_str_int (cQ I q (by simp))
  | str j=>obtain⟨t',rfl⟩:=ry;exact ne_str (cQ I q (congrArg not Lc))
  | _=>exact absurd (show false=true from hs) Bool.false_ne_true
 | byt i =>
  obtain⟨t,rfl⟩:=rx
  cases y with
  | byt j=>obtain⟨t',rfl⟩:=ry;exact PySem.W.ne_bytes (cQ I q (congrArg not Ip))
  | _=>exact absurd (show false=true from hs) Bool.false_ne_true
 | _=>cases y<;>exact absurd (show false=true from hs) Bool.false_ne_true
theorem Ww:OpR X (compareOp .Lt) (oJ fun i j=>.bl (decide (i<j))):=Mm fun _ _ _ _ _ _ _ q=>lt_int q
theorem BF:OpR X (compareOp .Gt) (oJ fun i j=>.bl (decide (j<i))):=Mm fun _ _ _ _ _ _ _ q=>gt_int q
theorem Ry:OpR X (compareOp .Is) (fun x y H Q=>y=.non/\Q (.bl (decide (x=.non))) H):=by
 intro pins s σ H x y v u Q I rx ry h;obtain⟨rfl,q⟩:=h
 cases ry
 refine is_none_gen (cQ I q ?_)
 cases x<;>first
  | (cases rx;rfl)
  | (obtain⟨t,rfl⟩:=rx;rfl)
theorem OpR.or{f:Value->Value->Sem Value}{r r':R2}(h:OpR X f r)(h':OpR X f r'):OpR X f (fun x y H Q=>r x y H Q\/r' x y H Q):=by
 intro pins s σ H x y v u Q I rx ry q;rcases q with q | q
 ·exact h pins s σ H x y v u Q I rx ry q
 ·exact h' pins s σ H x y v u Q I rx ry q
theorem tR(b:Expr){op:CmpOp}(h:op≠.In:=by decide)(h2:op≠.NotIn:=by decide):behindInMarks op b=false:=by
 have e1:(op==CmpOp.In)=false:=by cases op<;>first | rfl | exact absurd rfl h
 have e2:(op==CmpOp.NotIn)=false:=by cases op<;>first | rfl | exact absurd rfl h2
 cases b<;>simp[behindInMarks,e1,e2]
theorem lB:(sizeLine:Nat)<2^63:=by rw[sizeLine_eq];decide
theorem Qu:OpR X (binaryOp .Add) (fun x y H Q=>∃ i j,x=.str i/\y=.str j/\i.length+j.length<=sizeLine/\Q (.str (i++j)) H):=by
 intro pins s σ H x y v u Q I rx ry h;obtain⟨i,j,rfl,rfl,hz,q⟩:=h;obtain⟨t,rfl⟩:=rx;obtain⟨t',rfl⟩:=ry;exact add_str (fun t' tk=>⟨.str (i++j),H,I.tok _,⟨_,rfl⟩,q⟩) hz
theorem fP{x:V}{us:List Value}(r:Vals [x] us):∃ u,us=[u]/\RelV x u:=by
 cases r with
 | cons r1 r2=>cases r2;exact⟨_,rfl,r1⟩
theorem Np{x y:V}{us:List Value}(r:Vals [x,y] us):∃ u w',us=[u,w']/\RelV x u/\RelV y w':=by
 cases r with
 | cons r1 r2 =>
  cases r2 with
  | cons r3 r4=>cases r4;exact⟨_,_,rfl,r1,r3⟩
theorem Pn:CallR X (.builtin "abs") (fun xs H Q=>∃ i,xs=[.int i]/\Q (.int (if i<0 then -i else i)) H):=by
 intro pins s σ H xs us Q I r h;obtain⟨i,rfl,q⟩:=h;obtain⟨u,rfl,t,rfl⟩:=fP r;exact call_abs_int fun u tk=>⟨.int (if i<0 then -i else i),H,I.tok _,⟨_,rfl⟩,q⟩
theorem M3(hc:X.calm=true):CallR X (.builtin "min") (fun xs H Q=>∃ i j,xs=[.int i,.int j]/\Q (.int (if j<i then j else i)) H):=by
 intro pins s σ H xs us Q I r h;obtain⟨i,j,rfl,q⟩:=h;obtain⟨u,w',rfl,⟨t,rfl⟩,⟨t',rfl⟩⟩:=Np r;refine min_two_ints (I.ok.hd hc) fun h' tk k=>⟨_,H,I.kept k,?_,q⟩
 by_cases hj:j<i
 ·rw[if_pos hj,if_pos hj];exact⟨_,rfl⟩
 ·rw[if_neg hj,if_neg hj];exact⟨_,rfl⟩
theorem Im:CallR X (.type "int") (fun xs H Q=>(∃ i,xs=[.int i]/\Q (.int i) H)\/∃ k,xs=[.bl k]/\Q (.int (if k then 1 else 0)) H):=by
 intro pins s σ H xs us Q I r h;rcases h with⟨i,rfl,q⟩ | ⟨k,rfl,q⟩
 ·obtain⟨u,rfl,t,rfl⟩:=fP r;exact call_int_int ⟨.int i,H,I,⟨_,rfl⟩,q⟩
 ·obtain⟨u,rfl,r1⟩:=fP r
  cases r1
  exact call_int_bool ⟨.int (if k then 1 else 0),H,I.tok _,⟨_,rfl⟩,q⟩
end
end L2
namespace L2
open PySem PySem.Spec PyProof.Rows
structure ObjM (h:Heap) (x dx C:Addr) (mA:Str->Option Value):Prop where
 obj:h.get? x=some (PySem.W.instObj C dx)
 ns:h.Ns1 dx mA
 ne:dx≠x
theorem S5{h:Heap}{dx:Addr}{mA:Str->Option Value}(n:h.Ns1 dx mA):∃ od,h.get? dx=some od/\∀ name,PySem.W.lookIn name od=some (mA name):=by
 obtain⟨o,es,ep,ho,hd,hk,_,hm⟩:=n;refine⟨o,ho,fun name=>?_⟩;have e:=hm name
 unfold nsFind findBy at e;rw[<- Array.find?_toList]at e;unfold PySem.W.lookIn;rw[hd];dsimp only
 split
 ·rename_i y q;rw[q]at e;exact congrArg some e
 ·rename_i q;rw[q]at e;have a:es.toList.any (·.refKey)=false:=by
   rw[List.any_eq_false];intro y hy;obtain⟨z,t,hkey⟩:=hk y (Array.mem_toList_iff.mp hy);simp[DictEntry.refKey,hkey]
  have a':¬ es.toList.any (·.refKey)=true:=by rw[a];exact Bool.false_ne_true
  rw[if_neg a'];exact congrArg some e
theorem ObjM.look{h:Heap}{x dx C:Addr}{mA:Str->Option Value}(I:ObjM h x dx C mA):∃ od,PySem.W.InstAt h x (PySem.W.instObj C dx) C (some od)/\∀ name,PySem.W.lookIn name od=some (mA name) :=
 let ⟨od,ho,hl⟩:=S5 I.ns
 ⟨od,⟨I.obj,rfl,rfl,ho⟩,hl⟩
section
variable {prog:Program}{w:World}{A:Around}{E:Value->Shared->Prop}{s:Shared}{K:PySem.W.Frag}{x dx C f:Addr}{mA:Str->Option Value}{name:Str}{v:Value}
theorem uQ{expr:Bool}{Q:Value->Shared->Prop}(X:K.In s.heap)(I:ObjM s.heap x dx C mA)(hg:PySem.W.plainGet K C name=true)(hh:PySem.W.hasDictIn K C=true)
  (ha:PySem.W.findIn K (.ref C) name=some none) (hv:mA name=some v) (hv':PySem.W.handedIn v=true) (h:Q v {s with toks:=s.toks+1}) :
  wpAny (model prog w) A (getAttr (.ref x) name expr) Q E s:=by
 obtain⟨od,J,hl⟩:=I.look;exact PySem.W.get_value X J (PySem.W.plainGet_of hg).1 (PySem.W.findObj_own hh ha rfl (by rw[hl,hv])) hv' h
end
theorem RelO.some_of{v:V}{o:Option Value}(r:RelO (some v) o):∃ u,o=some u/\RelV v u:=by
 cases o with
 | none=>exact(show False from r).elim
 | some u=>exact⟨u,rfl,r⟩
structure Cls (K:PySem.W.Frag) (C:Addr):Prop where
 pg:PySem.W.plainGet K C Str.empty=true
 hd:PySem.W.hasDictIn K C=true
 po:PySem.W.plainOver K C=true
 sa:PySem.W.findIn K (.ref C) "__setattr__"=some (some (.builtin "object.__setattr__"))
theorem Cls.get{K:PySem.W.Frag}{C:Addr}(c:Cls K C)(f:Str):PySem.W.plainGet K C f=true:=c.pg
section
variable {X:Cx}{pins:List (Addr×Obj)}{σ:St}{H:Hp}{s:Shared}{a C dx:Addr}{fs:List (Str×V)}{f:Str}{v:V}{A:Around}{E:Value->Shared->Prop}
theorem Inv.made(I:Inv X pins σ H s):Inv X pins σ (upd (upd H s.heap.objs.size (.own (s.heap.objs.size+1))) (s.heap.objs.size+1) (.ins C s.heap.objs.size []))
  {s with heap:=(s.heap.push PySem.W.emptyDict).push (PySem.W.instObj C s.heap.objs.size)}:=by
 have e1:(s.heap.push PySem.W.emptyDict).get? s.heap.objs.size=some PySem.W.emptyDict:=Heap.get?_push_size s.heap rfl
 have e2:((s.heap.push PySem.W.emptyDict).push (PySem.W.instObj C s.heap.objs.size)).get? (s.heap.objs.size+1)=some (PySem.W.instObj C s.heap.objs.size):=by
  have:=Heap.get?_push_size (s.heap.push PySem.W.emptyDict) (o:=PySem.W.instObj C s.heap.objs.size) rfl
  rwa [Heap.size_push]at this
 have e3:(s.heap.push PySem.W.emptyDict).Ns s.heap.objs.size (fun _=>none):=⟨PySem.W.emptyDict,#[],_,e1,rfl,(fun e he=>absurd he (by simp)),fun _=>rfl⟩
 have I1:=I.laid (a:=s.heap.objs.size) (o:=.own (s.heap.objs.size+1)) (h':=s.heap.push PySem.W.emptyDict) (t':=s.toks) (fun b u q=>Heap.get?_push_of_some _ q) (Nat.le_refl _) ⟨_,e1⟩
 refine I1.laid (a:=s.heap.objs.size+1) (o:=.ins C s.heap.objs.size []) (t':=s.toks) (fun b u q=>Heap.get?_push_of_some _ q) (Nat.le_of_eq (Heap.size_push _ _)) ?_;have ne:s.heap.objs.size≠s.heap.objs.size+1:=Nat.ne_of_lt (Nat.lt_succ_self _)
 refine⟨by rw[bR ne,cX],Nat.zero_le _,ne,e2,fun _=>none,(Heap.Ns1.of_empty e3).at fun o q=>Heap.get?_push_of_some _ q,fun _=>True.intro,fun y hy=>absurd rfl hy⟩
end
end L2
namespace L2
open PySem PySem.Spec PyProof.Rows
structure Room (k:Nat) (A:Around):Prop where
 hd:A.handled=none
 gd:A.guards=some []
 dp:A.depth+3*k+5<recursionLimit
 un:A.units+16*k+200<cLine
theorem Room.mono{j k:Nat}{A:Around}(r:Room k A)(h:j<=k):Room j A:=⟨r.hd,r.gd,by have:=r.dp;omega,by have:=r.un;omega⟩
theorem Room.deeper{k:Nat}{A:Around}(r:Room (k+1) A)(env:Env):Room k (A.deeper env) :=
 ⟨r.hd,r.gd,by have:=r.dp;show A.depth+1+3*k+5<_;omega,by have:=r.un;show A.units+3+16*k+200<_;omega⟩
theorem Room.in1{k:Nat}{A:Around}(r:Room (k+1) A):Room k A.in1 :=
 ⟨r.hd,r.gd,by have:=r.dp;show A.depth+3*k+5<_;omega,by have:=r.un;show A.units+1+16*k+200<_;omega⟩
theorem Room.depth{k:Nat}{A:Around}(r:Room k A):A.depth<recursionLimit:=by have:=r.dp;omega
theorem Room.units{k:Nat}{A:Around}(r:Room k A):A.units+64<cLine:=by have:=r.un;omega
def Qw:TA:=fun _ H Q=>Q [] H
def V3(ta:TE)(tr:TA):TA:=fun σ H Q=>ta σ H fun x H1=>tr σ H1 fun xs H2=>Q (x::xs) H2
section
variable {X:Cx}{e:Expr}{es:List Expr}{te:TE}{t:TA}{pos:Pos}
theorem iH:PA X [] Qw:=fun _ _ _ _ H Q I h=>Calls.spliced_nil ⟨[],H,I,.nil,h⟩
theorem gZ(ha:PE X e te)(hr:PA X es t)(hs:starEach (e::es) X.env=(false,eval e X.env)::starEach es X.env:=by rfl):PA X (e::es) (V3 te t):=by
 intro pos pins s σ H Q I h;rw[hs];show wpAny _ _ (spliced ((false,eval e X.env)::backTo pos (starEach es X.env))) _ _ s
 refine Calls.spliced_cons (bA (ha pins s σ H _ I h) fun u s1 ⟨x,H1,I1,r1,q1⟩=>?_);exact bA (hr pos pins s1 σ H1 _ I1 q1) fun us s2 ⟨xs,H2,I2,r2,q2⟩=>⟨x::xs,H2,I2,.cons r1 r2,q2⟩
def Uv(t:TA):TE:=fun σ H Q=>t σ H fun xs H1=>xs.length<=sizeLine/\∀ p,H1 p=none->Q (.ref p) (upd H1 p (.tup xs))
theorem Wp{x1}(h:PA X es t):PE X (.Tuple es x1 pos) (Uv t):=by
 intro pins s σ H Q I hq;refine wpAny_Tuple_spliced (bA (h pos pins s σ H _ I hq) fun us s1 ⟨xs,H1,I1,r,z,q⟩=>⟨by rw[<- r.length];exact z,?_⟩)
 have hf:H1 s1.heap.objs.size=none:=I1.hok.fresh (Nat.le_refl _)
 refine⟨.ref s1.heap.objs.size,upd H1 s1.heap.objs.size (.tup xs),I1.laid (t':=s1.toks) (fun b u e=>Heap.get?_push_of_some _ e) (Nat.le_refl _) ?_,rfl,q _ hf⟩;exact⟨⟨z,NoD.new _ _ _⟩,us,r,⟨_,Heap.get?_push_size _ rfl,rfl,_,rfl⟩⟩
end
abbrev Sp:=List V->Hp->VK->XK->Prop
abbrev gR:=List Env->Hp->Shared->XK->Value->Shared->Prop
structure Env0 (P:Program) (w:World) (K:PySem.W.Frag) (mg:Str->Option Value) (base:Heap) (A:Around) (outer:List Env) (s:Shared) (H:Hp):Prop where
 frames:A.frames=some outer
 mod:Mod K mg base
 bs:∀ b o,base.get? b=some o->s.heap.get? b=some o/\H b=none
 bsz:base.objs.size<=s.heap.objs.size
 funs:s.heap.FunFrames base outer
 frf:∀ b∈gU outer,H b=none
 hok:HOk P w H s.heap
 bare:AllBare s.gens
def CE(outer:List Env)(P:Program)(w:World)(H:Hp)(s:Shared)(Q:VK)(u:Value)(s':Shared):Prop :=
 ∃ v H',s'.os=s.os/\AllBare s'.gens/\Un (gU outer) [] H H' s.heap s'.heap/\HOk P w H' s'.heap/\RelV v u/\Q v H'
def CR(CX:gR)(outer:List Env)(P:Program)(w:World)(H:Hp)(s:Shared)(Q:VK)(E:XK)(r:Result)(s':Shared):Prop :=
 match r with
 | .ok (.ret u)=>CE outer P w H s Q u s'
 | .ok _=>False
 | .error e=>CX outer H s E e s'
structure FnOk (P:Program) (w:World) (K:PySem.W.Frag) (mg:Str->Option Value) (base:Heap) (CX:gR) (k:Nat) (f:Addr) (fd:FuncData) (ps:List Str) (sp:Sp):Prop where
 len:∀ vs H Q E,sp vs H Q E->vs.length=ps.length
 run:∀ (A:Around) (outer:List Env) (s:Shared) (H:Hp) (args:Args) (us:List Value) (vs:List V) (Q:VK) (E:XK),Room k A->Env0 P w K mg base A outer s H->BindsTo s fd args (ps.zip us)->Vals vs us->sp vs H Q E ->
  codeAny (model P w) A (.call (.ref f) args) (CR CX outer P w H s Q E) s
theorem FnOk.mono{P:Program}{w:World}{K:PySem.W.Frag}{mg:Str->Option Value}{base:Heap}{CX:gR}{j k:Nat}{f:Addr}{fd:FuncData}{ps:List Str}{sp:Sp}(F:FnOk P w K mg base CX j f fd ps sp)(h:j<=k) :
  FnOk P w K mg base CX k f fd ps sp:=⟨F.len,fun A outer s H args us vs Q E hr=>F.run A outer s H args us vs Q E (hr.mono h)⟩
theorem FnOk.imp{P:Program}{w:World}{K:PySem.W.Frag}{mg:Str->Option Value}{base:Heap}{CX:gR}{k:Nat}{f:Addr}{fd:FuncData}{ps:List Str}{sp sp':Sp}(F:FnOk P w K mg base CX k f fd ps sp)
  (h:∀ vs H Q E,sp' vs H Q E->sp vs H Q E):FnOk P w K mg base CX k f fd ps sp' :=
 ⟨fun vs H Q E q=>F.len vs H Q E (h _ _ _ _ q),fun A outer s H args us vs Q E hr he hb hv hs=>F.run A outer s H args us vs Q E hr he hb hv (h _ _ _ _ hs)⟩
theorem Env0.in1{P:Program}{w:World}{K:PySem.W.Frag}{mg:Str->Option Value}{base:Heap}{A:Around}{outer:List Env}{s:Shared}{H:Hp}(e:Env0 P w K mg base A outer s H) :
  Env0 P w K mg base A.in1 outer s H:=⟨e.frames,e.mod,e.bs,e.bsz,e.funs,e.frf,e.hok,e.bare⟩
section
variable {X:Cx}{pins:List (Addr×Obj)}{σ:St}{H:Hp}{s s':Shared}
theorem Inv.env0(I:Inv X pins σ H s):Env0 X.prog X.w X.K X.mg X.base X.A X.stack s H :=
 ⟨I.ok.frames,I.ok.mod,I.bs,Nat.le_trans I.ok.bsz I.sz,I.stack,I.stkFree,I.hok,I.bare⟩
theorem Inv.after{Q:VK}{u:Value}(I:Inv X pins σ H s)(h:CE X.stack X.prog X.w H s Q u s'):EP X pins σ Q u s':=by
 obtain⟨v,H',os,bare,un,hok,r,q⟩:=h;obtain⟨hh,g,d,t,os'⟩:=s';obtain rfl:os'=s.os:=os;exact⟨v,H',I.call (h':=hh) (g':=g) (d':=d) (t':=t) (ch:=[]) un hok bare (fun b z=>absurd z (by simp)),r,q⟩
end
def Rv(sp:Sp)(dvs:List V)(E:XK)(t:TA):TE:=fun σ H Q=>t σ H fun vs H1=>sp (vs++dvs) H1 Q E
def Binds(K:PySem.W.Frag)(fd:FuncData)(ps:List Str)(ds:List Value):Prop :=
 ∀ (s:Shared) (us:List Value),K.In s.heap->(us++ds).length=ps.length->BindsTo s fd ⟨us,[]⟩ (ps.zip (us++ds))
theorem Binds.all{K:PySem.W.Frag}{fd:FuncData}{ps:List Str}(h:∀ us:List Value,us.length=ps.length->bindArgs fd ⟨us,[]⟩=pure (ps.zip us)):Binds K fd ps []:=fun s us _ hl=>by
 rw[List.append_nil]at hl ⊢;exact .of_eq (h us hl)
def Ci(CX:gR)(X:Cx)(E:XK):Prop:=∀ (pins:List (Addr×Obj)) (σ:St) (H:Hp) (s:Shared) (e:Value) (s':Shared),Inv X pins σ H s->CX X.stack H s E e s'->X.xe e s'
section
variable {X:Cx}{CX:gR}{k:Nat}{f C:Addr}{fd:FuncData}{ps:List Str}{sp:Sp}{dvs:List V}{ds:List Value}{E:XK}{x m:Str}{p pos apos:Pos}{e o:Expr}{es:List Expr}{ta:TE}{t:TA}
theorem AK{pins:List (Addr×Obj)}{σ:St}{H:Hp}{s:Shared}{Q:VK}{us:List Value}{vs:List V}(F:FnOk X.prog X.w X.K X.mg X.base CX k f fd ps sp)(hr:Room k X.A)(hb:Binds X.K fd ps ds)(hd:Vals dvs ds)(hx:Ci CX X E)
  (I:Inv X pins σ H s) (r:Vals vs us) (h:sp (vs++dvs) H Q E):wpAny (model X.prog X.w) X.A (call (.ref f) us) (EP X pins σ Q) X.xe s:=by
 have r2:Vals (vs++dvs) (us++ds):=r.append hd
 have hl:(us++ds).length=ps.length:=by rw[<- r2.length];exact F.len _ _ _ _ h
 refine wpAny_call (codeAny_mono (F.run X.A X.stack s H ⟨us,[]⟩ (us++ds) (vs++dvs) Q E hr I.env0 (hb s us I.kIn hl) r2 h) fun r s' hq=>?_)
 cases r with
 | error e=>exact hx pins σ H s e s' I hq
 | ok fl =>
  cases fl with
  | ret u=>exact I.after hq
  | next=>exact False.elim hq
  | brk=>exact False.elim hq
  | cont=>exact False.elim hq
theorem A7(F:FnOk X.prog X.w X.K X.mg X.base CX k f fd ps sp)(hr:Room k X.A)(hg:Gl X x)(hm:X.mg x=some (.ref f))(hk:PySem.W.keepIn X.K (.ref f)=true)(hb:Binds X.K fd ps ds)(hd:Vals dvs ds)(hx:Ci CX X E)
  (ha:PA X (e::es) t) (hdb:(x==("__debug__" : Str))=false:=by decide) (he:starEach (e::es) X.env=(false,eval e X.env)::starEach es X.env:=by rfl) (hpl:(backTo pos (starEach es X.env)).any (·.1)=false:=by rfl) :
  PE X (.Call (.Name x p) (e::es) [] pos) (Rv sp dvs E t):=by
 intro pins s σ H Q I h;refine wpAny_Call_Name_kw (Jr I hg hm ?_ hdb);refine PySem.W.callWith_K (h₀:=X.base) I.ok.mod.kin hk (bA (ha pos pins s σ H _ I h) fun us s1 ⟨vs,H1,I1,r,q⟩=>⟨I1.kIn,?_⟩) he hpl;exact AK F hr hb hd hx I1 r q
end
structure FnScope (N P:List Str) (sc:Scope):Prop where
 kind:sc.kind=.function
 co:sc.isCoroutine=false
 gen:sc.isGenerator=false
 nd:N.Nodup
 pre:N.take P.length=P
 par:∀ x∈P,sc.names.lookup x=some .local\/sc.names.lookup x=some .cell
 nofree:∀ y∈sc.names,y.2≠.free
theorem Me{kindOf:Str->Option NameKind}{x:Str}:∀ {binds:List (Str×Value)} {m:Str->Option Value},(∀ v,(x,v)∉binds)->bindL kindOf binds m x=m x
 | [],_,_=>rfl
 | (n,v)::r,m,h=>by
  unfold bindL;rw[Me fun w hw=>h w (List.mem_cons_of_mem _ hw)]
  split
  ·have:x≠n:=by rintro rfl;exact h v List.mem_cons_self
   simp[this]
  ·rfl
theorem Jv{kindOf:Str->Option NameKind}{x:Str}:∀ {binds:List (Str×Value)} {m:Str->Option Value},(∀ v,(x,v)∉binds)->bindC kindOf binds m x=m x
 | [],_,_=>rfl
 | (n,v)::r,m,h=>by
  unfold bindC;rw[Jv fun w hw=>h w (List.mem_cons_of_mem _ hw)]
  split
  ·rfl
  ·have:x≠n:=by rintro rfl;exact h v List.mem_cons_self
   simp[this]
theorem Fm{kindOf:Str->Option NameKind}{x:Str}{v:Value}:∀ {P:List Str} {vs:List Value} {i:Nat} {m:Str->Option Value},P.Nodup->P[i]?=some x->vs[i]?=some v->kindOf x=some .local ->
  bindL kindOf (P.zip vs) m x=some v
 | [],_,_,_,_,h,_,_=>by simp at h
 | _::_,[],_,_,_,_,h,_=>by simp at h
 | p::P,w::vs,0,m,nd,h1,h2,hk=>by
  simp at h1 h2;subst h1;subst h2;show bindL kindOf ((p,w)::P.zip vs) m p=_
  unfold bindL;rw[Me fun v hv=>(List.nodup_cons.mp nd).1 (List.of_mem_zip hv).1,if_pos hk];simp
 | p::P,w::vs,i+1,m,nd,h1,h2,hk=>by
  show bindL kindOf ((p,w)::P.zip vs) m x=_
  unfold bindL;exact Fm (i:=i) (List.nodup_cons.mp nd).2 (by simpa using h1) (by simpa using h2) hk
theorem Oo{kindOf:Str->Option NameKind}{x:Str}{v:Value}:∀ {P:List Str} {vs:List Value} {i:Nat} {m:Str->Option Value},P.Nodup->P[i]?=some x->vs[i]?=some v->kindOf x≠some .local ->
  bindC kindOf (P.zip vs) m x=some v
 | [],_,_,_,_,h,_,_=>by simp at h
 | _::_,[],_,_,_,_,h,_=>by simp at h
 | p::P,w::vs,0,m,nd,h1,h2,hk=>by
  simp at h1 h2;subst h1;subst h2;show bindC kindOf ((p,w)::P.zip vs) m p=_
  unfold bindC;rw[Jv fun v hv=>(List.nodup_cons.mp nd).1 (List.of_mem_zip hv).1,if_neg hk];simp
 | p::P,w::vs,i+1,m,nd,h1,h2,hk=>by
  show bindC kindOf ((p,w)::P.zip vs) m x=_
  unfold bindC;exact Oo (i:=i) (List.nodup_cons.mp nd).2 (by simpa using h1) (by simpa using h2) hk
def start(N:List Str)(vs:List V):St:=vs.map some++List.replicate (N.length-vs.length) none
def kD(CX:gR)(P:Program)(w:World)(K:PySem.W.Frag)(mg:Str->Option Value)(base:Heap)(N:List Str)(qual:Str)(scope:Scope)(f:Addr)(cd:Value)(A:Around)(outer:List Env)(s:Shared)(H:Hp)(E:XK):Cx where
 prog:=P
 w:=w
 K:=K
 mg:=mg
 base:=base
 A:=A.deeper (envOfC qual scope s.heap.objs.size f cd)
 N:=N
 s₀:=s
 H₀:=H
 env:=envOfC qual scope s.heap.objs.size f cd
 outer:=outer
 stack:=envOfC qual scope s.heap.objs.size f cd::outer
 ex:=[]
 calm:=true
 fn:=fun _=>true
 pn:=[]
 xe:=fun e s'=>wpAny (model P w) (A.deeper (envOfC qual scope s.heap.objs.size f cd)) («leaving» (envOfC qual scope s.heap.objs.size f cd) e) (fun _ s''=>CX outer H s E e s'') (fun e' s''=>CX outer H s E e' s'') s'
theorem Ie{sc:Scope}{n:Nat}{x:Str}(h:sc.names.lookup x=some .cell):∃ c,(cellsFrom n sc.names []).lookup x=some c:=by
 have q:=PySem.W.cellsFrom_some sc.names n [] (.inl h)
 exact Option.isSome_iff_exists.mp q
theorem E9{CX:gR}{P:Program}{w:World}{K:PySem.W.Frag}{mg:Str->Option Value}{base:Heap}{N ps:List Str}{qual:Str}{scope:Scope}{f:Addr}{cd:Value}{A:Around}{outer:List Env}{s s1:Shared}{H:Hp}{E:XK}{us:List Value}{vs:List V}
  (S:FnScope N ps scope) (hd:A.handled=none) (e0:Env0 P w K mg base A outer s H) (hl:vs.length=ps.length) (r:Vals vs us)
  (x:InCallC s s.heap.objs.size (bindL (envOfC qual scope s.heap.objs.size f cd).kindOf (ps.zip us) fun _=>none) (cellsFrom (s.heap.objs.size+1) scope.names []) (bindC (envOfC qual scope s.heap.objs.size f cd).kindOf (ps.zip us) fun _=>none) s1) :
  Inv (kD CX P w K mg base N qual scope f cd A outer s H E) [] (start N vs) H s1:=by
 have hpl:ps.length<=N.length:=by have:=congrArg List.length S.pre;rw[List.length_take]at this;omega
 obtain⟨h1,tk,rfl,hk⟩:=x.done;have noA:∀ b:Addr,b∉(kD CX P w K mg base N qual scope f cd A outer s H E).ex:=fun b z=>absurd (show b∈([]:List Addr) from z) (by simp)
 refine⟨⟨e0.mod,S.kind,rfl,rfl,Nat.le_refl _,fun y z c h1 h2=>?_,fun y hy=>?_,fun y c _ h=>?_,fun _=>hd,Around.frames_deeper e0.frames,.inr ⟨rfl,rfl⟩,fun b z=>absurd z (noA b),e0.bs,e0.bsz,fun b _ _=>noA b,fun b z=>absurd z (noA b),e0.funs,e0.frf⟩,
  rfl,e0.bare,Un.kept hk,⟨_,x.toInCall.ns,fun i y v h1 h2 h3=>?_⟩,fun y c h=>⟨_,x.cell y c h⟩,e0.hok.fresh (Nat.le_refl _),fun y c h=>?_,fun p hp=>absurd (show p∈([]:List (Addr×Obj)) from hp) (by simp),e0.hok.kept hk,?_⟩
 ·exact name_of_addr x.apart (PySem.mem_of_lookup h1) (PySem.mem_of_lookup h2)
 ·have hy:scope.names.lookup y=some .cell\/scope.names.lookup y=some .free:=hy
  rcases hy with hy | hy
  ·exact Ie hy
  ·exact absurd rfl (S.nofree _ (PySem.mem_of_lookup hy))
 ·exact Nat.le_of_lt (x.above y c (PySem.mem_of_lookup h))
 ·have hi:i<vs.length:=by
   unfold start at h2
   by_cases hi:i<vs.length
   ·exact hi
   ·rw[List.getElem?_append_right (by simpa using hi)]at h2
    rw[List.getElem?_replicate]at h2
    split at h2<;>cases h2
  have ha:vs[i]?=some v:=by
   unfold start at h2;rw[List.getElem?_append_left (by simpa using hi),List.getElem?_map]at h2
   cases e:vs[i]? with
   | none=>rw[e]at h2;cases h2
   | some a=>rw[e]at h2;cases h2;rfl
  obtain⟨u,hu,rv⟩:=r.get ha;have hp:ps[i]?=some y:=by
   rw[<- S.pre,List.getElem?_take_of_lt (by omega)];exact h1
  have ndP:ps.Nodup:=by rw[<- S.pre];exact S.nd.sublist (List.take_sublist _ _)
  refine⟨u,rv,?_⟩;rcases S.par y (List.mem_of_getElem? hp) with k | k
  ·exact .inl ⟨k,Fm ndP hp hu k⟩
  ·obtain⟨c,e⟩:=Ie (n:=s.heap.objs.size+1) k;refine .inr ⟨.inl k,c,e,?_⟩;have q:=x.cell y c e
   rw[Oo ndP hp hu (by show scope.names.lookup y≠_;rw[k];decide)]at q
   exact q
 ·exact e0.hok.fresh (Nat.le_of_lt (x.above y c (PySem.mem_of_lookup h)))
 ·unfold start;show _=N.length
  rw[List.length_append,List.length_map,List.length_replicate];omega
theorem Xp{CX:gR}{P:Program}{w:World}{K:PySem.W.Frag}{mg:Str->Option Value}{base:Heap}{k:Nat}{f:Addr}{name qual:Str}{params:Arguments}{body:List Stmt}{scope:Scope}{dV kV doc pm cdv ct oc:Value}{an od:Option Addr}
  {osl:Array (Option Value)} {N ps:List Str} {sp:Sp} (lk:K.lookup f=some ⟨oc,od,.func (PySem.W.fnOf name qual params body scope dV kV doc pm an cdv ct),osl⟩) (hcd:PySem.W.codeIn K cdv qual=true) (S:FnScope N ps scope)
  (len:∀ vs H Q E,sp vs H Q E->vs.length=ps.length)
  (hbody:∀ (A:Around) (outer:List Env) (s:Shared) (H:Hp) (vs:List V) (Q:VK) (E:XK),Room k (A.deeper (envOfC qual scope s.heap.objs.size f cdv))->sp vs H Q E ->
   ∃ t,PSs (kD CX P w K mg base N qual scope f cdv A outer s H E) body t/\t {nx:=fun _ H'=>Q .non H',rt:=Q} (start N vs) H) :
  FnOk P w K mg base CX (k+1) f (PySem.W.fnOf name qual params body scope dV kV doc pm an cdv ct) ps sp:=by
 refine⟨len,fun A outer s H args us vs Q E hr e0 hb r hsp=>?_⟩;have hl:=len _ _ _ _ hsp
 have KX:K.In s.heap:=e0.mod.kin.keeps fun b o e=>(e0.bs b o e).1
 have lim:s.heap.NoLimit:=e0.mod.nolimit.keeps fun b o e=>(e0.bs b o e).1
 have hkind:∀ y∈ps.zip us,scope.names.lookup y.1=some .local\/(scope.names.lookup y.1=some .cell/\((cellsFrom (s.heap.objs.size+1) scope.names []).lookup y.1).isSome=true):=fun⟨n,v⟩ hy=>by
  rcases S.par n (List.of_mem_zip hy).1 with q | q
  ·exact .inl q
  ·exact .inr ⟨q,PySem.W.cellsFrom_some _ _ _ (.inl q)⟩
 refine codeAny_call_function hr.depth (KX _ _ lk) rfl S.co S.gen rfl (PySem.W.codeRec_of KX hcd) (hb _ _ _ _ ?_);refine wpAny_newFunctionEnv_cells S.kind hkind fun env he s1 x=>?_;subst he;refine⟨lim.keeps x.toInCall.keep,codeAny_func ?_⟩;obtain⟨t,ht,hq⟩:=hbody A outer s H vs Q E (hr.deeper _) hsp;have I:Inv (kD CX P w K mg base N qual scope f cdv A outer s H E) [] (start N vs) H s1:=E9 S hr.hd e0 hl r x
 refine wpAny_mono (ht [] s1 (start N vs) H _ I hq) (fun fl s' hs=>?_) fun e s' hs=>hs;have fin:∀ {σ':St} {H':Hp} {v:V} {u:Value},Inv (kD CX P w K mg base N qual scope f cdv A outer s H E) [] σ' H' s'->RelV v u->Q v H'->CE outer P w H s Q u s' :=
  fun {σ' H' v u} J rv q=>⟨v,H',J.os,J.bare,J.base,J.hok,rv,q⟩
 cases fl with
 | ret u =>
  obtain⟨v,σ',H',J,rv,q⟩:=hs;exact fin J rv q
 | next =>
  obtain⟨σ',H',J,q⟩:=hs;exact fin (v:=V.non) (u:=Value.none) J rfl q
 | brk =>
  obtain⟨_,_,_,q⟩:=hs;exact False.elim q
 | cont =>
  obtain⟨_,_,_,q⟩:=hs;exact False.elim q
end L2
namespace L2
open PySem PySem.Spec PyProof.Rows
section
variable {X:Cx}{x:Str}{p pos:Pos}{e:Expr}{es:List Expr}{t:TA}{id T:String}{r:List V->Hp->VK->Prop}
def Lq(r:List V->Hp->VK->Prop)(t:TA):TE:=fun σ H Q=>t σ H fun vs H1=>r vs H1 Q
theorem FG(hc:CallR X (.builtin id) r)(hg:Gl X x)(hm:X.mg x=none)(hv:bootBuiltins x=some (.builtin id))(ha:PA X (e::es) t)(hn:x≠"__name__":=by decide)(hdb:(x==("__debug__" : Str))=false:=by decide)
  (he:starEach (e::es) X.env=(false,eval e X.env)::starEach es X.env:=by rfl) (hpl:(backTo pos (starEach es X.env)).any (·.1)=false:=by rfl):PE X (.Call (.Name x p) (e::es) [] pos) (Lq r t):=by
 intro pins s σ H Q I h;refine wpAny_Call_Name_kw (gQ I hg hm hv ?_ hn hdb);exact PyProof.Rows.callWith_builtin1 (bA (ha pos pins s σ H _ I h) fun us s1 ⟨vs,H1,I1,r1,q1⟩=>hc pins s1 σ H1 vs us Q I1 r1 q1) he hpl
theorem U2(hc:CallR X (.type T) r)(hg:Gl X x)(hm:X.mg x=none)(hv:bootBuiltins x=some (.type T))(ha:PA X (e::es) t)(hn:x≠"__name__":=by decide)(hdb:(x==("__debug__" : Str))=false:=by decide)
  (he:starEach (e::es) X.env=(false,eval e X.env)::starEach es X.env:=by rfl) (hpl:(backTo pos (starEach es X.env)).any (·.1)=false:=by rfl):PE X (.Call (.Name x p) (e::es) [] pos) (Lq r t):=by
 intro pins s σ H Q I h;refine wpAny_Call_Name_kw (gQ I hg hm hv ?_ hn hdb);exact PyProof.Rows.callWith_type1 (bA (ha pos pins s σ H _ I h) fun us s1 ⟨vs,H1,I1,r1,q1⟩=>hc pins s1 σ H1 vs us Q I1 r1 q1) he hpl
end
end L2
namespace HT
open PySem PyProof.Rows
section
variable {prog:Program}{w:World}{A:Around}{E:Value->Shared->Prop}{s:Shared}
theorem cat_tup{t b:Addr}{vs ws:List Value}{Q:Value->Shared->Prop}(ht:IsTup s.heap t vs.toArray)(hb:IsTup s.heap b ws.toArray)(hv:vs≠[])
  (h1:ws=[]->Q (.ref t) s) (h2:ws≠[]->Q (.ref s.heap.objs.size) {s with heap:=s.heap.push {cls:=.type "tuple",data:=.seq (vs++ws).toArray}})
  (hsz:vs.length+ws.length<=sizeLine):wpAny (model prog w) A (binaryOp .Add (.ref t) (.ref b)) Q E s:=by
 obtain⟨⟨cls,dd,data,sl⟩,ho,hc,n,hd⟩:=id ht;obtain⟨⟨cls2,dd2,data2,sl2⟩,ho2,hc2,n2,hd2⟩:=id hb;simp only at hc hd hc2 hd2;subst hc hd hc2 hd2;have e:vs.toArray++ws.toArray=(vs++ws).toArray:=by simp
 by_cases hw:ws=[]
 ·exact concat_meets ⟨_,ho,rfl⟩ ⟨_,ho2,rfl⟩ noFill_tuple_add seq_tuple_add PySem.F.slot_tuple_add PySem.F.entry_tuple_add (PySem.F.args_tuple_add_2 _ _)
   (tuple_addW1 t b vs.toArray ws.toArray n n2 dd dd2 sl sl2 (by simpa using hv) (by simp[hw])) ⟨ho,ho2,h1 hw⟩
 ·refine concat_meets ⟨_,ho,rfl⟩ ⟨_,ho2,rfl⟩ noFill_tuple_add seq_tuple_add PySem.F.slot_tuple_add PySem.F.entry_tuple_add (PySem.F.args_tuple_add_2 _ _)
   (tuple_addW2 t b vs.toArray ws.toArray n n2 dd dd2 sl sl2 (by simpa using hv) (by simpa using hw) (by rw[List.size_toArray,List.size_toArray];exact hsz)) ⟨ho,ho2,?_⟩
  rw[e];exact h2 hw
def sIx(n d:Nat):Option Int->Nat
 | none=>d
 | some v=>if v<0 then (v+(n:Int)).toNat else min v.toNat n
theorem sIx_none(n d:Nat):sIx n d none=d:=rfl
theorem sIx_nat(n d k:Nat):sIx n d (some (k:Int))=min k n:=by
 show(if (k:Int)<0 then ((k:Int)+(n:Int)).toNat else min (k:Int).toNat n)=min k n
 rw[if_neg (by omega),Int.toNat_natCast]
theorem Q0(n d:Nat)(hd:d<=n)(o:Option Int):sIx n d o<=n:=by
 cases o with
 | none=>exact hd
 | some v =>
  show(if v<0 then (v+(n:Int)).toNat else min v.toNat n)<=n
  by_cases hv:v<0
  ·rw[if_pos hv];omega
  ·rw[if_neg hv];exact Nat.min_le_right _ _
theorem Hz(v:Int)(n d:Nat):(if v<0 then max (v+(n:Int)) 0 else min v (n:Int))=((sIx n d (some v):Nat):Int):=by
 show(if v<0 then max (v+(n:Int)) 0 else min v (n:Int))=(((if v<0 then (v+(n:Int)).toNat else min v.toNat n):Nat):Int)
 by_cases hv:v<0
 ·simp only[if_pos hv];omega
 ·simp only[if_neg hv];omega
theorem CF(lo hi:Option Int)(n:Nat):Builtin.Slice.sliceAdjust lo hi 1 (n:Int)=(((sIx n 0 lo:Nat):Int),((sIx n n hi:Nat):Int)):=by
 have h1:¬ ((1:Int)<0):=by omega
 unfold Builtin.Slice.sliceAdjust;simp only[h1,if_false];refine Prod.ext ?_ ?_
 ·cases lo with
  | none=>rfl
  | some v=>exact Hz v n 0
 ·cases hi with
  | none=>rfl
  | some v=>exact Hz v n n
theorem Y8(i j:Nat):Builtin.Slice.slicePlaces (i:Int) (j:Int) 1=j-i:=by
 unfold Builtin.Slice.slicePlaces;have h1:(1:Int) > 0:=by omega
 simp only[h1,if_true,Int.ediv_one]
 split<;>omega
theorem Ly{v:Value}{o:Option Int}{Q:Option Int->Shared->Prop}(p:IsPart v o)(h:Q o s):wpAny (model prog w) A (Builtin.Slice.slicePartIndex v) Q E s:=by
 cases p with
 | none=>exact slicePart_none h
 | int i t=>exact slicePart_int h
theorem sliceApplied_gen{sl:Addr}{vl vu:Value}{lo hi:Option Int}{n:Nat}{Q:Int×Int×Nat->Shared->Prop}(hs:s.heap.IsSliceOf sl vl vu .none)(pl:IsPart vl lo)(pu:IsPart vu hi)
  (h:Q (((sIx n 0 lo:Nat):Int),1,sIx n n hi-sIx n 0 lo) s):wpAny (model prog w) A (Builtin.Slice.sliceApplied (.ref sl) (pure (n:Int))) Q E s:=by
 obtain⟨os,hos,hcs,hds⟩:=id hs;unfold Builtin.Slice.sliceApplied Builtin.Slice.sliceFields;refine wpAny_bind (wpAny_bind (wpAny_field hos hds (x:=vl) rfl (wpAny_bind (wpAny_field hos hds (x:=vu) rfl (wpAny_bind (wpAny_field hos hds (x:=.none) rfl (wpAny_pure ?_)))))));refine wpAny_bind (slicePart_none ?_);show wpAny _ _ (if ((1:Int)==0)=true then _ else _) _ _ s
 rw[if_neg (by decide)]
 refine wpAny_bind (Ly pl (wpAny_bind (Ly pu (wpAny_bind (wpAny_pure ?_)))));show wpAny _ _ (match Builtin.Slice.sliceAdjust lo hi 1 (n:Int) with | (lo,hi)=>pure (lo,(1:Int),Builtin.Slice.slicePlaces lo hi 1)) _ _ s
 rw[CF lo hi n];show wpAny _ _ (pure (((sIx n 0 lo:Nat):Int),(1:Int),Builtin.Slice.slicePlaces ((sIx n 0 lo:Nat):Int) ((sIx n n hi:Nat):Int) 1)) _ _ s
 rw[Y8];exact wpAny_pure h
theorem Uw(xs:Array Value)(i k:Nat):((List.range k).filterMap fun(m:Nat)=>xs[((i:Int)+(m:Int)*1).toNat]?).toArray=((xs.toList.drop i).take k).toArray:=by
 have e:(fun(m:Nat)=>xs[((i:Int)+(m:Int)*1).toNat]?)=fun m=>xs[i+m]?:=by
  funext m
  have:((i:Int)+(m:Int)*1).toNat=i+m:=by omega
  rw[this]
 rw[e];have:=pick_run xs i k
 rw[List.filterMap_map]at this;have e2:((fun x=>xs[x]?)∘fun x=>i+x)=fun m=>xs[i+m]?:=rfl
 rw[e2]at this;rw[this]
theorem getItem_tuple_cut{t sl:Addr}{items:Array Value}{vl vu:Value}{lo hi:Option Int}{Q:Value->Shared->Prop}(ht:IsTup s.heap t items)(hs:s.heap.IsSliceOf sl vl vu .none)(pl:IsPart vl lo)(pu:IsPart vu hi)
  (hw:¬ (sIx items.size 0 lo=0/\sIx items.size items.size hi=items.size))
  (h:Q (.ref s.heap.objs.size) {s with heap:=s.heap.push {cls:=.type "tuple",data:=.seq ((items.toList.drop (sIx items.size 0 lo)).take (sIx items.size items.size hi-sIx items.size 0 lo)).toArray}})
  (hsz:items.size<=sizeLine):wpAny (model prog w) A (getItem (.ref t) (.ref sl)) Q E s:=by
 have htake:sizeOk (.seq ((items.toList.drop (sIx items.size 0 lo)).take (sIx items.size items.size hi-sIx items.size 0 lo)).toArray):=by
  show((items.toList.drop (sIx items.size 0 lo)).take (sIx items.size items.size hi-sIx items.size 0 lo)).toArray.size<=sizeLine
  rw[List.size_toArray,List.length_take,List.length_drop,Array.length_toList];omega
 have hj:sIx items.size items.size hi<=items.size:=Q0 _ _ (Nat.le_refl _) hi
 obtain⟨os,hos,hcs,hds⟩:=id hs;have hTs:s.TypeIs (.ref sl) "slice":=⟨os,hos,hcs⟩
 unfold getItem
 try with_reducible refine wpAny_holding ?_
 first | refine wpAny_bind (wpAny_pure ?_) | skip
 refine wpAny_bind (wpAny_sequenceKey ht.typeIs (by decide) ?_)
 refine wpAny_bind (wpAny_callSpecial?_slot (name:=Str.ofString "__getitem__") ht.typeIs PyProof.Rows.slot_tuple_getitem
  (wpAny_call_entry PyProof.Rows.slot_tuple_getitem ht.typeIs entry_tuple_getitem ?_ (args_tuple_getitem _ _)))
 show wpAny _ _ (Builtin.Tuple.tupleItemsOf (.ref t)>>=_) _ _ s
 refine wpAny_bind (tupleItemsOf_ ht ?_);refine wpAny_bind (wpAny_typeOf hTs ?_);rw[if_pos (by decide)]
 refine wpAny_bind (sliceApplied_gen hs pl pu ?_);have hno:¬ ((((sIx items.size 0 lo:Nat):Int)==0&&(1:Int)==1&&(sIx items.size items.size hi-sIx items.size 0 lo)==items.size)=true):=by
  intro q;rw[Bool.and_eq_true,Bool.and_eq_true]at q;have q1:((sIx items.size 0 lo:Nat):Int)=0:=eq_of_beq q.1.1
  have q2:sIx items.size items.size hi-sIx items.size 0 lo=items.size:=eq_of_beq q.2
  exact hw ⟨by omega,by omega⟩
 show wpAny _ _ (if (((sIx items.size 0 lo:Nat):Int)==0&&(1:Int)==1&&(sIx items.size items.size hi-sIx items.size 0 lo)==items.size)=true then _ else _) _ _ s
 rw[if_neg hno,Uw]
 first
  | exact wpAny_bind (m:=Builtin.Tuple.tupleExact _) (wpAny_newObj_type (wpAny_pure ⟨_,rfl,wpAny_pure h⟩) htake)
  | exact wpAny_bind (m:=Builtin.Tuple.tupleExact _) (wpAny_newObj_type (wpAny_bind (wpAny_pure (wpAny_pure ⟨_,rfl,wpAny_pure h⟩))) htake)
  | exact wpAny_bind (wpAny_bind (m:=Builtin.Tuple.tupleExact _) (wpAny_newObj_type (wpAny_pure (wpAny_pure ⟨_,rfl,wpAny_pure h⟩)) htake))
  | exact wpAny_bind (wpAny_bind (m:=Builtin.Tuple.tupleExact _) (wpAny_newObj_type (wpAny_pure ⟨_,rfl,wpAny_pure h⟩) htake))
end
end HT
namespace L2
open PySem PySem.Spec PyProof.Rows
abbrev TO:=St->Hp->(Option Int->Hp->Prop)->Prop
def PO(X:Cx)(e:Option Expr)(t:TO):Prop :=
 ∀ (pins:List (Addr×Obj)) (s:Shared) (σ:St) (H:Hp) (Q:Option Int->Hp->Prop),Inv X pins σ H s->t σ H Q ->
  wpAny (model X.prog X.w) X.A (evalPart e X.env) (fun u s'=>∃ o H',Inv X pins σ H' s'/\IsPart u o/\Q o H') X.xe s
def Xa:TO:=fun _ H Q=>Q none H
def Sf(t:TE):TO:=fun σ H Q=>t σ H fun x H1=>∃ i,x=.int i/\Q (some i) H1
section
variable {X:Cx}{e:Expr}{te:TE}{lo hi:Option Expr}{tl th:TO}{pos p2:Pos}
theorem O4:PO X none Xa:=by
 intro pins s σ H Q I h;rw[evalPart_none];exact wpAny_pure ⟨none,H,I,.none,h⟩
theorem P1(h:PE X e te):PO X (some e) (Sf te):=by
 intro pins s σ H Q I hw;rw[evalPart_some];refine bA (h pins s σ H _ I hw) fun u s1 ⟨x,H1,I1,r1,q1⟩=>?_;obtain⟨i,rfl,q⟩:=q1;obtain⟨t,rfl⟩:=r1;exact⟨some i,H1,I1,.int i t,q⟩
def SlR(X:Cx)(r:V->Option Int->Option Int->Hp->VK->Prop):Prop :=
 ∀ (pins:List (Addr×Obj)) (s:Shared) (σ:St) (H:Hp) (x:V) (v vl vu:Value) (lo hi:Option Int) (sl:Addr) (Q:VK),Inv X pins σ H s->RelV x v->s.heap.IsSliceOf sl vl vu .none->IsPart vl lo->IsPart vu hi->r x lo hi H Q ->
  ∃ T id,typeLookup (.type T) "__getitem__"=pure (some (.builtin id))/\s.TypeIs v T/\wpAny (model X.prog X.w) X.A (getItem v (.ref sl)) (EP X pins σ Q) X.xe s
theorem SlR.or{r r':V->Option Int->Option Int->Hp->VK->Prop}(h:SlR X r)(h':SlR X r'):SlR X (fun x lo hi H Q=>r x lo hi H Q\/r' x lo hi H Q):=by
 intro pins s σ H x v vl vu lo hi sl Q I rx hs pl pu q;rcases q with q | q
 ·exact h pins s σ H x v vl vu lo hi sl Q I rx hs pl pu q
 ·exact h' pins s σ H x v vl vu lo hi sl Q I rx hs pl pu q
def AD(r:V->Option Int->Option Int->Hp->VK->Prop)(te:TE)(tl th:TO):TE:=fun σ H Q=>te σ H fun x H1=>tl σ H1 fun l H2=>th σ H2 fun u H3=>r x l u H3 Q
theorem U4{r:V->Option Int->Option Int->Hp->VK->Prop}(hr:SlR X r)(he:PE X e te)(hl:PO X lo tl)(hu:PO X hi th):PE X (.Subscript e (.Slice lo hi none p2) pos) (AD r te tl th):=by
 intro pins s σ H Q I h;refine Subscript_ (bA (he pins s σ H _ I h) fun v s1 ⟨x,H1,I1,r1,q1⟩=>?_);refine wpAny_Slice (bA (hl pins s1 σ H1 _ I1 q1) fun vl s2 ⟨l,H2,I2,pl,q2⟩=>bA (hu pins s2 σ H2 _ I2 q2) fun vu s3 ⟨u,H3,I3,pu,q3⟩=>?_);rw[evalPart_none];refine wpAny_pure ?_;have I4:Inv X pins σ H3 {s3 with heap:=s3.heap.push {cls:=.type "slice",data:=.fields #[vl,vu,.none]}}:=I3.kept (t':=s3.toks) fun b ob q=>Heap.get?_push_of_some _ q
 obtain⟨T,id,hT,ht,hg⟩:=hr pins {s3 with heap:=s3.heap.push {cls:=.type "slice",data:=.fields #[vl,vu,.none]}} σ H3 x v vl vu l u s3.heap.objs.size Q I4 r1 (Heap.IsSliceOf.new ..) pl pu q3;show wpAny (model X.prog X.w) X.A (subscriptTail e (.Slice lo hi none p2) v (.ref s3.heap.objs.size)) (EP X pins σ Q) X.xe {s3 with heap:=s3.heap.push {cls:=.type "slice",data:=.fields #[vl,vu,.none]}}
 exact tail_any (ops:=[.ref s3.heap.objs.size,v]) ht hT hg (by with_unfolding_all rfl)
def iS(xs:List V)(lo hi:Option Int):List V:=(xs.drop (HT.sIx xs.length 0 lo)).take (HT.sIx xs.length xs.length hi-HT.sIx xs.length 0 lo)
theorem Io(xs:List V)(lo hi:Option Int):(iS xs lo hi).length<=xs.length:=by
 unfold iS;rw[List.length_take,List.length_drop];omega
def Ql(K:PySem.W.Frag):V->Option Int->Option Int->Hp->VK->Prop:=fun x lo hi H Q=>∃ a xs,x=.ref a/\SqT K H a xs /\
 ¬ (HT.sIx xs.length 0 lo=0/\HT.sIx xs.length xs.length hi=xs.length)/\∀ p,H p=none->Q (.ref p) (upd H p (.tup (iS xs lo hi)))
theorem Z3:SlR X (Ql X.K):=by
 intro pins s σ H x v vl vu lo hi sl Q I rx hs pl pu h;obtain⟨a,xs,rfl,hx,hw,q⟩:=h
 cases rx
 obtain⟨its,r,ht,hz⟩:=I.tuple hx;have hlen:its.toArray.size=xs.length:=by rw[List.size_toArray];exact r.length.symm
 refine⟨"tuple",_,PyProof.Rows.slot_tuple_getitem.lookup,ht.typeIs,?_⟩;refine HT.getItem_tuple_cut ht hs pl pu (by rw[hlen];exact hw) ?_ (by rw[hlen];exact hz)
 rw[hlen];refine⟨.ref s.heap.objs.size,_,I.laid (t':=s.toks) (o:=.tup (iS xs lo hi)) (fun b ob q=>Heap.get?_push_of_some _ q) (Nat.le_refl _) ?_,rfl,q _ (I.hok.fresh (Nat.le_refl _))⟩;exact⟨⟨Nat.le_trans (Io xs lo hi) hz,NoD.new _ _ _⟩,_,(r.drop (HT.sIx xs.length 0 lo)).take (HT.sIx xs.length xs.length hi-HT.sIx xs.length 0 lo),IsTup.new _ _⟩
def BP(K:PySem.W.Frag):R2:=fun x y H Q=>∃ a b xs ys,x=.ref a/\y=.ref b/\SqT K H a xs/\SqT K H b ys/\xs≠[]/\xs.length+ys.length<=sizeLine /\
 (ys=[]->Q (.ref a) H)/\(ys≠[]->∀ p,H p=none->Q (.ref p) (upd H p (.tup (xs++ys))))
theorem Vals.nil_iff{xs:List V}{us:List Value}(r:Vals xs us):us=[]↔xs=[]:=by
 cases r with
 | nil=>simp
 | cons _ _=>simp
theorem We:OpR X (binaryOp .Add) (BP X.K):=by
 intro pins s σ H x y v u Q I rx ry h;obtain⟨a,b,xs,ys,rfl,rfl,ha,hb,hx,hz,q1,q2⟩:=h
 cases rx
 cases ry
 obtain⟨its,r1,p1,_⟩:=I.tuple ha;obtain⟨its2,r2,p2,_⟩:=I.tuple hb;refine HT.cat_tup p1 p2 (fun z=>hx (r1.nil_iff.mp z)) (fun z=>⟨.ref a,H,I,rfl,q1 (r2.nil_iff.mp z)⟩) (fun z=>?_) (by rw[<- r1.length,<- r2.length];exact hz)
 refine⟨.ref s.heap.objs.size,_,I.laid (t':=s.toks) (o:=.tup (xs++ys)) (fun b ob q=>Heap.get?_push_of_some _ q) (Nat.le_refl _) ?_,rfl,q2 (fun w=>z (r2.nil_iff.mpr w)) _ (I.hok.fresh (Nat.le_refl _))⟩;exact⟨⟨by rw[List.length_append];exact hz,NoD.new _ _ _⟩,_,r1.append r2,IsTup.new _ _⟩
end
end L2
namespace L2
open PySem PySem.Spec PyProof.Rows
def gB(n:Nat)(i:Int):Option Nat:=if 0<=i then (if i<n then some i.toNat else none) else if -(n:Int)<=i then some (i+n).toNat else none
def cA{α:Type}(xs:List α)(i:Int):Option α:=(gB xs.length i).bind fun j=>xs[j]?
theorem Mj{n:Nat}{i:Int}{j:Nat}(h:gB n i=some j):seqIndex? i n=some j/\j<n/\-(n:Int)<=i/\i<n:=by
 unfold gB at h
 by_cases h0:0<=i
 ·rw[if_pos h0]at h
  by_cases h1:i<n
  ·rw[if_pos h1]at h;have e:i.toNat=j:=Option.some.inj h
   exact⟨by rw[seqIndex_of h0 h1,e],by omega,by omega,h1⟩
  ·rw[if_neg h1]at h;cases h
 ·rw[if_neg h0]at h
  by_cases h1:-(n:Int)<=i
  ·rw[if_pos h1]at h;have e:(i+n).toNat=j:=Option.some.inj h
   exact⟨by rw[seqIndex_neg (by omega) h1,e],by omega,h1,by omega⟩
  ·rw[if_neg h1]at h;cases h
theorem yU{α:Type}{xs:List α}{i:Int}{v:α}(h:cA xs i=some v):∃ j,seqIndex? i xs.length=some j/\xs[j]?=some v/\j<xs.length/\-(xs.length:Int)<=i/\i<xs.length:=by
 unfold cA at h
 cases e:gB xs.length i with
 | none=>rw[e]at h;cases h
 | some j =>
  rw[e]at h;obtain⟨h1,h2,h3,h4⟩:=Mj e;exact⟨j,h1,h,h2,h3,h4⟩
theorem kB{α:Type}{xs:List α}{j:Nat}{v:α}(h:xs[j]?=some v):cA xs (j:Int)=some v:=by
 have hj:j<xs.length:=(List.getElem?_eq_some_iff.mp h).1
 have e:gB xs.length (j:Int)=some j:=by
  unfold gB;rw[if_pos (by omega),if_pos (by omega)];simp
 unfold cA;rw[e];exact h
def Cq(b:Expr):Prop:=∀ o i,subscripted b false o i=operate [o,i] (getItem o i)
def IxR(X:Cx)(r:R2):Prop :=
 ∀ (value slice:Expr) (pins:List (Addr×Obj)) (s:Shared) (σ:St) (H:Hp) (x y:V) (v u:Value) (Q:VK),Inv X pins σ H s->RelV x v->RelV y u->r x y H Q ->
  subscripted slice false v u=operate [v,u] (getItem v u)->wpAny (model X.prog X.w) X.A (subscriptTail value slice v u) (EP X pins σ Q) X.xe s
def MtR(X:Cx)(id:String)(r:V->List V->Hp->VK->Prop):Prop :=
 ∀ (pins:List (Addr×Obj)) (s:Shared) (σ:St) (H:Hp) (x:V) (xs:List V) (v:Value) (us:List Value) (Q:VK),Inv X pins σ H s->RelV x v->Vals xs us->r x xs H Q ->
  wpAny (model X.prog X.w) X.A (call (.builtin id) (v::us)) (EP X pins σ Q) X.xe s
section
variable {X:Cx}{a b:Expr}{ta tb:TE}{pos:Pos}
theorem IxR.or{r r':R2}(h:IxR X r)(h':IxR X r'):IxR X (fun x y H Q=>r x y H Q\/r' x y H Q):=by
 intro value slice pins s σ H x y v u Q I rx ry q hs;rcases q with q | q
 ·exact h value slice pins s σ H x y v u Q I rx ry q hs
 ·exact h' value slice pins s σ H x y v u Q I rx ry q hs
theorem MtR.or{id:String}{r r':V->List V->Hp->VK->Prop}(h:MtR X id r)(h':MtR X id r'):MtR X id (fun x xs H Q=>r x xs H Q\/r' x xs H Q):=by
 intro pins s σ H x xs v us Q I rx rs q;rcases q with q | q
 ·exact h pins s σ H x xs v us Q I rx rs q
 ·exact h' pins s σ H x xs v us Q I rx rs q
theorem P3{r:R2}(hr:IxR X r)(ha:PE X a ta)(hb:PE X b tb)(hs:Cq b):PE X (.Subscript a b pos) (Tz r ta tb):=by
 intro pins s σ H Q I h;exact Subscript_ (Et ha hb I h fun v u s2 x y H2 I2 rx ry q=>hr a b pins s2 σ H2 x y v u Q I2 rx ry q (hs _ _))
def Fs(K:PySem.W.Frag):R2:=fun x y H Q=>∃ p xs i v,x=.ref p/\y=.int i/\SqL K H p xs/\cA xs i=some v/\Q v H
def Gs(K:PySem.W.Frag):R2:=fun x y H Q=>∃ p xs i v,x=.ref p/\y=.int i/\SqT K H p xs/\cA xs i=some v/\Q v H
def Jf:R2:=fun x y H Q=>∃ z i c,x=.str z/\y=.int i/\z.length<=sizeLine/\cA z.cps.toList i=some c/\Q (.str ⟨#[c]⟩) H
theorem CD:IxR X (Fs X.K):=by
 intro value slice pins s σ H x y v u Q I rx ry h hs;obtain⟨p,xs,i,z,rfl,rfl,hq,he,q⟩:=h
 cases rx
 obtain⟨t,rfl⟩:=ry;obtain⟨its,r,pl,hz⟩:=I.list hq;obtain⟨j,h1,h2,h3,h4,h5⟩:=yU he;obtain⟨w,ew,rw'⟩:=r.get h2;have hl:=r.length
 have hn:=lB
 have fin:EP X pins σ Q w s:=⟨z,H,I,rw',q⟩
 by_cases h0:0<=i
 ·have hj:i.toNat=j:=by
   rw[seqIndex_of h0 h5]at h1;exact Option.some.inj h1
  exact item_listR pl.isList h0 (by omega) (by rw[hj];simpa using ew) fin hs
 ·have hj:(i+(its.toArray.size:Int)).toNat=j:=by
   rw[seqIndex_neg (by omega) h4]at h1
   rw[List.size_toArray,<- hl];exact Option.some.inj h1
  exact subscriptTail_builtinR (x:=w) pl.isList.typeIs slot_list_getitem.lookup
   (wpAny_getItem_list_neg (Q:=fun r s'=>r=w/\EP X pins σ Q r s') pl.isList (by omega) (by rw[List.size_toArray]<;>omega) (by omega) (by rw[hj];simpa using ew) ⟨rfl,fin⟩) hs
theorem Tc:IxR X (Gs X.K):=by
 intro value slice pins s σ H x y v u Q I rx ry h hs;obtain⟨p,xs,i,z,rfl,rfl,hq,he,q⟩:=h
 cases rx
 obtain⟨t,rfl⟩:=ry;obtain⟨its,r,pl,hz⟩:=I.tuple hq;obtain⟨j,h1,h2,h3,h4,h5⟩:=yU he;obtain⟨w,ew,rw'⟩:=r.get h2;have hl:=r.length
 have hn:=lB
 have fin:EP X pins σ Q w s:=⟨z,H,I,rw',q⟩
 exact subscriptTail_builtinR (x:=w) pl.typeIs slot_tuple_getitem.lookup
  (getItem_tuple (j:=j) (Q:=fun r s'=>r=w/\EP X pins σ Q r s') pl (by omega) (by omega) (by rw[List.size_toArray,<- hl];exact h1) (by simpa using ew) ⟨rfl,fin⟩) hs
theorem Q2:IxR X Jf:=by
 intro value slice pins s σ H x y v u Q I rx ry h hs;obtain⟨z,i,c,rfl,rfl,hz,he,q⟩:=h;obtain⟨t,rfl⟩:=rx;obtain⟨t',rfl⟩:=ry;obtain⟨j,h1,h2,h3,h4,h5⟩:=yU he;have hl:z.cps.toList.length=z.length:=by simp[Str.length]
 rw[hl]at h1 h4 h5;have hn:=lB
 exact tail_any (typeIs_str s z t) slot_str_getitem.lookup (getItem_str (c:=c) (by
  have e1:decide (i < -(2^63:Int))=false:=decide_eq_false (by omega)
  have e2:decide (i ≥ 2^63)=false:=decide_eq_false (by omega)
  rw[e1,e2,Bool.or_false]) (by rw[h1];simpa using h2) ⟨.str ⟨#[c]⟩,H,I.tok _,⟨_,rfl⟩,q⟩) hs
def FO(K:PySem.W.Frag):R2:=fun x y H Q=>Fs K x y H Q\/Gs K x y H Q\/Jf x y H Q
theorem O8:IxR X (FO X.K):=CD.or (Tc.or Q2)
theorem l7(its:List Value)(n j:Nat)(u:Value):Obj.mapSeq (·.setIfInBounds j u) {cls:=.type "list",data:=.seq its.toArray n}={cls:=.type "list",data:=.seq (its.set j u).toArray n}:=by
 simp[Obj.mapSeq]
theorem Inv.lst{pins:List (Addr×Obj)}{σ:St}{H:Hp}{s:Shared}{p:Addr}{xs:List V}(I:Inv X pins σ H s)(h:H p=some (.lst xs)) :
  ∃ (its:List Value) (n:Nat),Vals xs its/\s.heap.get? p=some {cls:=.type "list",data:=.seq its.toArray n}/\xs.length<=sizeLine:=by
 obtain⟨z,its,n,r,e⟩:=I.hok p _ h;exact⟨its,n,r,e,z⟩
theorem Inv.lstUpd{pins:List (Addr×Obj)}{σ:St}{H:Hp}{s:Shared}{p:Addr}{xs ys:List V}{its its':List Value}{n n':Nat}{f:Obj->Obj}(I:Inv X pins σ H s)(h:H p=some (.lst xs))
  (ho:s.heap.get? p=some {cls:=.type "list",data:=.seq its.toArray n}) (hf:f {cls:=.type "list",data:=.seq its.toArray n}={cls:=.type "list",data:=.seq its'.toArray n'}) (r:Vals ys its') (hz:ys.length<=sizeLine) (t:Nat) :
  Inv X pins σ (upd H p (.lst ys)) {s with heap:=s.heap.update p f,toks:=t}:=by
 have e:(s.heap.update p f).get? p=some {cls:=.type "list",data:=.seq its'.toArray n'}:=by
  rw[Heap.get?_update_self f ho (by rw[hf]<;>rfl),hf]
 refine I.write (x:=p) (e:=p) (by rw[h];trivial) (.inl rfl) (fun b u hb q=>(Heap.get?_update_other _ _ (Ne.symm hb)).trans q) ⟨_,e⟩ ?_
 exact⟨hz,its',n',r,e⟩
def Ty:V->V->V->Hp->(Hp->Prop)->Prop:=fun o i v H Q=>∃ p xs k j,o=.ref p/\i=.int k/\H p=some (.lst xs)/\gB xs.length k=some j/\Q (upd H p (.lst (xs.set j v)))
theorem AW:Ij X Ty:=by
 intro pins s σ H o i v ov iv u Q I ro ri rv h;obtain⟨p,xs,k,j,rfl,rfl,hp,hj,q⟩:=h
 cases ro
 obtain⟨t,rfl⟩:=ri;obtain⟨its,n,r,ho,hz⟩:=I.lst hp;obtain⟨h1,h2,h3,h4⟩:=Mj hj;have hl:=r.length
 have hn:=lB
 have I':Inv X pins σ (upd H p (.lst (xs.set j v))) {s with heap:=s.heap.update p (Obj.mapSeq (·.setIfInBounds j u))} :=
  I.lstUpd hp ho (l7 its n j u) (r.set rv j) (by rw[List.length_set];exact hz) s.toks
 by_cases h0:0<=k
 ·have hk:k.toNat=j:=by
   rw[seqIndex_of h0 h4]at h1;exact Option.some.inj h1
  exact PySem.W.ki_setAt ho h0 (by omega) (by rw[List.size_toArray,<- hl];exact h4) (by rw[hk];exact⟨_,I',q⟩)
 ·have hk:(k+(its.toArray.size:Int)).toNat=j:=by
   rw[seqIndex_neg (by omega) h3]at h1
   rw[List.size_toArray,<- hl];exact Option.some.inj h1
  exact PySem.W.ki_setBack ho (by omega) (by rw[List.size_toArray,<- hl];exact h3) (by omega) (by rw[hk];exact⟨_,I',q⟩)
theorem Vx(lo hi:Option Int)(n:Nat):(sliceBounds lo hi none n).1=((HT.sIx n 0 lo:Nat):Int)/\(sliceBounds lo hi none n).2.1=((HT.sIx n n hi:Nat):Int)/\(sliceBounds lo hi none n).2.2=1:=by
 refine⟨?_,?_,rfl⟩
 ·cases lo with
  | none=>simp[sliceBounds,HT.sIx]
  | some i =>
   simp only[sliceBounds,HT.sIx,Option.getD_none,show(1:Int) > 0 by decide,if_true]
   by_cases h:i<0
   ·simp only[h,if_true]<;>omega
   ·simp only[h,if_false]<;>omega
 ·cases hi with
  | none=>simp[sliceBounds,HT.sIx]
  | some i =>
   simp only[sliceBounds,HT.sIx,Option.getD_none,show(1:Int) > 0 by decide,if_true]
   by_cases h:i<0
   ·simp only[h,if_true]<;>omega
   ·simp only[h,if_false]<;>omega
theorem BB(its:List Value)(lo hi:Option Int):slicePick its.toArray lo hi none=((its.drop (HT.sIx its.length 0 lo)).take (HT.sIx its.length its.length hi-HT.sIx its.length 0 lo)).toArray:=by
 obtain⟨h1,h2,h3⟩:=Vx lo hi its.toArray.size;unfold slicePick;rw[h1,h2,h3];simp only[sliceRange_one,pick_run,List.size_toArray]<;>rfl
def Tf(K:PySem.W.Frag):V->Option Int->Option Int->Hp->VK->Prop:=fun x lo hi H Q=>∃ a xs,x=.ref a/\SqL K H a xs/\∀ p,H p=none->Q (.ref p) (upd H p (.lst (iS xs lo hi)))
theorem FW:SlR X (Tf X.K):=by
 intro pins s σ H x v vl vu lo hi sl Q I rx hs pl pu h;obtain⟨a,xs,rfl,hx,q⟩:=h
 cases rx
 obtain⟨its,r,ht,hz⟩:=I.list hx;have hlen:=r.length
 refine⟨"list",_,slot_list_getitem.lookup,ht.isList.typeIs,?_⟩;refine wpAny_getItem_list_slice ht.isList hs pl pu .none (by simp) ?_ (by rw[List.size_toArray]<;>omega)
 rw[BB,<- hlen];refine⟨.ref s.heap.objs.size,_,I.laid (t':=s.toks) (o:=.lst (iS xs lo hi)) (fun b ob q=>Heap.get?_push_of_some _ q) (Nat.le_refl _) ?_,rfl,q _ (I.hok.fresh (Nat.le_refl _))⟩;exact⟨Nat.le_trans (Io xs lo hi) hz,_,0,(r.drop (HT.sIx xs.length 0 lo)).take (HT.sIx xs.length xs.length hi-HT.sIx xs.length 0 lo),Heap.get?_push_size _ rfl⟩
def gE:V->Bool
 | .non=>true
 | .bl _=>true
 | .int _=>true
 | .str _=>true
 | _=>false
def kY:V->V->Bool
 | .non,.non=>true
 | .bl a,.bl b=>a==b
 | .bl a,.int b=>(if a then 1 else 0)==b
 | .int a,.bl b=>a==(if b then 1 else 0)
 | .int a,.int b=>a==b
 | .str a,.str b=>a==b
 | _,_=>false
theorem DY{A:Around}{s:Shared}{y x:V}{u v:Value}(ry:RelV y u)(rx:RelV x v)(fy:gE y=true)(fx:gE x=true):SeqAt.EqAt A s u v (kY y x):=by
 cases y with
 | non =>
  cases ry
  cases x with
  | non=>cases rx;exact SeqAt.EqAt.same _
  | bl b=>cases rx;exact SeqAt.EqAt.none_bool b
  | int b=>obtain⟨t,rfl⟩:=rx;exact SeqAt.EqAt.none_int b t
  | str b=>obtain⟨t,rfl⟩:=rx;exact SeqAt.EqAt.none_str b t
  | _=>exact absurd (show false=true from fx) Bool.false_ne_true
 | bl a =>
  cases ry
  cases x with
  | non=>cases rx;exact SeqAt.EqAt.bool_none a
  | bl b=>cases rx;exact SeqAt.EqAt.bool_bool a b
  | int b=>obtain⟨t,rfl⟩:=rx;exact SeqAt.EqAt.bool_int a b t
  | str b=>obtain⟨t,rfl⟩:=rx;exact SeqAt.EqAt.bool_str a b t
  | _=>exact absurd (show false=true from fx) Bool.false_ne_true
 | int a =>
  obtain⟨t',rfl⟩:=ry
  cases x with
  | non=>cases rx;exact SeqAt.EqAt.int_none a t'
  | bl b=>cases rx;exact SeqAt.EqAt.int_bool a t' b
  | int b=>obtain⟨t,rfl⟩:=rx;exact SeqAt.EqAt.int_int a t' b t
  | str b=>obtain⟨t,rfl⟩:=rx;exact SeqAt.EqAt.int_str a t' b t
  | _=>exact absurd (show false=true from fx) Bool.false_ne_true
 | str a =>
  obtain⟨t',rfl⟩:=ry
  cases x with
  | non=>cases rx;exact SeqAt.EqAt.str_none a t'
  | bl b=>cases rx;exact SeqAt.EqAt.str_bool a t' b
  | int b=>obtain⟨t,rfl⟩:=rx;exact SeqAt.EqAt.str_int a t' b t
  | str b=>obtain⟨t,rfl⟩:=rx;exact SeqAt.EqAt.str_str a t' b t
  | _=>exact absurd (show false=true from fx) Bool.false_ne_true
 | _=>exact absurd (show false=true from fy) Bool.false_ne_true
def eU(x:V)(u:Value):Bool:=match u with
 | .none=>kY .non x
 | .bool b=>kY (.bl b) x
 | .int i _=>kY (.int i) x
 | .str z _=>kY (.str z) x
 | _=>false
theorem Jn{x y:V}{u:Value}(r:RelV y u)(f:gE y=true):eU x u=kY y x:=by
 cases y with
 | non=>cases r;rfl
 | bl b=>cases r;rfl
 | int i=>obtain⟨t,rfl⟩:=r;rfl
 | str z=>obtain⟨t,rfl⟩:=r;rfl
 | _=>exact absurd (show false=true from f) Bool.false_ne_true
theorem pK{x:V}:∀ {xs:List V} {us:List Value},Vals xs us->xs.all gE=true->us.any (eU x)=xs.any fun y=>kY y x
 | _,_,.nil,_=>rfl
 | y::xs,u::us,.cons r t,f=>by
  rw[List.all_cons,Bool.and_eq_true]at f;rw[List.any_cons,List.any_cons,Jn r f.1,pK t f.2]
theorem mS{A:Around}{s:Shared}{x:V}{v:Value}(rx:RelV x v)(fx:gE x=true):∀ {xs:List V} {us:List Value},Vals xs us->xs.all gE=true->∀ u∈us,SeqAt.EqAt A s u v (eU x u)
 | _,_,.nil,_=>fun u hu=>by cases hu
 | y::xs,u::us,.cons r t,f=>fun u' hu=>by
  rw[List.all_cons,Bool.and_eq_true]at f;rcases List.mem_cons.mp hu with rfl | hu
  ·rw[Jn r f.1];exact DY r rx f.1 fx
  ·exact mS rx fx t f.2 u' hu
def lA(x:V)(xs:List V):Bool:=xs.any fun y=>kY y x
def Ku(K:PySem.W.Frag)(neg:Bool):R2:=fun x y H Q=>∃ p xs,y=.ref p/\(SqL K H p xs\/SqT K H p xs)/\gE x=true/\xs.all gE=true/\Q (.bl (if neg then !lA x xs else lA x xs)) H
theorem oR:OpR X (compareOp .In) (Ku X.K false):=by
 intro pins s σ H x y v u Q I rx ry h;obtain⟨p,xs,rfl,hq,fx,fs,q⟩:=h
 cases ry
 rcases hq with hq | hq
 ·obtain⟨its,r,pl,hz⟩:=I.list hq;refine SeqAt.in_listAt (eU x) pl.isList (fun w hw=>mS rx fx r fs w (by simpa using hw)) ⟨.bl _,H,I,rfl,?_⟩
  rw[show its.toArray.any (eU x)=its.any (eU x) by simp,pK r fs]
  exact q
 ·obtain⟨its,r,pl,hz⟩:=I.tuple hq;refine SeqAt.in_tupleAt (eU x) pl (fun w hw=>mS rx fx r fs w (by simpa using hw)) ⟨.bl _,H,I,rfl,?_⟩
  rw[show its.toArray.any (eU x)=its.any (eU x) by simp,pK r fs]
  exact q
theorem oU:OpR X (compareOp .NotIn) (Ku X.K true):=by
 intro pins s σ H x y v u Q I rx ry h;obtain⟨p,xs,rfl,hq,fx,fs,q⟩:=h
 cases ry
 rcases hq with hq | hq
 ·obtain⟨its,r,pl,hz⟩:=I.list hq;refine SeqAt.notIn_listAt (eU x) pl.isList (fun w hw=>mS rx fx r fs w (by simpa using hw)) ⟨.bl _,H,I,rfl,?_⟩
  rw[show its.toArray.any (eU x)=its.any (eU x) by simp,pK r fs]
  exact q
 ·obtain⟨its,r,pl,hz⟩:=I.tuple hq;refine SeqAt.notIn_tupleAt (eU x) pl (fun w hw=>mS rx fx r fs w (by simpa using hw)) ⟨.bl _,H,I,rfl,?_⟩
  rw[show its.toArray.any (eU x)=its.any (eU x) by simp,pK r fs]
  exact q
theorem Cb:CallR X (.builtin "len") (fun xs H Q=>∃ p ys,xs=[.ref p]/\(SqL X.K H p ys\/SqT X.K H p ys)/\Q (.int ys.length) H):=by
 intro pins s σ H xs us Q I r h;obtain⟨p,ys,rfl,hq,q⟩:=h;obtain⟨u,rfl,rx⟩:=fP r
 cases rx
 have hn:=lB
 rcases hq with hq | hq
 ·obtain⟨its,r',pl,hz⟩:=I.list hq;have hlen:=r'.length
  exact Calls.call_len_list pl.isList (by simp only[List.size_toArray]<;>omega) ⟨.int ys.length,H,I.tok _,⟨s.toks+1,by rw[List.size_toArray,hlen]⟩,q⟩
 ·obtain⟨its,r',pl,hz⟩:=I.tuple hq;have hlen:=r'.length
  exact len_tuple pl (by simp only[List.size_toArray]<;>omega) ⟨.int ys.length,H,I.tok _,⟨s.toks+1,by rw[List.size_toArray,hlen]⟩,q⟩
theorem Pc:CallR X (.builtin "len") (fun xs H Q=>∃ z,xs=[.str z]/\z.length<=sizeLine/\Q (.int z.length) H):=by
 intro pins s σ H xs us Q I r h;obtain⟨z,rfl,hz,q⟩:=h;obtain⟨u,rfl,t,rfl⟩:=fP r;have hn:=lB
 exact len_str (by omega) ⟨.int z.length,H,I.tok _,⟨_,rfl⟩,q⟩
theorem CallR.or{f:Value}{r r':List V->Hp->VK->Prop}(h:CallR X f r)(h':CallR X f r'):CallR X f (fun xs H Q=>r xs H Q\/r' xs H Q):=by
 intro pins s σ H xs us Q I rs q;rcases q with q | q
 ·exact h pins s σ H xs us Q I rs q
 ·exact h' pins s σ H xs us Q I rs q
theorem Mo:CallR X (.type "list") (fun xs H Q=>∃ p ys,xs=[.ref p]/\(SqL X.K H p ys\/SqT X.K H p ys)/\∀ l,H l=none->Q (.ref l) (upd H l (.lst ys))):=by
 intro pins s σ H xs us Q I r h;obtain⟨p,ys,rfl,hq,q⟩:=h;obtain⟨u,rfl,rx⟩:=fP r
 cases rx
 have fin:∀ (its:List Value),Vals ys its->ys.length<=sizeLine->∀ (h':Heap) (c':Nat),(∀ b o',s.heap.get? b=some o'->h'.get? b=some o') ->
   h'.get? s.heap.objs.size=some {cls:=.type "list",dict:=none,data:=.seq its.toArray c',slots:=#[]}->EP X pins σ Q (.ref s.heap.objs.size) {s with heap:=h'}:=fun its r' hz h' c' kp e =>
  ⟨.ref s.heap.objs.size,_,I.laid (t':=s.toks) kp (Nat.le_refl _) (show ObjOk X.prog X.w _ h' _ (.lst ys) from⟨hz,its,c',r',e⟩),rfl,q _ (I.hok.fresh (Nat.le_refl _))⟩
 rcases hq with hq | hq
 ·obtain⟨its,r',pl,hz⟩:=I.list hq;have hlen:=r'.length
  obtain⟨o,ho,hc,n,hd⟩:=pl.isList;exact call_list_seq p (.inl rfl) ho hc hd (fun h' c' kp e=>fin its r' hz h' c' kp e) (by simp only[List.size_toArray]<;>omega)
 ·obtain⟨its,r',pl,hz⟩:=I.tuple hq;have hlen:=r'.length
  obtain⟨o,ho,hc,n,hd⟩:=pl;exact call_list_seq p (.inr rfl) ho hc hd (fun h' c' kp e=>fin its r' hz h' c' kp e) (by simp only[List.size_toArray]<;>omega)
theorem Au:CallR X (.type "tuple") (fun xs H Q=>∃ p ys,xs=[.ref p]/\((SqL X.K H p ys/\∀ l,H l=none->Q (.ref l) (upd H l (.tup ys)))\/(SqT X.K H p ys/\Q (.ref p) H))):=by
 intro pins s σ H xs us Q I r h;obtain⟨p,ys,rfl,h⟩:=h;obtain⟨u,rfl,rx⟩:=fP r
 cases rx
 rcases h with⟨hq,q⟩ | ⟨hq,q⟩
 ·obtain⟨its,r',pl,hz⟩:=I.list hq;have hlen:=r'.length
  refine call_tuple_list pl.isList (fun h' kp=>?_) (by simp only[List.size_toArray]<;>omega)
  have I1:Inv X pins σ H {s with heap:=h'}:=I.kept (t':=s.toks) kp
  have I2:Inv X pins σ (upd H h'.objs.size (.tup ys)) {s with heap:=h'.push {cls:=.type "tuple",data:=.seq its.toArray}} :=
   I1.laid (t':=s.toks) (fun b o e=>Heap.get?_push_of_some _ e) (Nat.le_refl _) (show ObjOk X.prog X.w _ _ _ (.tup ys) from⟨⟨hz,NoD.new _ _ _⟩,its,r',IsTup.new _ _⟩)
  exact⟨.ref h'.objs.size,_,I2,rfl,q _ (I1.hok.fresh (Nat.le_refl _))⟩
 ·obtain⟨its,r',pl,hz⟩:=I.tuple hq;exact call_tuple_same pl ⟨.ref p,H,I,rfl,q⟩
def Hf(K:PySem.W.Frag)(T:String)(x:V)(H:Hp):Prop:=match x with
 | .str _=>T="str"
 | .int _=>T="int"
 | .ref p=>(T="list"/\∃ xs,SqL K H p xs)\/(T="tuple"/\∃ o,K.lookup p=some o/\o.cls=.type "tuple"/\o.dict=none) \/
   (T="dict"/\((∃ kvs,H p=some (.dK kvs))\/∃ kvs,H p=some (.dT kvs)))\/(T="set"/\∃ S n,H p=some (.set S n))
 | _=>False
theorem Vs{pins:List (Addr×Obj)}{σ:St}{H:Hp}{s:Shared}{T:String}{x:V}{v:Value}(I:Inv X pins σ H s)(r:RelV x v)(ty:Hf X.K T x H) :
  s.TypeIs v T/\∀ a,v=.ref a->∃ ob,s.heap.get? a=some ob/\ob.dict=none:=by
 cases x with
 | str z =>
  obtain⟨t,rfl⟩:=r
  cases (show T="str" from ty)
  exact⟨typeIs_str s z t,fun _ e=>nomatch e⟩
 | int i =>
  obtain⟨t,rfl⟩:=r
  cases (show T="int" from ty)
  exact⟨typeIs_int s i t,fun _ e=>nomatch e⟩
 | ref p =>
  cases r
  rcases ty with⟨rfl,xs,hq⟩ | ⟨rfl,o,hk,hc,hd⟩ | ⟨rfl,hk⟩ | ⟨rfl,S,n,hk⟩
  ·obtain⟨its,_,pl,_⟩:=I.list hq;refine⟨pl.isList.typeIs,fun a e=>?_⟩
   cases e
   obtain⟨o,n,e,c,hd,_⟩:=pl;exact⟨o,e,hd⟩
  ·refine⟨⟨o,I.kIn p o hk,hc⟩,fun a e=>?_⟩
   cases e
   exact⟨o,I.kIn _ o hk,hd⟩
  ·have z:∃ o,s.heap.get? p=some o/\o.ExactDict:=by
    rcases hk with⟨kvs,hk⟩ | ⟨kvs,hk⟩
    ·obtain⟨_,_,_,_,o,_,_,e,ex,_⟩:=I.hok p _ hk;exact⟨o,e,ex⟩
    ·obtain⟨_,_,_,_,o,_,_,e,ex,_⟩:=I.hok p _ hk;exact⟨o,e,ex⟩
   obtain⟨o,e,ex⟩:=z;refine⟨⟨o,e,ex.1⟩,fun a e2=>?_⟩
   cases e2
   exact⟨o,e,ex.2.1⟩
  ·obtain⟨o,_,_,_,e,ex,_⟩:=I.hok p _ hk;refine⟨⟨o,e,ex.1⟩,fun a e2=>?_⟩
   cases e2
   exact⟨o,e,ex.2.1⟩
 | _=>exact False.elim ty
def y8(K:PySem.W.Frag)(T:String)(r:V->List V->Hp->VK->Prop)(to:TE)(t:TA):TE:=fun σ H Q=>to σ H fun x H1=>Hf K T x H1/\t σ H1 fun xs H2=>r x xs H2 Q
variable {o e:Expr}{es:List Expr}{to:TE}{t:TA}{name:Str}{apos cpos:Pos}{T id:String}{r:V->List V->Hp->VK->Prop}
theorem uY(pa:PlainAttrs T)(slot:Slot T name id)(hty:typeOf (.builtin id)=pure (.type "method_descriptor"))(hm:MtR X id r)(ho:PE X o to)(ha:PA X (e::es) t)
  (hbase:attributeBase o name X.env (eval o X.env)=eval o X.env:=by rfl)
  (hfew:((backTo cpos (starEach (e::es) X.env)).all (fun x=>!x.1)&&(backToKw cpos (keywordEach [] X.env)).all (fun x=>x.1.isSome)
   && decide ((e::es).length+([]:List Keyword).length+(if ([]:List Keyword).isEmpty then 0 else 1)<30))=true:=by rfl)
  (hline:(apos.endLine==cpos.line)=true:=by rfl) (hs:starEach (e::es) X.env=(false,eval e X.env)::starEach es X.env:=by rfl) (hplain:(backTo cpos (starEach es X.env)).any (·.1)=false:=by rfl) :
  PE X (.Call (.Attribute o name apos) (e::es) [] cpos) (y8 X.K T r to t):=by
 intro pins s σ H Q I h;refine wpAny_Call_method_late hbase hfew hline rfl (bA (ho pins s σ H _ I h) fun v s1 ⟨x,H1,I1,r1,ty,q1⟩=>?_);obtain⟨h1,h2⟩:=Vs I1 r1 ty;refine⟨T,id,pa,slot,hty,h1,h2,?_⟩;have hA:=ha cpos pins s1 σ H1 _ I1 q1
 rw[hs]at hA ⊢;refine Calls.callWith_builtin (by show(false||(backTo cpos (starEach es X.env)).any (·.1))=false;rw[hplain]<;>rfl) (Calls.evalArgs_plain ?_)
 exact bA hA fun us s2 ⟨vs,H2,I2,r2,q2⟩=>hm pins s2 σ H2 x vs v us Q I2 r1 r2 q2
end
end L2
namespace L2
open PySem PySem.Spec PyProof.Rows
def uG(X:Cx)(id:String)(r:V->List V->Hp->VK->Prop):Prop :=
 ∀ (pins:List (Addr×Obj)) (s:Shared) (σ:St) (H:Hp) (x:V) (xs:List V) (v:Value) (us:List Value) (Q:VK),Inv X pins σ H s->RelV x v->Vals xs us->r x xs H Q ->
  wpAny (model X.prog X.w) X.A (call (.builtin id) (v::us)) (EP X pins σ Q) X.xe s
theorem Vals.one:∀ {x:V} {us:List Value},Vals [x] us->∃ u,us=[u]/\RelV x u
 | _,_,.cons r .nil=>⟨_,rfl,r⟩
theorem Vals.two:∀ {x y:V} {us:List Value},Vals [x,y] us->∃ u v,us=[u,v]/\RelV x u/\RelV y v
 | _,_,_,.cons r (.cons q .nil)=>⟨_,_,rfl,r,q⟩
theorem Vals.zero:∀ {us:List Value},Vals [] us->us=[]
 | _,.nil=>rfl
theorem Vals.eraseIdx:∀ {xs:List V} {us:List Value} (i:Nat),Vals xs us->Vals (xs.eraseIdx i) (us.eraseIdx i)
 | _,_,_,.nil=>.nil
 | _,_,0,.cons _ t=>t
 | _,_,i+1,.cons r t=>.cons r (Vals.eraseIdx i t)
theorem Vals.reverse{xs:List V}{us:List Value}(h:Vals xs us):Vals xs.reverse us.reverse:=by
 induction h with
 | nil=>exact .nil
 | cons r t ih=>rw[List.reverse_cons,List.reverse_cons];exact Vals.append ih (.cons r .nil)
theorem Vals.rep{xs:List V}{us:List Value}(h:Vals xs us):∀ k:Nat,Vals (List.replicate k xs).flatten (List.replicate k us).flatten
 | 0=>.nil
 | k+1=>by
  rw[List.replicate_succ,List.replicate_succ,List.flatten_cons,List.flatten_cons];exact Vals.append h (Vals.rep h k)
theorem Ja{α:Type}:∀ (l:List α) (i:Nat),(l.eraseIdx i).length<=l.length
 | [],_=>Nat.le_refl _
 | _::_,0=>Nat.le_succ _
 | _::r,i+1=>Nat.succ_le_succ (Ja r i)
theorem Jh(its:List Value):∀ (k:Nat) (acc:List Value),
  List.foldl (fun x1 x2=>x1++x2) acc.toArray (List.replicate k its.toArray)=(acc++(List.replicate k its).flatten).toArray
 | 0,acc=>by simp
 | k+1,acc=>by
  have e:acc.toArray++its.toArray=(acc++its).toArray:=by simp
  have e2:(acc++its)++(List.replicate k its).flatten=acc++(List.replicate (k+1) its).flatten:=by
   rw[List.replicate_succ,List.flatten_cons,List.append_assoc]
  rw[<- e2,<- Jh its k (acc++its),<- e,List.replicate_succ,List.foldl_cons]
section
variable {X:Cx}{pins:List (Addr×Obj)}{σ:St}{H:Hp}{s:Shared}{l b:Addr}{xs ys zs:List V}
theorem Inv.lset{its its':List Value}{n:Nat}{f:Array Value->Array Value}{t':Nat}(I:Inv X pins σ H s)(hH:H l=some (.lst xs))
  (e:s.heap.get? l=some {cls:=.type "list",data:=.seq its.toArray n}) (hf:f its.toArray=its'.toArray) (hv:Vals ys its') (hz:ys.length<=sizeLine) :
  Inv X pins σ (upd H l (.lst ys)) {s with heap:=s.heap.update l (Obj.mapSeq f),toks:=t'}:=by
 have q:=PySem.IsL.update e f
 rw[hf]at q;refine I.write (x:=l) (e:=l) (by rw[hH];exact trivial) (.inl rfl) (fun b' u hb hu=>(Heap.get?_update_other s.heap (Obj.mapSeq f) (Ne.symm hb)).trans hu) ⟨_,q⟩ ?_
 exact⟨hz,its',_,hv,q⟩
theorem Inv.lnew{its:List Value}{t':Nat}(I:Inv X pins σ H s)(hv:Vals ys its)(hz:ys.length<=sizeLine) :
  Inv X pins σ (upd H s.heap.objs.size (.lst ys)) {s with heap:=s.heap.push {cls:=.type "list",data:=.seq its.toArray},toks:=t'} :=
 I.laid (fun _ _ q=>Heap.get?_push_of_some _ q) (Nat.le_refl _) ⟨hz,its,0,hv,Heap.get?_push_size _ rfl⟩
theorem Inv.fresh(I:Inv X pins σ H s):H s.heap.objs.size=none:=I.hok.fresh (Nat.le_refl _)
theorem Inv.lstM(I:Inv X pins σ H s)(hH:H l=some (.lst xs)):xs.length<=sizeLine/\∃ (its:List Value) (n:Nat),Vals xs its/\xs.length=its.length/\s.heap.get? l=some {cls:=.type "list",data:=.seq its.toArray n}:=by
 obtain⟨z,its,n,r,e⟩:=I.hok l _ hH;exact⟨z,its,n,r,r.length,e⟩
theorem Cg{n:Nat}(h:n<=sizeLine):Builtin.List.listTooLong n=false:=by
 unfold Builtin.List.listTooLong;exact decide_eq_false (by omega)
end
section
variable {X:Cx}
def Sn:V->List V->Hp->VK->Prop:=fun x vs H Q=>∃ l xs y,x=.ref l/\vs=[y]/\H l=some (.lst xs)/\xs.length<sizeLine/\Q .non (upd H l (.lst (xs++[y])))
theorem Ga:uG X "list.append" Sn:=by
 intro pins s σ H x vs v us Q I rx rv h;obtain⟨l,xs,y,rfl,rfl,hH,hz,q⟩:=h
 cases rx
 obtain⟨u,rfl,ru⟩:=rv.one;obtain⟨z,its,n,r,hl,e⟩:=I.lstM hH;refine call_meets F.slot_list_append ⟨_,e,rfl⟩ F.entry_list_append (F.args_list_append_2 _ _) (PySem.list_append l its.toArray n u (by rw[List.size_toArray];omega)) ⟨e,?_⟩
 refine⟨.non,_,I.lset (its':=its++[u]) hH e (by simp) (r.append (.cons ru .nil)) ?_,rfl,q⟩
 rw[List.length_append,List.length_singleton];omega
def F7:V->List V->Hp->VK->Prop:=fun x vs H Q=>∃ l b xs zs,x=.ref l/\vs=[.ref b]/\H l=some (.lst xs)/\H b=some (.lst zs)/\xs.length+zs.length<=sizeLine/\Q .non (upd H l (.lst (xs++zs)))
theorem M5:uG X "list.extend" F7:=by
 intro pins s σ H x vs v us Q I rx rv h;obtain⟨l,b,xs,zs,rfl,rfl,hH,hB,hz,q⟩:=h
 cases rx
 obtain⟨u,rfl,ru⟩:=rv.one
 cases ru
 obtain⟨z,its,n,r,hl,e⟩:=I.lstM hH;obtain⟨z2,its2,n2,r2,hl2,e2⟩:=I.lstM hB;have hsz:its.toArray.size+its2.toArray.size<=sizeLine:=by rw[List.size_toArray,List.size_toArray];omega
 have hlong:¬ (!its.toArray.isEmpty&&Builtin.List.listTooLong (its.toArray.size+its2.toArray.size))=true:=by
  rw[Cg hsz,Bool.and_false];exact Bool.false_ne_true
 refine call_meets F.slot_list_extend ⟨_,e,rfl⟩ F.entry_list_extend (F.args_list_extend_2 _ _)
  (AutoSeq1.list_extend_list_list_0 l its.toArray n b its2.toArray n2 hlong (by rw[List.size_toArray];omega) (by omega)) ⟨e,e2,?_⟩
 refine⟨.non,_,I.lset (its':=its++its2) hH e (by simp) (r.append r2) ?_,rfl,q⟩
 rw[List.length_append];omega
def GA:V->List V->Hp->VK->Prop:=fun x vs H Q=>∃ l xs i k y,x=.ref l/\vs=[.int i]/\H l=some (.lst xs)/\-(2^63)<=i/\i<2^63/\seqIndex? i xs.length=some k/\xs[k]?=some y/\Q y (upd H l (.lst (xs.eraseIdx k)))
theorem DU:uG X "list.pop" GA:=by
 intro pins s σ H x vs v us Q I rx rv h;obtain⟨l,xs,i,k,y,rfl,rfl,hH,h1,h2,hk,hy,q⟩:=h
 cases rx
 obtain⟨u,rfl,ru⟩:=rv.one;obtain⟨t,rfl⟩:=ru;obtain⟨z,its,n,r,hl,e⟩:=I.lstM hH;obtain⟨w,hw,rw'⟩:=r.get hy;refine call_meets F.slot_list_pop ⟨_,e,rfl⟩ F.entry_list_pop (F.args_list_pop_2 _ _)
  (MeetsSeq.list_pop_at l its.toArray n i t k w (fitsIndex_both h1 h2) (by rw[List.size_toArray,<- hl];exact hk) (by rw[<- Array.getElem?_toList];exact hw) (by rw[List.size_toArray];omega)) ⟨e,?_⟩
 refine⟨y,_,I.lset (its':=its.eraseIdx k) hH e ?_ (r.eraseIdx k) ?_,rw',q⟩
 ·show its.toArray.eraseIdxIfInBounds k=(its.eraseIdx k).toArray
  rw[List.eraseIdxIfInBounds_toArray]
 ·have:=Ja xs k
  omega
def Yy:R2:=fun x y H Q=>∃ l k xs,x=.ref l/\y=.int k/\H l=some (.lst xs)/\-(2^63)<=k/\k<2^63/\xs.length*k.toNat<=sizeLine /\
 ∀ p,H p=none->Q (.ref p) (upd H p (.lst (List.replicate k.toNat xs).flatten))
theorem Pl{α:Type}(xs:List α)(k:Nat):(List.replicate k xs).flatten.length=k*xs.length:=by
 induction k with
 | zero=>simp
 | succ k ih=>rw[List.replicate_succ,List.flatten_cons,List.length_append,ih,Nat.succ_mul,Nat.add_comm]
theorem R4:OpR X (binaryOp .Mult) Yy:=by
 intro pins s σ H x y v u Q I rx ry h;obtain⟨l,k,xs,rfl,rfl,hH,h1,h2,hz,q⟩:=h
 cases rx
 obtain⟨t,rfl⟩:=ry;obtain⟨z,its,n,r,hl,e⟩:=I.lstM hH;have hlen:its.toArray.size*k.toNat<=sizeLine:=by rw[List.size_toArray,<- hl];exact hz
 have hcap:¬ its.toArray.size*k.toNat > (2^63-1) / 8:=by
  have:(sizeLine:Nat)<=(2^63-1) / 8:=by decide
  omega
 have hfit:¬ (!Builtin.List.listFitsIndex k)=true:=by
  rw[fitsIndex_both h1 h2];exact Bool.false_ne_true
 have hlong:¬ Builtin.List.listTooLong (its.toArray.size*k.toNat)=true:=by
  rw[Cg hlen];exact Bool.false_ne_true
 have hnew:List.foldl (fun x1 x2=>x1++x2) #[] (List.replicate (if its.toArray.isEmpty=true then 0 else k.toNat) its.toArray)=(List.replicate k.toNat its).flatten.toArray:=by
  have f0:∀ m:Nat,List.foldl (fun x1 x2=>x1++x2) #[] (List.replicate m its.toArray)=(List.replicate m its).flatten.toArray:=fun m=>by
   have:=Jh its m []
   rw[List.nil_append]at this;exact this
  rw[f0]
  cases its with
  | nil=>simp
  | cons a r'=>rw[if_neg (by simp)]
 refine wpAny_binaryOp_repeat_ref (T:="list") (U:="int") (by decide) ⟨_,e,rfl⟩ (fun s'=>typeIs_int s' k t) noFill_list_mul F.fills_int_mul F.slot_int_rmul repeat_list F.slot_int_index.lookup
  (call_meets F.slot_int_rmul (typeIs_int s k t) F.entry_int_rmul (F.args_int_rmul_2 _ _) (int___rmul___int_list k t l its.toArray n)
   ⟨e,rfl,⟨_,e,rfl⟩,call_meets F.slot_list_mul ⟨_,e,rfl⟩ F.entry_list_mul (F.args_list_mul_2 _ _) (AutoListH.list___mul___list_int_3 l its.toArray n k t hfit hcap hlong) ⟨e,?_⟩⟩)
 rw[hnew];exact⟨.ref _,_,I.lnew (t':=s.toks) (r.rep k.toNat) (by rw[Pl,Nat.mul_comm];exact hz),rfl,q _ I.fresh⟩
end
end L2
namespace Att
open PySem PySem.W PySem.Calls PyProof.Rows
theorem Zh{P:Params}{h:Heap}:∀ (ns:List Int) (vs:List Value),WellAll P h vs (ns.map WData.int)->IntsAre vs ns:=by
 intro ns
 induction ns with
 | nil =>
  intro vs w;rw[List.map_nil]at w
  cases w
  exact .nil
 | cons n ns ih =>
  intro vs w;rw[List.map_cons]at w
  cases w with
  | cons a b =>
   cases a
   exact .cons _ _ (ih _ b)
theorem L4{l:OpenLaw}{n:Nat}(hn:l.most=some n){P:Params}{h:Heap}{args:List WData}{vals:List Value}
  (hpre:l.row.toRowW.claim.pre args=true) (hwl:WellAll P h vals args) :
  ∃ a vs ns,vals=[Value.ref a]/\args=[WData.list (ns.map WData.int)]/\h.get? a=some {cls:=.type "list",data:=.seq vs.toArray}/\IntsAre vs ns/\ns.length<=n:=by
 have hsh:WShape.hasAll [] args [.list .int]=true:=(pre_splitW hpre).1
 have hc:l.pre.holds [] {args:=args}=true:=(pre_splitW hpre).2
 obtain⟨d,r,rfl,h1,h2⟩:=hasAllW_cons hsh;obtain rfl:=hasAllW_nil h2;obtain⟨xs,rfl,h3⟩:=hasW_list h1;obtain⟨ns,rfl⟩:=items_int h3;have hlen:ns.length<=n:=by
  unfold OpenLaw.pre at hc;have h4:(WTm.not (.lt (.lit (.int (n:Int))) (.len (.arg 0)))).holds [] {args:=[.list (ns.map .int)]}=true:=by
   have h4:=(holds_andW hc).1
   rw[hn]at h4;exact h4
  have h5:=condW_of h4 (w_not (w_lt w_lit (w_len_list (w_arg rfl))))
  rw[List.length_map]at h5;refine Nat.le_of_not_lt fun q=>?_;have q':(n:Int)<((ns.length:Nat):Int):=by omega
  first
   | (rw[decide_eq_true q']at h5;exact absurd h5 (by decide))
   | (simp at h5;omega)
 cases hwl with
 | cons w1 w2 =>
  cases w2
  cases w1 with
  | list ho hall=>exact⟨_,_,ns,rfl,rfl,ho,Zh ns _ hall,hlen⟩
theorem U8(l:OpenLaw)(args:List WData):l.row.toRowW.claim.post args (.bool true) args=true :=
 postW_of (r:=l.row.toRowW) (X:=(true==true))
  (show WShape.has [] (.bool true) .bool=true by first | rfl | decide | simp[WShape.has,WShape.arms,WShape.armsAll])
  (show(WTm.eq .res (.lit (.bool true))).value [] {args:=args,res:=some (.bool true),after:=args}=some (.bool (true==true)) from w_eq_bool (w_res rfl) w_lit) rfl
theorem attach_call{l:OpenLaw}{n:Nat}{q:Program}{loose:List Str}{XP:(Str->Option Value)->Heap->Prop}{YP:World->Heap->Prop}{d:DefRec}
  (hn:l.most=some n) (hdf:d.params.defaults=[])
  (call:∀ (w:World) (s₀ s₁:Shared) (mg mb:Str->Option Value) (fa:Addr) (o:Obj) (pm cd doc:Value) (a:Addr) (vs:List Value) (ns:List Int),
   Ground q loose [] XP w s₀ mg mb s₁.heap->YP w s₁.heap ->
   s₁.heap.get? fa=some o->o.data=.func (docDef d.name d.params d.body d.scope pm cd doc)->s₁.heap.CodeRec cd d.name->mg d.name=some (.ref fa) ->
   s₁.heap.get? a=some {cls:=.type "list",data:=.seq vs.toArray}->IntsAre vs ns->ns.length<=n->s₁.gens=#[] ->
   codeAny (model l.prog w) callerA (.call (.ref fa) ⟨[.ref a],[]⟩) (fun r s'=>r=.ok (.ret (.bool true))/\OldK s₁.heap s'.heap/\s'.os=s₁.os/\AllBare s'.gens) s₁) :
  WalkO q loose XP YP l.row.toRowW d [] (fun f vs=>PySem.call f vs):=by
 intro w s₀ s₁ mg mb G Y fa o pm cd doc dV kV ho hd hcd hD hmg hg args vals as hpre hlay hrd hwl hlo;obtain rfl:dV=.none:=Dflts.none hD hdf;obtain rfl:kV=.none:=Dflts.noKw hD;obtain⟨a,vs,ns,rfl,rfl,hobj,hints,hlen⟩:=L4 hn hpre hwl;refine enter_call (codeAny_mono (call w s₀ s₁ mg mb fa o pm cd doc a vs ns G Y ho (fd_plain hd) hcd hmg hobj hints hlen hg) fun r s' hq=>?_);obtain⟨rfl,h2,h3,h4⟩:=hq;exact⟨.inl ⟨.bool true,.bool true,[],rfl,fun _=>rfl,.bool true,U8 l _,fun _=>⟨List.Pairwise.nil,fun _ hm=>(nomatch hm)⟩⟩,h2,h3,h4⟩
end Att
namespace L2
open PySem PySem.Spec PyProof.Rows
theorem sJ:∀ {vs:List Value} {ns:List Int},IntsAre vs ns->Vals (ns.map V.int) vs
 | _,_,.nil=>.nil
 | _,_,.cons n t h=>.cons ⟨t,rfl⟩ (sJ h)
def zE(H:Hp):Prop:=∀ b,H b=none\/∃ o xs,H b=some (.frz o (.lst xs))
theorem BX{P:Program}{w:World}{K:PySem.W.Frag}{mg mb:Str->Option Value}{CX:gR}{k:Nat}{fa a:Addr}{fd:FuncData}{x:Str}{sp:Sp}{s₁:Shared}{vs:List Value}{ns:List Int}
  (KX:K.In s₁.heap) (hns:s₁.heap.Ns mainGlobals mg) (hb:s₁.heap.Ns builtinsNs mb) (hbb:∀ x:Str,x≠"__name__"->mb x=bootBuiltins x) (hlim:s₁.heap.NoLimit) (hg:s₁.gens=#[])
  (ha:s₁.heap.get? a=some {cls:=.type "list",data:=.seq vs.toArray}) (hi:IntsAre vs ns) (hl:ns.length<=sizeLine) (hr:Room k callerA)
  (F:∀ base:Heap,K.In base->base.Ns mainGlobals mg->FnOk P w K mg base CX k fa fd [x] sp) (hbind:∀ (s:Shared) (u:Value),BindsTo s fd ⟨[u],[]⟩ [(x,u)])
  (hsp:∀ H:Hp,zE H->SqL K H a (ns.map V.int)->sp [.ref a] H (fun v _=>v=.bl true) fun _ _ _=>False)
  (hCX:∀ H e s',CX [] H s₁ (fun _ _ _=>False) e s'->False) :
  codeAny (model P w) callerA (.call (.ref fa) ⟨[.ref a],[]⟩) (fun r s'=>r=.ok (.ret (.bool true))/\OldK s₁.heap s'.heap/\s'.os=s₁.os/\AllBare s'.gens) s₁:=by
 have rv:=sJ hi
 have lenV:=hi.length
 -- from an abstract heap in which nothing but the script may be tracked
 have core:∀ H:Hp,zE H->SqL K H a (ns.map V.int)->HOk P w H s₁.heap->(∀ b,H b≠none->b=a)->(H a≠none->K.lookup a=none) ->
   codeAny (model P w) callerA (.call (.ref fa) ⟨[.ref a],[]⟩) (fun r s'=>r=.ok (.ret (.bool true))/\OldK s₁.heap s'.heap/\s'.os=s₁.os/\AllBare s'.gens) s₁:=by
  intro H hO hS hok hA hK;have base_of:∀ {b:Addr} {o:Obj},s₁.heap.get? b=some o->H b=none->(jV s₁.heap H).get? b=some o:=fun e n=>Tm e n
  have noA:∀ {b:Addr} {o:Obj} {es:Array DictEntry} {ep:Nat},s₁.heap.get? b=some o->o.data=.dict es ep->H b=none:=fun {b o es ep} e d=>by
   cases q:H b with
   | none=>rfl
   | some u =>
    have e':b=a:=hA b (by rw[q];simp)
    subst e';rw[ha]at e;cases e;have d':Data.seq vs.toArray _=Data.dict es ep:=d
    cases d'
  have nsK:∀ {b:Addr} {m:Str->Option Value},s₁.heap.Ns b m->(jV s₁.heap H).Ns b m:=fun {b m} ⟨o,es,ep,e,d,r⟩=>⟨o,es,ep,base_of e (noA e d),d,r⟩
  have hKb:K.In (jV s₁.heap H):=fun b o e=>base_of (KX b o e) (by
   cases q:H b with
   | none=>rfl
   | some u =>
    have e':b=a:=hA b (by rw[q];simp)
    subst e';rw[hK (by rw[q];simp)]at e;cases e)
  have hM:Mod K mg (jV s₁.heap H):=⟨hKb,nsK hns,⟨mb,nsK hb,hbb⟩,let ⟨mc,h1,h2⟩:=hlim;⟨mc,nsK h1,h2⟩⟩
  have e0:Env0 P w K mg (jV s₁.heap H) callerA [] s₁ H:=⟨rfl,hM,fun b o e=>Qs e,Nat.le_of_eq (EK _ _),trivial,fun b hb=>absurd (show b∈([]:List Addr) from hb) (by simp),hok,.of_eq hg⟩
  refine codeAny_mono ((F _ hKb (nsK hns)).run callerA [] s₁ H ⟨[.ref a],[]⟩ [.ref a] [.ref a] _ _ hr e0 (hbind s₁ (.ref a)) (.cons rfl .nil) (hsp H hO hS)) fun r s' h=>?_
  cases r with
  | error e=>exact(hCX H e s' h).elim
  | ok fl =>
   cases fl with
   | next=>exact False.elim h
   | brk=>exact False.elim h
   | cont=>exact False.elim h
   | ret u =>
    obtain⟨v,H',os,bare,un,hok',r',q⟩:=h;have q':v=.bl true:=q
    subst q';obtain rfl:u=Value.bool true:=r';refine⟨rfl,OldK.of_keep fun b o e=>?_,os,bare⟩
    cases q:H b with
    | none=>exact un.keep b o e q (by intro z;exact absurd (show b∈([]:List Addr) from z) (by simp)) (by simp)
    | some u =>
     rcases hO b with z | ⟨ob,xs,z⟩
     ·rw[q]at z;cases z
     ·have z2:=un.frzs b ob _ z
      obtain⟨e1,_⟩:=hok b _ z;obtain⟨e2,_⟩:=hok' b _ z2;rw[e]at e1;cases e1;exact e2
 cases hk:K.lookup a with
 | some o =>
  -- the script is one of the module's own objects
  have e:=KX a o hk
  rw[ha]at e
  cases e
  refine core (fun _=>none) (fun _=>.inl rfl) (.inr ⟨_,vs.toArray,_,hk,rfl,rfl,rfl,by rw[List.size_toArray,lenV];exact hl,by simpa using rv⟩) (fun b u z=>by have z':(none:Option HO)=some u:=z;cases z') (fun b z=>absurd rfl z) fun z=>absurd rfl z
 | none =>
  refine core (fun b=>if b=a then some (.frz {cls:=.type "list",data:=.seq vs.toArray} (.lst (ns.map V.int))) else none) (fun b=>?_) (.inl (.inr ⟨{cls:=.type "list",data:=.seq vs.toArray},if_pos rfl⟩)) (fun b u z=>?_) (fun b z=>?_) fun _=>hk
  ·by_cases hb:b=a
   ·exact .inr ⟨_,_,if_pos hb⟩
   ·exact .inl (if_neg hb)
  ·by_cases hb:b=a
   ·have z':=(if_pos hb).symm.trans z
    cases z'
    subst hb;exact⟨ha,by rw[List.length_map];exact hl,vs,_,rv,ha⟩
   ·have z':=(if_neg hb).symm.trans z
    cases z'
  ·by_cases hb:b=a
   ·exact hb
   ·exact absurd (if_neg hb) z
end L2
namespace L2
open PySem PySem.Spec PyProof.Rows
theorem walk_of{l:PySem.W.OpenLaw}{n k:Nat}{q:Program}{loose:List Str}{XP:(Str->Option Value)->Heap->Prop}{YP:World->Heap->Prop}{d:DefRec}{K:Params->PySem.W.Frag}{CX:World->gR}{sp:World->Sp}{x:Str}
  (hn:l.most=some n) (hn2:n<=sizeLine) (hdf:d.params.defaults=[]) (hr:Room k callerA)
  (hY:∀ (w:World) (h:Heap),YP w h->(K w.params).In h)
  (F:∀ (w:World) (mg:Str->Option Value) (fa:Addr) (h:Heap),(K w.params).In h->h.Ns mainGlobals mg->mg d.name=some (.ref fa) ->
   ∃ fd:FuncData,(∀ (s:Shared) (u:Value),BindsTo s fd ⟨[u],[]⟩ [(x,u)]) /\
    ∀ base:Heap,(K w.params).In base->base.Ns mainGlobals mg->FnOk l.prog w (K w.params) mg base (CX w) k fa fd [x] (sp w))
  (hsp:∀ (w:World) (H:Hp) (a:Addr) (ns:List Int),ns.length<=n->zE H->SqL (K w.params) H a (ns.map V.int)->sp w [.ref a] H (fun v _=>v=.bl true) fun _ _ _=>False)
  (hCX:∀ (w:World) (H:Hp) (s:Shared) (e:Value) (s':Shared),CX w [] H s (fun _ _ _=>False) e s'->False) :
  PySem.W.WalkO q loose XP YP l.row.toRowW d [] (fun f vs=>PySem.call f vs):=by
 refine Att.attach_call hn hdf fun w s₀ s₁ mg mb fa o pm cd doc a vs ns G Y ho hd hcd hmg hobj hints hlen hg=>?_;have KX:=hY w _ Y
 obtain⟨fd,hb,hF⟩:=F w mg fa _ KX G.T.g hmg;exact BX KX G.T.g G.T.b G.T.builtins G.T.nolimit hg hobj hints (Nat.le_trans hlen hn2) hr hF hb (fun H hO hS=>hsp w H a ns hlen hO hS) fun H e s'=>hCX w H s₁ e s'
end L2
namespace L2
open PySem PySem.Spec PyProof.Rows
def oQ(s:Stmt):Arguments:=match s with
 | .FunctionDef _ a _ _ _ _ _ _ _ _=>a
 | _=>{posonlyargs:=[],args:=[],vararg:=none,kwonlyargs:=[],kw_defaults:=[],kwarg:=none,defaults:=[]}
def jI(s:Stmt):List Stmt:=match s with
 | .FunctionDef _ _ b _ _ _ _ _ _ _=>b
 | _=>[]
def bP(s:Stmt):Scope:=match s with
 | .FunctionDef _ _ _ _ _ _ sc _ _ _=>sc
 | _=>{kind:=.function,names:=[],isGenerator:=false,isCoroutine:=false}
abbrev fU:gR:=fun _ _ _ _ _ _=>False
abbrev E0:XK:=fun _ _ _=>False
theorem V2{X:Cx}:Ci fU X E0:=fun _ _ _ _ _ _ _ h=>h.elim
structure Fun (K:PySem.W.Frag) (x qual:Str) (st:Stmt) (f:Addr) (fd:FuncData):Prop where
 ex:∃ (oc:Value) (od:Option Addr) (kV doc pm:Value) (an:Option Addr) (cdv ct:Value) (osl:Array (Option Value)),
  fd=PySem.W.fnOf x qual (oQ st) (jI st) (bP st) .none kV doc pm an cdv ct/\K.lookup f=some ⟨oc,od,.func fd,osl⟩/\PySem.W.codeIn K cdv qual=true
 kp:PySem.W.keepIn K (.ref f)=true
section
variable {P:Program}{w:World}{K:PySem.W.Frag}{mg:Str->Option Value}{base:Heap}
theorem Fun.ok{x qual:Str}{st:Stmt}{f:Addr}{fd:FuncData}{N ps:List Str}{k:Nat}{sp:Sp}(F:Fun K x qual st f fd)(S:FnScope N ps (bP st))(len:∀ vs H Q E,sp vs H Q E->vs.length=ps.length)
  (hbody:∀ (cdv:Value) (A:Around) (outer:List Env) (s:Shared) (H:Hp) (vs:List V) (Q:VK) (E:XK),Room k (A.deeper (envOfC qual (bP st) s.heap.objs.size f cdv))->sp vs H Q E ->
   ∃ t,PSs (kD fU P w K mg base N qual (bP st) f cdv A outer s H E).nox (jI st) t/\t {nx:=fun _ H'=>Q .non H',rt:=Q} (start N vs) H):FnOk P w K mg base fU (k+1) f fd ps sp:=by
 obtain⟨oc,od,kV,doc,pm,an,cdv,ct,osl,rfl,lk,hcd⟩:=F.ex;refine Xp lk hcd S len fun A outer s H vs Q E hr hsp=>?_;obtain⟨t,h,q⟩:=hbody cdv A outer s H vs Q E hr hsp;exact⟨t,h.nox,q⟩
theorem Fun.binds{x qual:Str}{st:Stmt}{f:Addr}{fd:FuncData}{ps:List Str}(F:Fun K x qual st f fd)
  (h:∀ (kV doc pm:Value) (an:Option Addr) (cdv ct:Value) (us:List Value),us.length=ps.length->bindArgs (PySem.W.fnOf x qual (oQ st) (jI st) (bP st) .none kV doc pm an cdv ct) ⟨us,[]⟩=pure (ps.zip us)):Binds K fd ps []:=by
 obtain⟨oc,od,kV,doc,pm,an,cdv,ct,osl,rfl,lk,hcd⟩:=F.ex;exact .all (h kV doc pm an cdv ct)
theorem B4{x qual:Str}{st:Stmt}{f:Addr}{oc:Value}{od an:Option Addr}{osl:Array (Option Value)}{kV doc pm cdv ct:Value}(l:K.lookup f=some ⟨oc,od,.func (PySem.W.fnOf x qual (oQ st) (jI st) (bP st) .none kV doc pm an cdv ct),osl⟩)
  (c:PySem.W.codeIn K cdv qual=true) (k:PySem.W.keepIn K (.ref f)=true):Fun K x qual st f (PySem.W.fnOf x qual (oQ st) (jI st) (bP st) .none kV doc pm an cdv ct):=⟨⟨oc,od,kV,doc,pm,an,cdv,ct,osl,rfl,l,c⟩,k⟩
end
theorem AT{A B:Prop}(h:B):if false=true then A else B:=by
 rw[if_neg Bool.false_ne_true];exact h
theorem BL{A B:Prop}(h:A):if true=true then A else B:=by
 rw[if_pos rfl];exact h
def Same(H H':Hp):Prop:=∀ b o,H b=some o->H' b=some o
theorem Same.refl(H:Hp):Same H H:=fun _ _ h=>h
theorem Same.trans{H H1 H2:Hp}(a:Same H H1)(b:Same H1 H2):Same H H2:=fun c o h=>b c o (a c o h)
theorem Same.free{H H':Hp}(e:Same H H'){l:Addr}(h:H' l=Option.none):H l=Option.none:=by
 cases q:H l with
 | none=>rfl
 | some o =>
  rw[e l o q]at h
  cases h
theorem Same.seq{K:PySem.W.Frag}{H H':Hp}{a:Addr}{xs:List V}(e:Same H H')(h:SqL K H a xs):SqL K H' a xs:=by
 rcases h with (h | ⟨o,h⟩) | h
 ·exact .inl (.inl (e _ _ h))
 ·exact .inl (.inr ⟨o,e _ _ h⟩)
 ·exact .inr h
end L2
namespace L2
open PySem PySem.Spec PyProof.Rows
section
variable {κ:Type}[DecidableEq κ]
def cN(kvs:List (κ×V))(k:κ):Option V:=(kvs.find? fun kv=>decide (kv.1=k)).map (·.2)
def cI(kvs:List (κ×V))(k:κ)(v:V):List (κ×V) :=
 if (kvs.any fun kv=>decide (kv.1=k))=true then kvs.map (fun kv=>if kv.1=k then (kv.1,v) else kv) else kvs++[(k,v)]
def Op(kvs:List (κ×V))(k:κ):List (κ×V):=kvs.filter fun kv=>decide (kv.1≠k)
theorem pS{p:κ×V}{r:List (κ×V)}{k:κ}(e:p.1=k):cN (p::r) k=some p.2:=by simp[cN,List.find?_cons,e]
theorem rX{p:κ×V}{r:List (κ×V)}{k:κ}(e:¬ p.1=k):cN (p::r) k=cN r k:=by simp[cN,List.find?_cons,e]
theorem yX(k:κ):∀ kvs:List (κ×V),(kvs.any fun kv=>decide (kv.1=k))=(cN kvs k).isSome
 | []=>rfl
 | p::r=>by
  rw[List.any_cons]
  by_cases e:p.1=k
  ·simp only[pS e,decide_eq_true e,Bool.true_or,Option.isSome_some]
  ·rw[rX e,decide_eq_false e,Bool.false_or];exact yX k r
theorem uL(kvs:List (κ×V))(k:κ)(v:V):(cI kvs k v).length<=kvs.length+1:=by
 unfold cI
 split
 ·rw[List.length_map];omega
 ·rw[List.length_append,List.length_cons,List.length_nil];omega
theorem RelO.isSome_eq{o:Option V}{u:Option Value}(r:RelO o u):o.isSome=u.isSome:=by
 cases o with
 | none=>cases u with
  | none=>rfl
  | some _=>exact(show False from r).elim
 | some _=>cases u with
  | none=>exact(show False from r).elim
  | some _=>rfl
theorem RelO.getD{o:Option V}{u:Option Value}{d:V}{d':Value}(r:RelO o u)(rd:RelV d d'):RelV (o.getD d) (u.getD d'):=by
 cases o with
 | none=>cases u with
  | none=>exact rd
  | some _=>exact(show False from r).elim
 | some _=>cases u with
  | none=>exact(show False from r).elim
  | some _=>exact r
theorem KV.val{kvs:List (κ×V)}{vs:List (κ×Value)}(r:KV kvs vs)(k:κ):RelO (cN kvs k) (valueAt vs k):=by
 unfold KV at r
 induction r with
 | nil=>exact True.intro
 | @cons p q ps qs h t ih =>
  obtain⟨h1,h2⟩:=h
  by_cases e:p.1=k
  ·have e':q.1=k:=h1.symm.trans e
   have b:valueAt (q::qs) k=some q.2:=by simp[valueAt,List.find?_cons,e']
   rw[pS e,b];exact h2
  ·have e':¬ q.1=k:=fun z=>e (h1.trans z)
   have b:valueAt (q::qs) k=valueAt qs k:=by simp[valueAt,List.find?_cons,e']
   rw[rX e,b];exact ih
theorem KV.any{kvs:List (κ×V)}{vs:List (κ×Value)}(r:KV kvs vs)(k:κ):(kvs.any fun kv=>decide (kv.1=k))=vs.any fun kv=>decide (kv.1=k):=by
 unfold KV at r
 induction r with
 | nil=>rfl
 | cons h t ih=>rw[List.any_cons,List.any_cons,ih,h.1]
theorem KV.repl{kvs:List (κ×V)}{vs:List (κ×Value)}(r:KV kvs vs)(k:κ){y:V}{u:Value}(ry:RelV y u) :
  KV (kvs.map fun kv=>if kv.1=k then (kv.1,y) else kv) (vs.map fun kv=>if kv.1=k then (kv.1,u) else kv):=by
 unfold KV at r ⊢
 induction r with
 | nil=>exact .nil
 | @cons p q ps qs h t ih =>
  rw[List.map_cons,List.map_cons];refine .cons ?_ ih;obtain⟨h1,h2⟩:=h
  by_cases e:p.1=k
  ·rw[if_pos e,if_pos (h1.symm.trans e)];exact⟨h1,ry⟩
  ·rw[if_neg e,if_neg (fun z=>e (h1.trans z))];exact⟨h1,h2⟩
theorem KV.put{kvs:List (κ×V)}{vs:List (κ×Value)}(r:KV kvs vs)(k:κ){y:V}{u:Value}(ry:RelV y u):KV (cI kvs k y) (stored vs k u):=by
 unfold cI stored;rw[r.any k]
 by_cases e:(vs.any fun kv=>decide (kv.1=k))=true
 ·rw[if_pos e,if_pos e];exact r.repl k ry
 ·rw[if_neg e,if_neg e];exact Paired.snoc r ⟨rfl,ry⟩
theorem KV.drop{kvs:List (κ×V)}{vs:List (κ×Value)}(r:KV kvs vs)(k:κ):KV (Op kvs k) (without vs k):=by
 unfold KV at r ⊢;unfold Op without
 induction r with
 | nil=>exact .nil
 | @cons p q ps qs h t ih =>
  obtain⟨h1,h2⟩:=h;rw[List.filter_cons,List.filter_cons]
  by_cases e:p.1=k
  ·have a:¬ decide (p.1≠k)=true:=by simp[e]
   have b:¬ decide (q.1≠k)=true:=by simp[h1.symm.trans e]
   rw[if_neg a,if_neg b];exact ih
  ·have e':¬ q.1=k:=fun z=>e (h1.trans z)
   have a:decide (p.1≠k)=true:=by simp[e]
   have b:decide (q.1≠k)=true:=by simp[e']
   rw[if_pos a,if_pos b];exact .cons ⟨h1,h2⟩ ih
theorem KV.keys{kvs:List (κ×V)}{vs:List (κ×Value)}(r:KV kvs vs):kvs.map (·.1)=vs.map (·.1):=by
 unfold KV at r
 induction r with
 | nil=>rfl
 | cons h t ih=>rw[List.map_cons,List.map_cons,ih,h.1]
theorem KV.length{kvs:List (κ×V)}{vs:List (κ×Value)}(r:KV kvs vs):kvs.length=vs.length:=Paired.length r
end
theorem kP{P:Program}{w:World}{k:aN}{u:Value}(r:RelV (kV k) u):(bZ P w).is k u=true:=by
 cases k with
 | inl i=>obtain⟨t,e⟩:=(show ∃ t,u=Value.int i t from r);subst e;exact AF P w i t
 | inr x=>obtain⟨t,e⟩:=(show ∃ t,u=Value.str x t from r);subst e;exact x6 P w x t
theorem vW{P:Program}{w:World}:∀ {ks:List aN} {us:List Value},Vals (ks.map kV) us->ItemsAre (bZ P w) ks us
 | [],_,r=>by rw[List.map_nil]at r;cases r;exact .nil
 | k::ks,_,r=>by
  rw[List.map_cons]at r
  cases r with
  | cons h t=>exact .cons (kP h) (vW t)
abbrev KT(H:Hp):List (List aN×V)->List (List aN×Addr×Value)->Prop:=Paired fun p q=>p.1=q.1/\H q.2.1=some (.tup (p.1.map kV))/\RelV p.2 q.2.2
theorem KT.val{H:Hp}{kvs:List (List aN×V)}{xs:List (List aN×Addr×Value)}(r:KT H kvs xs)(k:List aN):RelO (cN kvs k) ((atKey xs k).map (·.2)):=by
 induction r with
 | nil=>exact True.intro
 | @cons p q ps qs h t ih =>
  obtain⟨h1,_,h2⟩:=h
  by_cases e:p.1=k
  ·have e':q.1=k:=h1.symm.trans e
   have b:atKey (q::qs) k=some q.2:=by simp[atKey,List.find?_cons,e']
   rw[pS e,b];exact h2
  ·have e':¬ q.1=k:=fun z=>e (h1.trans z)
   have b:atKey (q::qs) k=atKey qs k:=by simp[atKey,List.find?_cons,e']
   rw[rX e,b];exact ih
theorem KT.repl{H:Hp}{kvs:List (List aN×V)}{xs:List (List aN×Addr×Value)}(r:KT H kvs xs)(k:List aN){y:V}{u:Value}(ry:RelV y u) :
  KT H (kvs.map fun kv=>if kv.1=k then (kv.1,y) else kv) (xs.map (putAt k u)):=by
 induction r with
 | nil=>exact .nil
 | @cons p q ps qs h t ih =>
  rw[List.map_cons,List.map_cons];refine .cons ?_ ih;obtain⟨h1,h2,h3⟩:=h;unfold putAt
  by_cases e:p.1=k
  ·rw[if_pos e,if_pos (h1.symm.trans e)];exact⟨h1,h2,ry⟩
  ·rw[if_neg e,if_neg (fun z=>e (h1.trans z))];exact⟨h1,h2,h3⟩
theorem KT.put{H:Hp}{kvs:List (List aN×V)}{xs:List (List aN×Addr×Value)}(r:KT H kvs xs)(k:List aN){b:Addr}{y:V}{u:Value}(hb:H b=some (.tup (k.map kV)))(ry:RelV y u) :
  KT H (cI kvs k y) (storedH xs k b u):=by
 have e:(kvs.any fun kv=>decide (kv.1=k))=(atKey xs k).isSome:=by
  rw[yX,(r.val k).isSome_eq,Option.isSome_map]
 unfold cI storedH;rw[e]
 by_cases q:(atKey xs k).isSome=true
 ·rw[if_pos q,if_pos q];exact r.repl k ry
 ·rw[if_neg q,if_neg q];exact Paired.snoc r ⟨rfl,hb,ry⟩
theorem KT.keeps{H H':Hp}{kvs:List (List aN×V)}{xs:List (List aN×Addr×Value)}(r:KT H kvs xs)(ht:∀ b ys,H b=some (.tup ys)->H' b=some (.tup ys)):KT H' kvs xs :=
 Paired.mapP r fun _ _ z=>⟨z.1,ht _ _ z.2.1,z.2.2⟩
section
variable {P:Program}{w:World}{H:Hp}{h:Heap}{a:Addr}
theorem Ka{u:HO}(ok:HOk P w H h)(e:Rd H a u):ObjOk P w H h a u:=e.ok ok
theorem nJ{kvs:List (aN×V)}(ok:HOk P w H h)(e:Rd H a (.dK kvs)):kvs.length<=sizeLine/\(a==sysModules)=false/\∃ vs,KV kvs vs/\h.DictOf (bZ P w) a vs :=
 show ObjOk P w H h a (.dK kvs) from Ka ok e
theorem vH{kvs:List (aN×V)}(ok:HOk P w H h)(e:H a=some (.dK kvs)):kvs.length<=sizeLine/\(a==sysModules)=false/\∃ vs,KV kvs vs/\h.DictOf (bZ P w) a vs:=nJ ok (.inl e)
theorem sT{ks:List aN}(ok:HOk P w H h)(e:H a=some (.tup (ks.map kV))):(tupleKind (bZ P w)).is h ks a:=by
 obtain⟨_,its,r,o,h1,h2,n,h3⟩:=(show ObjOk P w H h a (.tup (ks.map kV)) from ok a _ e)
 exact⟨o,its.toArray,n,h1,h2,h3,by simpa using vW r⟩
theorem nZ{kvs:List (List aN×V)}(ok:HOk P w H h)(e:Rd H a (.dT kvs)):kvs.length<=sizeLine/\(a==sysModules)=false /\
  ∃ xs,KT H kvs xs/\h.DictOfH (tupleKind (bZ P w)) a xs:=by
 obtain⟨z,y,xs,r,o,es,ep,h1,h2,h3,h4,h5⟩:=(show ObjOk P w H h a (.dT kvs) from Ka ok e)
 refine⟨z,y,xs,r,o,es,ep,h1,h2,h3,h4,fun x hx=>?_,h5⟩;have all:∀ {l:List (List aN×V)} {m:List (List aN×Addr×Value)},KT H l m->∀ x∈m,(tupleKind (bZ P w)).is h x.1 x.2.1:=by
  intro l m q
  induction q with
  | nil=>intro x hx;exact nomatch hx
  | @cons p q ps qs hq t ih =>
   intro x hx;rcases List.mem_cons.mp hx with e | hx
   ·subst e;exact sT ok (by rw[<- hq.1];exact hq.2.1)
   ·exact ih x hx
 exact all r x hx
theorem Uz{kvs:List (List aN×V)}(ok:HOk P w H h)(e:H a=some (.dT kvs)):kvs.length<=sizeLine/\(a==sysModules)=false /\
  ∃ xs,KT H kvs xs/\h.DictOfH (tupleKind (bZ P w)) a xs:=nZ ok (.inl e)
end
def DGet(H:Hp)(a:Addr)(y:V)(r:Option V):Prop :=
 (∃ kvs k,Rd H a (.dK kvs)/\y=kV k/\r=cN kvs k)\/∃ kvs k b,Rd H a (.dT kvs)/\y=.ref b/\H b=some (.tup (k.map kV))/\r=cN kvs k
def DPut(H:Hp)(a:Addr)(y v:V)(H':Hp):Prop :=
 (∃ kvs k,H a=some (.dK kvs)/\y=kV k/\kvs.length<sizeLine/\H'=upd H a (.dK (cI kvs k v))) \/
 ∃ kvs k b,H a=some (.dT kvs)/\y=.ref b/\H b=some (.tup (k.map kV))/\kvs.length<sizeLine/\H'=upd H a (.dT (cI kvs k v))
theorem DGet.k{H:Hp}{a:Addr}{kvs:List (aN×V)}{k:aN}(e:H a=some (.dK kvs)):DGet H a (kV k) (cN kvs k):=.inl ⟨kvs,k,.inl e,rfl,rfl⟩
theorem DGet.t{H:Hp}{a b:Addr}{kvs:List (List aN×V)}{k:List aN}(e:H a=some (.dT kvs))(eb:H b=some (.tup (k.map kV))):DGet H a (.ref b) (cN kvs k):=.inr ⟨kvs,k,b,.inl e,rfl,eb,rfl⟩
theorem DPut.k{H:Hp}{a:Addr}{kvs:List (aN×V)}{k:aN}{v:V}(e:H a=some (.dK kvs))(hl:kvs.length<sizeLine):DPut H a (kV k) v (upd H a (.dK (cI kvs k v))):=.inl ⟨kvs,k,e,rfl,hl,rfl⟩
theorem DPut.t{H:Hp}{a b:Addr}{kvs:List (List aN×V)}{k:List aN}{v:V}(e:H a=some (.dT kvs))(eb:H b=some (.tup (k.map kV)))(hl:kvs.length<sizeLine) :
  DPut H a (.ref b) v (upd H a (.dT (cI kvs k v))):=.inr ⟨kvs,k,b,e,rfl,eb,hl,rfl⟩
section
variable {X:Cx}{pins:List (Addr×Obj)}{σ:St}{H:Hp}{s:Shared}{a:Addr}{y v:V}{u r:Value}{o:Option V}{A:Around}{E:Value->Shared->Prop}
theorem Inv.big(I:Inv X pins σ H s):sysModules<s.heap.objs.size:=by
 have h:mainGlobals<s.heap.objs.size:=(I.mod.glob.keeps I.bk).lt
 exact Nat.lt_trans (by decide) h
theorem F5{Q:Value->Shared->Prop}(hu:A.units+1<cLine)(I:Inv X pins σ H s)(g:DGet H a y (some v))(ry:RelV y u)(h:∀ w' s',Inv X pins σ H s'->RelV v w'->Q w' s') :
  wpAny (model X.prog X.w) A (getItem (.ref a) u) Q E s:=by
 rcases g with⟨kvs,k,e,ey,l⟩ | ⟨kvs,k,b,e,ey,eb,l⟩
 ·subst ey;obtain⟨z,hd,vs,rel,dd⟩:=nJ I.hok e;obtain⟨w',hw,rw'⟩:=RelO.some_of (v:=v) (o:=valueAt vs k) (by rw[l];exact rel.val k)
  exact wpAny_getItem_of (kP ry) dd.mapOf hw (h w' _ (I.tok _) rw')
 ·subst ey
  cases (show u=Value.ref b from ry)
  obtain⟨z,hd,xs,rel,dd⟩:=nZ I.hok e;obtain⟨w',hw,rw'⟩:=RelO.some_of (v:=v) (o:=(atKey xs k).map (·.2)) (by rw[l];exact rel.val k)
  obtain⟨p,hp,hp2⟩:=Option.map_eq_some_iff.mp hw;refine wpAny_getItem_heap (tupleKind_room_in1 hu) (sT I.hok eb) dd hp ?_;rw[hp2];exact h w' _ (I.tok _) rw'
theorem DH{Q:Value->Shared->Prop}(hu:A.units+1<cLine)(I:Inv X pins σ H s)(g:DGet H a y o)(ry:RelV y u)(h:∀ s',Inv X pins σ H s'->Q (.bool o.isSome) s') :
  wpAny (model X.prog X.w) A (compareOp .In u (.ref a)) Q E s:=by
 rcases g with⟨kvs,k,e,ey,l⟩ | ⟨kvs,k,b,e,ey,eb,l⟩
 ·subst ey;obtain⟨z,hd,vs,rel,dd⟩:=nJ I.hok e;refine wpAny_in_of (kP ry) hd dd.mapOf ?_;rw[<- (rel.val k).isSome_eq,<- l];exact h _ (I.tok _)
 ·subst ey
  cases (show u=Value.ref b from ry)
  obtain⟨z,hd,xs,rel,dd⟩:=nZ I.hok e;refine wpAny_in_heap (tupleKind_room_in1 hu) (sT I.hok eb) hd dd ?_;have q:=(rel.val k).isSome_eq
  rw[Option.isSome_map]at q;rw[<- q,<- l];exact h _ (I.tok _)
theorem G3{Q:Value->Shared->Prop}(hu:A.units+1<cLine)(I:Inv X pins σ H s)(g:DGet H a y o)(ry:RelV y u)(h:∀ s',Inv X pins σ H s'->Q (.bool (!o.isSome)) s') :
  wpAny (model X.prog X.w) A (compareOp .NotIn u (.ref a)) Q E s:=by
 rcases g with⟨kvs,k,e,ey,l⟩ | ⟨kvs,k,b,e,ey,eb,l⟩
 ·subst ey;obtain⟨z,hd,vs,rel,dd⟩:=nJ I.hok e;refine wpAny_notIn_of (kP ry) hd dd.mapOf ?_;rw[<- (rel.val k).isSome_eq,<- l];exact h _ (I.tok _)
 ·subst ey
  cases (show u=Value.ref b from ry)
  obtain⟨z,hd,xs,rel,dd⟩:=nZ I.hok e;refine wpAny_notIn_heap (tupleKind_room_in1 hu) (sT I.hok eb) hd dd ?_;have q:=(rel.val k).isSome_eq
  rw[Option.isSome_map]at q;rw[<- q,<- l];exact h _ (I.tok _)
theorem rS{h':Heap}{t':Nat}{ob:HO}(I:Inv X pins σ H s)(mu:pC (H a))(hs:Heap.SameBut a s.heap h')(he:∃ q,h'.get? a=some q)(new:ObjOk X.prog X.w (upd H a ob) h' a ob) :
  Inv X pins σ (upd H a ob) {s with heap:=h',toks:=t'} :=
 I.write (x:=a) (e:=a) mu (.inl rfl) (fun b q hb z=>(hs.2 b hb).trans z) he new
theorem Bl{P:Program}{w:World}{H':Hp}{h':Heap}{kvs:List (aN×V)}{vs:List (aN×Value)}(z:kvs.length<=sizeLine)(hd:(a==sysModules)=false)(rel:KV kvs vs)(dd:h'.DictOf (bZ P w) a vs) :
  ObjOk P w H' h' a (.dK kvs):=⟨z,hd,vs,rel,dd⟩
theorem F4{H':Hp}{Q:Unit->Shared->Prop}(hu:A.units+1<cLine)(I:Inv X pins σ H s)(g:DPut H a y v H')(ry:RelV y u)(rv:RelV v r)(h:∀ s',Inv X pins σ H' s'->Q () s') :
  wpAny (model X.prog X.w) A (setItem (.ref a) u r) Q E s:=by
 rcases g with⟨kvs,k,e,ey,l,eH⟩ | ⟨kvs,k,b,e,ey,eb,l,eH⟩
 ·subst ey eH;obtain⟨z,hd,vs,rel,dd⟩:=vH I.hok e;have hz:vs.length<=sizeLine:=by rw[<- rel.length];exact z
  have hl:(cI kvs k v).length<=sizeLine:=by have:=uL kvs k v;omega
  refine wpAny_setItem_pairs (hsz:=hz) (kP ry) dd fun h' dd' hs=>h _ ?_;have he:∃ q,h'.get? a=some q:=let ⟨q,_,_,hq,_⟩:=dd';⟨q,hq⟩
  exact rS I (by rw[e];exact True.intro) hs he (Bl hl hd (rel.put k rv) dd')
 ·subst ey eH
  cases (show u=Value.ref b from ry)
  obtain⟨z,hd,xs,rel,dd⟩:=Uz I.hok e;have hz:xs.length<=sizeLine:=by rw[<- Paired.length rel];exact z
  have hl:(cI kvs k v).length<=sizeLine:=by have:=uL kvs k v;omega
  refine wpAny_setItem_heap (hsz:=hz) (tupleKind_room_in1 hu) (sT I.hok eb) dd fun h' dd' hs=>h _ ?_;obtain⟨q,es,ep,hq,h2,h3,h4,_,h5⟩:=dd';refine rS I (by rw[e];exact True.intro) hs ⟨q,hq⟩ ⟨hl,hd,_,(rel.put k eb rv).keeps fun c ys ec=>?_,q,es,ep,hq,h2,h3,h4,h5⟩
  rw[bR (zD ec e (fun z=>nomatch z))];exact ec
end
def nH(i:Expr):Prop:=∀ ov iv,subscripted i false ov iv=operate [ov,iv] (getItem ov iv)
theorem Gw{prog:Program}{w:World}{A:Around}{E:Value->Shared->Prop}{s:Shared}{env:Env}{value slice:Expr}{pos:Pos}{T id:String}{Q:Value->Shared->Prop}
  (hl:typeLookup (.type T) "__getitem__"=pure (some (.builtin id))) (hs:nH slice)
  (h:wpAny (model prog w) A (eval value env) (fun o s₁=>wpAny (model prog w) A (eval slice env) (fun i s₂=>s₂.TypeIs o T/\wpAny (model prog w) A (getItem o i) Q E s₂) E s₁) E s) :
  wpAny (model prog w) A (eval (.Subscript value slice pos) env) Q E s:=by
 refine Subscript_ (wpAny_mono h (fun o s₁ h₁=>wpAny_mono h₁ (fun i s₂ h₂=>?_) fun _ _ x=>x) fun _ _ x=>x);obtain⟨hT,h₂⟩:=h₂;unfold subscriptTail;refine wpAny_bind ?_;rw[getitemInPython_of_ne hT.not_modules];refine wpAny_bind (wpAny_specialOf hT hl ?_);have fin:wpAny (model prog w) A (subscripted slice false o i) (fun r s₃=>wpAny (model prog w) A (letTemporaryGo value o r>>=fun _=>pure r) Q E s₃) E s₂:=by
  rw[hs o i];exact wpAny_operating (wpAny_mono h₂ (fun r s₃ h₃=>wpAny_bind (wpAny_letTemporaryGo (wpAny_pure h₃))) fun _ _ x=>x)
 first
  | exact wpAny_pure (wpAny_bind fin)
  | exact wpAny_bind (wpAny_pure (wpAny_bind fin))
  | exact wpAny_bind fin
theorem Sb{X:Cx}{pins:List (Addr×Obj)}{σ:St}{H:Hp}{s:Shared}{a:Addr}{y:V}{o:Option V}(I:Inv X pins σ H s)(g:DGet H a y o):s.TypeIs (.ref a) "dict":=by
 rcases g with⟨kvs,k,e,_,_⟩ | ⟨kvs,k,b,e,_,_,_⟩
 ·obtain⟨_,_,vs,_,dd⟩:=nJ I.hok e;exact dd.typeIs
 ·obtain⟨_,_,xs,_,dd⟩:=nZ I.hok e;exact dd.typeIs
def Pg(td ty:TE):TE:=fun σ H Q=>td σ H fun x H1=>ty σ H1 fun y H2=>∃ a v,x=.ref a/\DGet H2 a y (some v)/\Q v H2
def C4(td ty tv:TE):TS:=fun D σ H=>tv σ H fun v H1=>td σ H1 fun x H2=>ty σ H2 fun y H3=>∃ a H4,x=.ref a/\DPut H3 a y v H4/\D.nx σ H4
section
variable {X:Cx}{o i e value:Expr}{pos pos' tpos:Pos}{td ty tv:TE}
theorem n4(hu:X.A.units+1<cLine)(ho:PE X o td)(hi:PE X i ty)(hs:nH i):PE X (.Subscript o i pos) (Pg td ty):=by
 intro pins s σ H Q I h;refine Gw PySem.F.slot_dict_getitem.lookup hs (bA (ho pins s σ H _ I h) fun u s1 ⟨x,H1,I1,rx,q1⟩=>bA (hi pins s1 σ H1 _ I1 q1) fun iv s2 ⟨y,H2,I2,ry,a,v,ex,g,q2⟩=>?_);subst ex;obtain rfl:u=Value.ref a:=rx;exact⟨Sb I2 g,F5 hu I2 g ry fun w' s3 I3 rw'=>⟨v,H2,I3,rw',q2⟩⟩
theorem Wc(hu:X.A.units+1<cLine)(ho:PE X o td)(hi:PE X i ty)(hv:PE X value tv)(hs:swapsWith value (some (.Subscript o i pos')) pos.line X.env=pure false) :
  PS X (.Assign [.Subscript o i pos'] value pos) (C4 td ty tv):=by
 intro pins s σ H D I h;refine wpAny_Assign_Subscript (bA (hv pins s σ H _ I h) fun r s1 ⟨v,H1,I1,rv,q1⟩=>bA (ho pins s1 σ H1 _ I1 q1) fun u s2 ⟨x,H2,I2,rx,q2⟩=>bA (hi pins s2 σ H2 _ I2 q2) fun iv s3 ⟨y,H3,I3,ry,a,H4,ex,g,q3⟩=>?_) hs;subst ex;obtain rfl:u=Value.ref a:=rx;exact F4 hu I3 g ry rv fun s4 I4=>⟨σ,H4,I4,q3⟩
end
theorem Nf{P:Program}{w:World}{H:Hp}(h:Heap)(hb:sysModules<h.objs.size):ObjOk P w H (h.push {cls:=.type "dict",data:=.dict #[]}) h.objs.size (.dK []) :=
 ⟨Nat.zero_le _,beq_eq_false_iff_ne.mpr (Ne.symm (Nat.ne_of_lt hb)),[],.nil,Heap.DictOf.new h⟩
def vL:List (TE×TE)->St->Hp->(List (V×V)->Hp->Prop)->Prop
 | [],_,H,Q=>Q [] H
 | (tk,tv)::r,σ,H,Q=>tk σ H fun x H1=>tv σ H1 fun y H2=>vL r σ H2 fun ps H3=>Q ((x,y)::ps) H3
abbrev VV:List (V×V)->List (Value×Value)->Prop:=Paired fun p q=>RelV p.1 q.1/\RelV p.2 q.2
def uU(X:Cx)(pos:Pos)(keys:List (Option Expr))(values:List Expr)(trs:List (TE×TE)):Prop :=
 ∀ (pins:List (Addr×Obj)) (s:Shared) (σ:St) (H:Hp) (Q:List (V×V)->Hp->Prop),Inv X pins σ H s->vL trs σ H Q ->
  wpAny (model X.prog X.w) X.A (evalPairs (pairTrees keys values X.env pos)) (fun vs s'=>∃ ps H',Inv X pins σ H' s'/\VV ps vs/\Q ps H') X.xe s
theorem CY{X:Cx}{pos:Pos}:uU X pos [] [] []:=fun pins s σ H Q I h=>pairTrees_nil_walk ⟨[],H,I,.nil,h⟩
theorem M6{X:Cx}{pos:Pos}{k v:Expr}{ks:List (Option Expr)}{vs:List Expr}{tk tv:TE}{trs:List (TE×TE)}(hk:PE X k tk)(hv:PE X v tv)(hr:uU X pos ks vs trs) :
  uU X pos (some k::ks) (v::vs) ((tk,tv)::trs):=fun pins s σ H Q I h =>
 pairTrees_cons_walk (bA (hk pins s σ H _ I h) fun u s1 ⟨x,H1,I1,rx,q1⟩=>bA (hv pins s1 σ H1 _ I1 q1) fun w2 s2 ⟨y,H2,I2,ry,q2⟩ =>
  bA (hr pins s2 σ H2 _ I2 q2) fun ws s3 ⟨ps,H3,I3,rel,q3⟩=>⟨(x,y)::ps,H3,I3,.cons ⟨rx,ry⟩ rel,q3⟩)
def kO(kvs more:List (aN×V)):List (aN×V):=more.foldl (fun acc kv=>cI acc kv.1 kv.2) kvs
theorem KV.merge:∀ {more:List (aN×V)} {rs:List (aN×Value)} {kvs:List (aN×V)} {vs:List (aN×Value)},KV more rs->KV kvs vs->KV (kO kvs more) (merged vs rs):=by
 intro more rs kvs vs r;unfold KV at r
 induction r generalizing kvs vs with
 | nil=>intro q;exact q
 | @cons p q ps qs h t ih =>
  intro r0;have e:KV (cI kvs p.1 p.2) (stored vs q.1 q.2):=by
   have:=r0.put p.1 h.2
   rw[<- h.1];exact this
  exact ih e
theorem At:∀ (more kvs:List (aN×V)),(kO kvs more).length<=kvs.length+more.length
 | [],kvs=>by show kvs.length<=kvs.length+0;omega
 | p::r,kvs=>by
  have h1:=At r (cI kvs p.1 p.2)
  have h2:=uL kvs p.1 p.2
  show(kO (cI kvs p.1 p.2) r).length<=_
  rw[List.length_cons];omega
theorem Ls{P:Program}{w:World}:∀ {kvs:List (aN×V)} {ws:List (Value×Value)},VV (kvs.map fun kv=>(kV kv.1,kv.2)) ws->∃ rs,Carries (bZ P w) ws rs/\KV kvs rs
 | [],_,r=>by rw[List.map_nil]at r;cases r;exact⟨[],True.intro,.nil⟩
 | p::kvs,_,r=>by
  rw[List.map_cons]at r
  cases r with
  | @cons a b as bs h t =>
   obtain⟨rs,c,q⟩:=Ls (P:=P) (w:=w) t;obtain⟨b1,b2⟩:=b;exact⟨(p.1,b2)::rs,⟨kP h.1,rfl,c⟩,.cons ⟨rfl,h.2⟩ q⟩
structure M1 (X:Cx) (o:Expr) (m:Str) (apos:Pos) (e:Expr) (cpos:Pos):Prop where
 base:attributeBase o m X.env (eval o X.env)=eval o X.env
 few:((backTo cpos (starEach [e] X.env)).all (fun x=>!x.1)&&(backToKw cpos (keywordEach [] X.env)).all (fun x=>x.1.isSome)
  && decide (([e]:List Expr).length+([]:List Keyword).length+(if ([]:List Keyword).isEmpty then 0 else 1)<30))=true
 line:(apos.endLine==cpos.line)=true
 trees:backTo cpos (starEach [e] X.env)=[(false,eval e X.env)]
def x4(H:Hp)(a:Addr):Prop:=(∃ kvs,Rd H a (.dK kvs))\/∃ kvs,Rd H a (.dT kvs)
theorem Wl{X:Cx}{pins:List (Addr×Obj)}{σ:St}{H:Hp}{s:Shared}{a:Addr}(I:Inv X pins σ H s)(d:x4 H a) :
  s.TypeIs (.ref a) "dict"/\(∀ b,Value.ref a=.ref b->∃ ob,s.heap.get? b=some ob/\ob.dict=none)/\(a==sysModules)=false:=by
 rcases d with⟨kvs,e⟩ | ⟨kvs,e⟩
 ·obtain⟨_,hd,vs,_,dd⟩:=nJ I.hok e;refine⟨dd.typeIs,fun b q=>?_,hd⟩
  cases q
  obtain⟨ob,_,_,h1,h2,_⟩:=dd;exact⟨ob,h1,h2.2.1⟩
 ·obtain⟨_,hd,xs,_,dd⟩:=nZ I.hok e;refine⟨dd.typeIs,fun b q=>?_,hd⟩
  cases q
  obtain⟨ob,_,_,h1,h2,_⟩:=dd;exact⟨ob,h1,h2.2.1⟩
end L2
namespace DL
open PySem PySem.Spec PyProof.Rows L2
inductive D where
 | dat (p:PyData)
 | cel (a:Addr)
inductive Cel where
 | l (xs:List PyData)
 | d (kvs:List (aN×PyData))
 | t (kvs:List (List aN×PyData))
 | dl (kas:List (aN×Addr))
 | fd (kvs:List (aN×PyData))
 | ft (kvs:List (List aN×PyData))
 | n (kvs:List (List PyData×D))
 | g (kvs:List (aN×D))
 | o (N:Str) (fs:List (Str×D))
@[simp] def rJ:Option Cel->Bool
 | some (.fd _)=>true
 | some (.ft _)=>true
 | _=>false
abbrev Mu:=Addr->Option Cel
abbrev bO:=List (Option D)
@[simp] def Kv:aN->PyData
 | .inl i=>.int i
 | .inr z=>.str z
def Oh:PyData:=.int (2^1930)
theorem Vt:Oh.showable=false:=by
 show decide ((((2:Int)^1930).natAbs).log2<1920)=false
 rw[Int.natAbs_pow,show(2:Int).natAbs=2 from rfl,Nat.log2_two_pow]
 decide
def BU(K:PySem.W.Frag):HO->List (PyData×V)->Prop
 | .dK ws,vs=>vs=ws.map fun kv=>(Kv kv.1,kv.2)
 | .dT ws,vs=>vs=ws.map fun kv=>(.tuple (kv.1.map Kv),kv.2)
 | .dN K' ws,vs=>K'=K/\vs=ws.map fun kv=>(.tuple kv.1,kv.2)
 | _,_=>False
mutual
def RP(K:PySem.W.Frag)(Z:Addr->Prop)(m:Mu)(H:Hp):PyData->V->Prop
 | .none,v=>v=.non
 | .bool b,v=>v=.bl b
 | .int i,v=>v=.int i
 | .str x,v=>v=.str x
 | .tuple xs,v=>∃ a vs,v=.ref a/\SqT K H a vs/\RPs K Z m H xs vs
 | .list xs,v=>∃ a vs,v=.ref a/\(m a=none/\¬ Z a)/\SqL K H a vs/\RPs K Z m H xs vs
 | .dict kvs,v=>∃ a o u vs,v=.ref a/\H a=some (.frz o u)/\BU K u vs/\RPd K Z m H kvs ((Oh,.non)::vs)
def RPd(K:PySem.W.Frag)(Z:Addr->Prop)(m:Mu)(H:Hp):List (PyData×PyData)->List (PyData×V)->Prop
 | [],vs=>vs=[]
 | (k,p)::xs,vs=>∃ v r,vs=(k,v)::r/\RP K Z m H p v/\RPd K Z m H xs r
def RPs(K:PySem.W.Frag)(Z:Addr->Prop)(m:Mu)(H:Hp):List PyData->List V->Prop
 | [],vs=>vs=[]
 | x::xs,vs=>∃ v r,vs=v::r/\RP K Z m H x v/\RPs K Z m H xs r
end
def RD(K:PySem.W.Frag)(Z:Addr->Prop)(m:Mu)(H:Hp):D->V->Prop
 | .dat p,v=>RP K Z m H p v
 | .cel a,v=>v=.ref a/\(m a).isSome=true
def RDs(K:PySem.W.Frag)(Z:Addr->Prop)(m:Mu)(H:Hp):List D->List V->Prop
 | [],vs=>vs=[]
 | x::xs,vs=>∃ v r,vs=v::r/\RD K Z m H x v/\RDs K Z m H xs r
def RKV{κ:Type}(K:PySem.W.Frag)(Z:Addr->Prop)(m:Mu)(H:Hp):List (κ×PyData)->List (κ×V)->Prop
 | [],vs=>vs=[]
 | (k,p)::xs,vs=>∃ v r,vs=(k,v)::r/\RP K Z m H p v/\RKV K Z m H xs r
def RW(K:PySem.W.Frag)(Z:Addr->Prop)(m:Mu)(H:Hp):D->V->Prop
 | .dat p,v=>RP K Z m H p v
 | .cel a,v=>v=.ref a
def RKW{κ:Type}(K:PySem.W.Frag)(Z:Addr->Prop)(m:Mu)(H:Hp):List (κ×D)->List (κ×V)->Prop
 | [],vs=>vs=[]
 | (k,p)::xs,vs=>∃ v r,vs=(k,v)::r/\RW K Z m H p v/\RKW K Z m H xs r
def RC(K:PySem.W.Frag)(Z:Addr->Prop)(m:Mu)(H:Hp):Cel->HO->Prop
 | .l xs,.lst vs=>RPs K Z m H xs vs
 | .d kvs,.dK vs=>RKV K Z m H kvs vs
 | .t kvs,.dT vs=>RKV K Z m H kvs vs
 | .dl kas,.dK vs=>vs=kas.map fun x=>(x.1,V.ref x.2)
 | .fd kvs,.frz _ (.dK vs)=>RKV K Z m H kvs vs
 | .ft kvs,.frz _ (.dT vs)=>RKV K Z m H kvs vs
 | .n kvs,.dN K' vs=>K'=K/\RKW K Z m H kvs vs
 | .g kvs,.dK vs=>RKW K Z m H kvs vs
 | .o N fs,.ins C _ vs=>PySem.W.nsIn K mainGlobals N=some (some (.ref C))/\RKW K Z m H fs vs
 | _,_=>False
structure Ok (K:PySem.W.Frag) (Z:Addr->Prop) (m:Mu) (H:Hp):Prop where
 g:∀ a c,m a=some c->∃ o,H a=some o/\RC K Z m H c o
 z:∀ a,Z a->m a=none/\H a≠none
structure Ext (K:PySem.W.Frag) (Z:Addr->Prop) (m:Mu) (H:Hp) (m':Mu) (H':Hp):Prop where
 t:∀ a vs,SqT K H a vs->SqT K H' a vs
 l:∀ a vs,(m a=none/\¬ Z a)->SqL K H a vs->m' a=none/\SqL K H' a vs
 z:∀ a,Z a->H' a=H a
 c:∀ a,(m a).isSome=true->(m' a).isSome=true
 fz:∀ a o u,H a=some (.frz o u)->H' a=some (.frz o u)
 fm:∀ a,rJ (m a)=true->m' a=m a
section
variable {K:PySem.W.Frag}{Z:Addr->Prop}{m m' m2:Mu}{H H' H2:Hp}
theorem Ext.refl:Ext K Z m H m H:=⟨fun _ _ h=>h,fun _ _ h1 h2=>⟨h1.1,h2⟩,fun _ _=>rfl,fun _ h=>h,fun _ _ _ h=>h,fun _ _=>rfl⟩
theorem Ext.trans(a:Ext K Z m H m' H')(b:Ext K Z m' H' m2 H2):Ext K Z m H m2 H2 :=
 ⟨fun x vs h=>b.t x vs (a.t x vs h),fun x vs h1 h2=>let ⟨q1,q2⟩:=a.l x vs h1 h2;b.l x vs ⟨q1,h1.2⟩ q2,fun x h=>(b.z x h).trans (a.z x h),fun x h=>b.c x (a.c x h),fun x o u h=>b.fz x o u (a.fz x o u h),fun x h=>by
  have q:=a.fm x h
  rw[b.fm x (by rw[q];exact h),q]⟩
mutual
theorem RP.ext(e:Ext K Z m H m' H'):∀ (p:PyData) (v:V),RP K Z m H p v->RP K Z m' H' p v
 | .none,v,h=>by simpa only[RP] using h
 | .bool _,v,h=>by simpa only[RP] using h
 | .int _,v,h=>by simpa only[RP] using h
 | .str _,v,h=>by simpa only[RP] using h
 | .tuple xs,v,h=>by
  simp only[RP]at h ⊢;obtain⟨a,vs,h1,h2,h3⟩:=h;exact⟨a,vs,h1,e.t a vs h2,RPs.ext e xs vs h3⟩
 | .list xs,v,h=>by
  simp only[RP]at h ⊢;obtain⟨a,vs,h1,h2,h3,h4⟩:=h;obtain⟨q1,q2⟩:=e.l a vs h2 h3;exact⟨a,vs,h1,⟨q1,h2.2⟩,q2,RPs.ext e xs vs h4⟩
 | .dict kvs,v,h=>by
  simp only[RP]at h ⊢;obtain⟨a,o,u,vs,h1,h2,h3,h4⟩:=h;exact⟨a,o,u,vs,h1,e.fz a o u h2,h3,RPd.ext e kvs _ h4⟩
theorem RPd.ext(e:Ext K Z m H m' H'):∀ (xs:List (PyData×PyData)) (vs:List (PyData×V)),RPd K Z m H xs vs->RPd K Z m' H' xs vs
 | [],vs,h=>by simpa only[RPd] using h
 | (k,p)::xs,vs,h=>by
  simp only[RPd]at h ⊢;obtain⟨v,r,h1,h2,h3⟩:=h;exact⟨v,r,h1,RP.ext e p v h2,RPd.ext e xs r h3⟩
theorem RPs.ext(e:Ext K Z m H m' H'):∀ (xs:List PyData) (vs:List V),RPs K Z m H xs vs->RPs K Z m' H' xs vs
 | [],vs,h=>by simpa only[RPs] using h
 | x::xs,vs,h=>by
  simp only[RPs]at h ⊢;obtain⟨v,r,h1,h2,h3⟩:=h;exact⟨v,r,h1,RP.ext e x v h2,RPs.ext e xs r h3⟩
end
theorem RD.ext(e:Ext K Z m H m' H'){d:D}{v:V}(h:RD K Z m H d v):RD K Z m' H' d v:=by
 cases d with
 | dat p=>exact RP.ext e p v h
 | cel a=>exact⟨h.1,e.c a h.2⟩
theorem RDs.ext(e:Ext K Z m H m' H'):∀ {xs:List D} {vs:List V},RDs K Z m H xs vs->RDs K Z m' H' xs vs
 | [],_,h=>h
 | _::_,_,⟨v,r,h1,h2,h3⟩=>⟨v,r,h1,h2.ext e,RDs.ext e h3⟩
theorem RKV.lift{κ:Type}{Z':Addr->Prop}(tr:∀ p v,RP K Z m H p v->RP K Z' m' H' p v):∀ {xs:List (κ×PyData)} {vs:List (κ×V)},RKV K Z m H xs vs->RKV K Z' m' H' xs vs
 | [],_,h=>h
 | _::_,_,⟨v,r,h1,h2,h3⟩=>⟨v,r,h1,tr _ _ h2,RKV.lift tr h3⟩
theorem RKW.lift{κ:Type}{Z':Addr->Prop}(tr:∀ p v,RP K Z m H p v->RP K Z' m' H' p v):∀ {xs:List (κ×D)} {vs:List (κ×V)},RKW K Z m H xs vs->RKW K Z' m' H' xs vs
 | [],_,h=>h
 | (_,.dat _)::_,_,⟨v,r,h1,h2,h3⟩=>⟨v,r,h1,tr _ _ h2,RKW.lift tr h3⟩
 | (_,.cel _)::_,_,⟨v,r,h1,h2,h3⟩=>⟨v,r,h1,h2,RKW.lift tr h3⟩
theorem RPs.lift{Z':Addr->Prop}(tr:∀ p v,RP K Z m H p v->RP K Z' m' H' p v):∀ {ps:List PyData} {vs:List V},RPs K Z m H ps vs->RPs K Z' m' H' ps vs
 | [],_,h=>by simpa only[RPs] using h
 | _::_,_,h=>by
  simp only[RPs]at h ⊢;obtain⟨v,r,h1,h2,h3⟩:=h;exact⟨v,r,h1,tr _ _ h2,RPs.lift tr h3⟩
theorem RC.lift{Z':Addr->Prop}{c:Cel}{o:HO}(tr:∀ p v,RP K Z m H p v->RP K Z' m' H' p v)(h:RC K Z m H c o):RC K Z' m' H' c o:=by
 cases c<;>cases o<;>first | exact RPs.lift tr h | exact RKV.lift tr h | exact RKW.lift tr h | exact⟨h.1,RKW.lift tr h.2⟩ | exact h | (rename_i ob u;cases u<;>first | exact RKV.lift tr h | exact h)
theorem RC.ext{c:Cel}{o:HO}(e:Ext K Z m H m' H')(h:RC K Z m H c o):RC K Z m' H' c o:=h.lift fun p v q=>RP.ext e p v q
theorem RC.mut{c:Cel}{o:HO}(h:RC K Z m H c o)(nf:rJ (some c)=false):(∀ xs,o≠.tup xs)/\(∀ a b,o≠.frz a b):=by
 cases c with
 | fd _=>cases nf
 | ft _=>cases nf
 | dl _=>cases o<;>first | exact h.elim | exact⟨fun _ e=>(nomatch e),fun _ _ e=>(nomatch e)⟩
 | l _=>cases o<;>first | exact h.elim | exact⟨fun _ e=>(nomatch e),fun _ _ e=>(nomatch e)⟩
 | d _=>cases o<;>first | exact h.elim | exact⟨fun _ e=>(nomatch e),fun _ _ e=>(nomatch e)⟩
 | n _=>cases o<;>first | exact h.elim | exact⟨fun _ e=>(nomatch e),fun _ _ e=>(nomatch e)⟩
 | g _=>cases o<;>first | exact h.elim | exact⟨fun _ e=>(nomatch e),fun _ _ e=>(nomatch e)⟩
 | o _ _=>cases o<;>first | exact h.elim | exact⟨fun _ e=>(nomatch e),fun _ _ e=>(nomatch e)⟩
 | t _=>cases o<;>first | exact h.elim | exact⟨fun _ e=>(nomatch e),fun _ _ e=>(nomatch e)⟩
theorem Ok.l{a:Addr}{xs:List PyData}(ok:Ok K Z m H)(h:m a=some (.l xs)):∃ vs,H a=some (.lst vs)/\RPs K Z m H xs vs:=by
 obtain⟨o,h1,h2⟩:=ok.g a _ h
 cases o<;>first | exact⟨_,h1,h2⟩ | exact h2.elim
theorem Ok.d{a:Addr}{xs:List (aN×PyData)}(ok:Ok K Z m H)(h:m a=some (.d xs)):∃ vs,H a=some (.dK vs)/\RKV K Z m H xs vs:=by
 obtain⟨o,h1,h2⟩:=ok.g a _ h
 cases o<;>first | exact⟨_,h1,h2⟩ | exact h2.elim
theorem Ok.t{a:Addr}{xs:List (List aN×PyData)}(ok:Ok K Z m H)(h:m a=some (.t xs)):∃ vs,H a=some (.dT vs)/\RKV K Z m H xs vs:=by
 obtain⟨o,h1,h2⟩:=ok.g a _ h
 cases o<;>first | exact⟨_,h1,h2⟩ | exact h2.elim
theorem RPs.length:∀ {xs:List PyData} {vs:List V},RPs K Z m H xs vs->vs.length=xs.length
 | [],_,h=>by simp only[RPs]at h;subst h;rfl
 | _::xs,_,h=>by
  simp only[RPs]at h;obtain⟨v,r,h1,_,h3⟩:=h;subst h1;rw[List.length_cons,List.length_cons,RPs.length h3]
theorem RDs.length:∀ {xs:List D} {vs:List V},RDs K Z m H xs vs->vs.length=xs.length
 | [],_,h=>by cases (show _=[] from h);rfl
 | _::xs,_,⟨v,r,h1,_,h3⟩=>by
  subst h1;rw[List.length_cons,List.length_cons,RDs.length h3]
theorem RPs.get:∀ {xs:List PyData} {vs:List V} {i:Nat} {p:PyData},RPs K Z m H xs vs->xs[i]?=some p->∃ v,vs[i]?=some v/\RP K Z m H p v
 | [],_,_,_,_,e=>by simp at e
 | x::xs,_,0,p,h,e=>by
  simp only[RPs]at h;obtain⟨v,r,h1,h2,_⟩:=h;simp at e;subst h1 e;exact⟨v,rfl,h2⟩
 | x::xs,_,i+1,p,h,e=>by
  simp only[RPs]at h;obtain⟨v,r,h1,_,h3⟩:=h;obtain⟨u,q1,q2⟩:=RPs.get (i:=i) (p:=p) h3 (by simpa using e)
  subst h1;exact⟨u,by simpa using q1,q2⟩
theorem RPs.set:∀ {xs:List PyData} {vs:List V} {i:Nat} {p:PyData} {v:V},RPs K Z m H xs vs->RP K Z m H p v->RPs K Z m H (xs.set i p) (vs.set i v)
 | [],_,_,_,_,h,_=>by simp only[RPs]at h;subst h;simp[RPs]
 | x::xs,_,0,p,v,h,q=>by
  simp only[RPs]at h;obtain⟨w,r,h1,_,h3⟩:=h;subst h1;simp only[List.set_cons_zero,RPs];exact⟨v,r,rfl,q,h3⟩
 | x::xs,_,i+1,p,v,h,q=>by
  simp only[RPs]at h;obtain⟨w,r,h1,h2,h3⟩:=h;subst h1;simp only[List.set_cons_succ,RPs];exact⟨w,_,rfl,h2,RPs.set h3 q⟩
theorem RPs.append:∀ {xs ys:List PyData} {vs ws:List V},RPs K Z m H xs vs->RPs K Z m H ys ws->RPs K Z m H (xs++ys) (vs++ws)
 | [],_,_,_,h,q=>by simp only[RPs]at h;subst h;simpa using q
 | x::xs,_,_,_,h,q=>by
  simp only[RPs]at h;obtain⟨w,r,h1,h2,h3⟩:=h;subst h1;simp only[List.cons_append,RPs];exact⟨w,_,rfl,h2,RPs.append h3 q⟩
theorem RPs.drop:∀ {xs:List PyData} {vs:List V} (n:Nat),RPs K Z m H xs vs->RPs K Z m H (xs.drop n) (vs.drop n)
 | _,_,0,h=>by simpa using h
 | [],_,n+1,h=>by simp only[RPs]at h;subst h;simp[RPs]
 | x::xs,_,n+1,h=>by
  simp only[RPs]at h;obtain⟨w,r,h1,h2,h3⟩:=h;subst h1;simpa using RPs.drop n h3
theorem RPs.take:∀ {xs:List PyData} {vs:List V} (n:Nat),RPs K Z m H xs vs->RPs K Z m H (xs.take n) (vs.take n)
 | _,_,0,h=>by simp[RPs]
 | [],_,n+1,h=>by simp only[RPs]at h;subst h;simp[RPs]
 | x::xs,_,n+1,h=>by
  simp only[RPs]at h;obtain⟨w,r,h1,h2,h3⟩:=h;subst h1;simp only[List.take_succ_cons,RPs];exact⟨w,_,rfl,h2,RPs.take n h3⟩
theorem RPs.reverse:∀ {xs:List PyData} {vs:List V},RPs K Z m H xs vs->RPs K Z m H xs.reverse vs.reverse
 | [],_,h=>by simp only[RPs]at h;subst h;simp[RPs]
 | x::xs,_,h=>by
  simp only[RPs]at h;obtain⟨w,r,h1,h2,h3⟩:=h;subst h1;rw[List.reverse_cons,List.reverse_cons];exact(RPs.reverse h3).append (by simp only[RPs];exact⟨w,[],rfl,h2,rfl⟩)
@[simp] def pds:List D->Option (List PyData)
 | []=>some []
 | .dat p::r=>(pds r).map (p :: ·)
 | .cel _::_=>none
theorem RDs.pds:∀ {xs:List D} {vs:List V} {ps:List PyData},RDs K Z m H xs vs->DL.pds xs=some ps->RPs K Z m H ps vs
 | [],vs,ps,h,e=>by
  cases (show vs=[] from h)
  cases (show some []=some ps from e)
  simp[RPs]
 | .dat p::r,vs,ps,⟨v,w,h1,h2,h3⟩,e=>by
  simp only[DL.pds]at e
  cases q:DL.pds r with
  | none=>rw[q]at e;cases e
  | some qs =>
   rw[q]at e
   cases e
   simp only[RPs];exact⟨v,w,h1,h2,RDs.pds h3 q⟩
 | .cel a::r,_,_,_,e=>by simp only[DL.pds]at e;cases e
theorem SqT.same{a:Addr}{xs:List V}(e:Same H H')(h:SqT K H a xs):SqT K H' a xs:=by
 rcases h with (h | ⟨o,h⟩) | h
 ·exact .inl (.inl (e _ _ h))
 ·exact .inl (.inr ⟨o,e _ _ h⟩)
 ·exact .inr h
theorem Ext.grow(s:Same H H')(hz:∀ a,Z a->H a≠none):Ext K Z m H m H':=⟨fun _ _ h=>SqT.same s h,fun _ _ h1 h2=>⟨h1.1,s.seq h2⟩,fun a h=>by
 cases q:H a with
 | none=>exact absurd q (hz a h)
 | some o=>exact s a o q,fun _ h=>h,fun a o u h=>s _ _ h,fun _ _=>rfl⟩
theorem Ok.grow(s:Same H H')(ok:Ok K Z m H):Ok K Z m H':=by
 have e:Ext K Z m H m H':=Ext.grow s fun a h=>(ok.z a h).2
 refine⟨fun a c h=>?_,fun a h=>⟨(ok.z a h).1,by rw[e.z a h];exact(ok.z a h).2⟩⟩
 obtain⟨o,h1,h2⟩:=ok.g a c h;exact⟨o,s _ _ h1,h2.ext e⟩
theorem Ok.ext(s:Same H H')(ok:Ok K Z m H):Ext K Z m H m H':=Ext.grow s fun a h=>(ok.z a h).2
theorem cU{p:Addr}{o:HO}(h:H p=none):Same H (upd H p o):=fun b u q=>by rw[bR (mB q h)];exact q
def aY(m:Mu)(a:Addr)(c:Cel):Mu:=fun b=>if b=a then some c else m b
theorem bF{a:Addr}{c:Cel}:aY m a c a=some c:=by unfold aY;rw[if_pos rfl]
theorem bM{a b:Addr}{c:Cel}(h:b≠a):aY m a c b=m b:=by unfold aY;rw[if_neg h]
theorem SqL.ne{p a:Addr}{xs:List V}(hp:H p=none)(hk:K.lookup p=none)(h:SqL K H a xs):a≠p:=by
 rintro rfl;rcases h with (h | ⟨o,h⟩) | ⟨o,_,_,h,_⟩
 ·rw[hp]at h;cases h
 ·rw[hp]at h;cases h
 ·rw[hk]at h;cases h
theorem Ext.cell{p:Addr}{o:HO}{c:Cel}(ok:Ok K Z m H)(hp:H p=none)(hk:K.lookup p=none):Ext K Z m H (aY m p c) (upd H p o):=by
 refine⟨fun _ _ h=>SqT.same (cU hp) h,fun a xs h1 h2=>?_,fun a h=>?_,fun a h=>?_,fun a o u h=>cU hp _ _ h,fun a h=>?_⟩
 ·have ne:=SqL.ne hp hk h2
  exact⟨by rw[bM ne];exact h1.1,(cU hp).seq h2⟩
 ·have ne:a≠p:=fun e=>(ok.z a h).2 (by rw[e];exact hp)
  exact bR ne
 ·by_cases e:a=p
  ·subst e;rw[bF];rfl
  ·rw[bM e];exact h
 ·have ne:a≠p:=by
   rintro rfl
   cases q:m a with
   | none=>rw[q]at h;cases h
   | some x =>
    obtain⟨w,h1,_⟩:=ok.g a x q;rw[hp]at h1
    cases h1
  exact bM ne
theorem Ok.updC{p:Addr}{o:HO}{c:Cel}(ok:Ok K Z m H)(hz:¬ Z p)(e:Ext K Z m H (aY m p c) (upd H p o))(r:RC K Z m H c o):Ok K Z (aY m p c) (upd H p o):=by
 refine⟨fun a x h=>?_,fun a h=>?_⟩
 ·by_cases q:a=p
  ·subst q;rw[bF]at h
   cases h
   exact⟨o,cX,r.ext e⟩
  ·rw[bM q]at h;obtain⟨w,h1,h2⟩:=ok.g a x h;exact⟨w,by rw[bR q];exact h1,h2.ext e⟩
 ·have ne:a≠p:=fun e=>hz (e▸h)
  exact⟨by rw[bM ne];exact(ok.z a h).1,by rw[bR ne];exact(ok.z a h).2⟩
theorem Ok.cell{p:Addr}{o:HO}{c:Cel}(ok:Ok K Z m H)(hp:H p=none)(hk:K.lookup p=none)(r:RC K Z m H c o):Ok K Z (aY m p c) (upd H p o) :=
 ok.updC (fun h=>(ok.z p h).2 hp) (Ext.cell ok hp hk) r
theorem Ext.put{a:Addr}{o o0:HO}{c c0:Cel}(ok:Ok K Z m H)(hm:m a=some c0)(hH:H a=some o0)(nf:rJ (some c0)=false:=by rfl):Ext K Z m H (aY m a c) (upd H a o):=by
 have mu:(∀ xs,o0≠.tup xs)/\(∀ a b,o0≠.frz a b):=by
  obtain⟨w,h1,h2⟩:=ok.g a c0 hm;rw[hH]at h1
  cases h1
  exact h2.mut nf
 refine⟨fun b xs h=>?_,fun b xs h1 h2=>?_,fun b h=>?_,fun b h=>?_,fun b w u h=>?_,fun b h=>?_⟩
 ·rcases h with (h | ⟨w,h⟩) | h
  ·have ne:b≠a:=by rintro rfl;rw[hH]at h;cases h;exact absurd rfl (mu.1 _)
   exact .inl (.inl (by rw[bR ne];exact h))
  ·have ne:b≠a:=by rintro rfl;rw[hH]at h;cases h;exact absurd rfl (mu.2 _ _)
   exact .inl (.inr ⟨w,by rw[bR ne];exact h⟩)
  ·exact .inr h
 ·have ne:b≠a:=by rintro rfl;rw[hm]at h1;cases h1.1
  refine⟨by rw[bM ne];exact h1.1,?_⟩
  rcases h2 with (h | ⟨w,h⟩) | h
  ·exact .inl (.inl (by rw[bR ne];exact h))
  ·exact .inl (.inr ⟨w,by rw[bR ne];exact h⟩)
  ·exact .inr h
 ·have ne:b≠a:=by rintro rfl;have:=(ok.z b h).1;rw[hm]at this;cases this
  exact bR ne
 ·by_cases e:b=a
  ·subst e;rw[bF];rfl
  ·rw[bM e];exact h
 ·have ne:b≠a:=by rintro rfl;rw[hH]at h;cases h;exact absurd rfl (mu.2 _ _)
  rw[bR ne];exact h
 ·have ne:b≠a:=by rintro rfl;rw[hm,nf]at h;cases h
  exact bM ne
theorem Ok.put{a:Addr}{o o0:HO}{c c0:Cel}(ok:Ok K Z m H)(hm:m a=some c0)(hH:H a=some o0)(r:RC K Z m H c o)(nf:rJ (some c0)=false:=by rfl):Ok K Z (aY m a c) (upd H a o) :=
 ok.updC (fun h=>by have:=(ok.z a h).1;rw[hm]at this;cases this) (Ext.put ok hm hH nf) r
def RS(K:PySem.W.Frag)(Z:Addr->Prop)(m:Mu)(H:Hp)(d:bO)(s:L2.St):Prop:=d.length=s.length/\∀ (i:Nat) (x:D),d[i]?=some (some x)->∃ v,s[i]?=some (some v)/\RD K Z m H x v
theorem RS.ext{d:bO}{s:L2.St}(r:RS K Z m H d s)(e:Ext K Z m H m' H'):RS K Z m' H' d s:=⟨r.1,fun i x h=>let ⟨v,h1,h2⟩:=r.2 i x h;⟨v,h1,h2.ext e⟩⟩
theorem RS.set{d:bO}{s:L2.St}{i:Nat}{x:D}{v:V}(r:RS K Z m H d s)(h:RD K Z m H x v):RS K Z m H (d.set i (some x)) (s.set i (some v)):=by
 refine⟨by rw[List.length_set,List.length_set];exact r.1,fun j y q=>?_⟩
 by_cases e:j=i
 ·subst e;rw[List.getElem?_set]at q;simp only[if_true]at q
  split at q
  ·rename_i hl
   cases q
   refine⟨v,?_,h⟩;rw[List.getElem?_set];simp only[if_true];rw[if_pos (by rw[<- r.1];exact hl)]
  ·cases q
 ·rw[List.getElem?_set_ne (Ne.symm e)]at q;obtain⟨w,h1,h2⟩:=r.2 j y q;exact⟨w,by rw[List.getElem?_set_ne (Ne.symm e)];exact h1,h2⟩
end
abbrev DK:=D->Mu->Prop
abbrev DE:=bO->Mu->DK->Prop
abbrev DT:=bO->Mu->(Bool->Mu->Prop)->Prop
abbrev DA:=bO->Mu->(List D->Mu->Prop)->Prop
structure Ends2 where
 nx:bO->Mu->Prop
 rt:DK
 bk:bO->Mu->Prop:=fun _ _=>False
 ct:bO->Mu->Prop:=fun _ _=>False
abbrev DS:=Ends2->bO->Mu->Prop
def LE(K:PySem.W.Frag)(f:DE):TE:=fun s H Q=>∃ (Z:Addr->Prop) (d:bO) (m:Mu) (R:DK),Ok K Z m H/\RS K Z m H d s/\f d m R /\
 ∀ x m' v H',R x m'->Ext K Z m H m' H'->Ok K Z m' H'->RD K Z m' H' x v->Q v H'
def LT(K:PySem.W.Frag)(f:DT):TT:=fun s H Q=>∃ (Z:Addr->Prop) (d:bO) (m:Mu) (R:Bool->Mu->Prop),Ok K Z m H/\RS K Z m H d s/\f d m R /\
 ∀ b m' H',R b m'->Ext K Z m H m' H'->Ok K Z m' H'->Q b H'
def LA(K:PySem.W.Frag)(f:DA):TA:=fun s H Q=>∃ (Z:Addr->Prop) (d:bO) (m:Mu) (R:List D->Mu->Prop),Ok K Z m H/\RS K Z m H d s/\f d m R /\
 ∀ xs m' vs H',R xs m'->Ext K Z m H m' H'->Ok K Z m' H'->RDs K Z m' H' xs vs->Q vs H'
def LS(K:PySem.W.Frag)(f:DS):TS:=fun E s H=>∃ (Z:Addr->Prop) (d:bO) (m:Mu) (R:Ends2),Ok K Z m H/\RS K Z m H d s/\f R d m /\
 (∀ d' m' s' H',R.nx d' m'->Ext K Z m H m' H'->Ok K Z m' H'->RS K Z m' H' d' s'->E.nx s' H') /\
 (∀ x m' v H',R.rt x m'->Ext K Z m H m' H'->Ok K Z m' H'->RD K Z m' H' x v->E.rt v H') /\
 (∀ d' m' s' H',R.bk d' m'->Ext K Z m H m' H'->Ok K Z m' H'->RS K Z m' H' d' s'->E.bk s' H') /\
 (∀ d' m' s' H',R.ct d' m'->Ext K Z m H m' H'->Ok K Z m' H'->RS K Z m' H' d' s'->E.ct s' H')
theorem PE.imp{X:Cx}{e:Expr}{t t':TE}(h:PE X e t)(q:∀ s H Q,t' s H Q->t s H Q):PE X e t':=fun pins s d H Q I w=>h pins s d H Q I (q _ _ _ w)
theorem PT.imp{X:Cx}{e:Expr}{t t':TT}(h:PT X e t)(q:∀ s H Q,t' s H Q->t s H Q):PT X e t':=fun pins s d H Q I w=>h pins s d H Q I (q _ _ _ w)
theorem PA.imp{X:Cx}{e:List Expr}{t t':TA}(h:PA X e t)(q:∀ s H Q,t' s H Q->t s H Q):PA X e t':=fun pos pins s d H Q I w=>h pos pins s d H Q I (q _ _ _ w)
theorem PS.imp{X:Cx}{e:Stmt}{t t':TS}(h:PS X e t)(q:∀ E s H,t' E s H->t E s H):PS X e t':=fun pins s d H E I w=>h pins s d H E I (q _ _ _ w)
theorem PSs.imp{X:Cx}{e:List Stmt}{t t':TS}(h:PSs X e t)(q:∀ E s H,t' E s H->t E s H):PSs X e t':=fun pins s d H E I w=>h pins s d H E I (q _ _ _ w)
section
variable {X:Cx}{pos:Pos}
@[simp] def aC(i:Nat):DE:=fun d m Q=>∃ x,d[i]?=some (some x)/\Q x m
theorem Ui(i:Nat){x:Str}(hN:X.N[i]?=some x:=by rfl)(hv:iX X.env.scope x:=by first | exact Or.inl rfl | exact Or.inr (Or.inl rfl) | exact Or.inr (Or.inr rfl))(hd:(x==("__debug__" : Str))=false:=by decide)
  (hcd:(x==("__classdict__" : Str))=false:=by decide):PE X (.Name x pos) (LE X.K (aC i)) :=
 PE.imp (Lu hN hv hd hcd) fun s H Q h=>by
  obtain⟨Z,d,m,R,ok,rs,⟨x,h1,h2⟩,k⟩:=h;obtain⟨v,q1,q2⟩:=rs.2 i x h1;exact⟨v,q1,k x m v H h2 Ext.refl ok q2⟩
@[simp] def aE(p:PyData):DE:=fun _ m Q=>Q (.dat p) m
theorem vS{e:Expr}{p:PyData}{v:V}(h:PE X e (tC v))(r:∀ Z m H,RP X.K Z m H p v):PE X e (LE X.K (aE p)) :=
 PE.imp h fun s H Q ⟨Z,d,m,R,ok,rs,h2,k⟩=>k _ m v H h2 Ext.refl ok (r Z m H)
theorem G8{i:Int}{j:Nat}:PE X (.Constant (.int i) j pos) (LE X.K (aE (.int i))):=vS Xy fun Z m H=>by simp only[RP]
theorem p7{b:Bool}{j:Nat}:PE X (.Constant (.bool b) j pos) (LE X.K (aE (.bool b))):=vS Tk fun Z m H=>by simp only[RP]
theorem t5{j:Nat}:PE X (.Constant .none j pos) (LE X.K (aE .none)):=vS R8 fun Z m H=>by simp only[RP]
theorem Qt{x:Str}{j:Nat}:PE X (.Constant (.str x) j pos) (LE X.K (aE (.str x))):=vS CG fun Z m H=>by simp only[RP]
end
end DL
namespace DL
open PySem PySem.Spec PyProof.Rows L2
section
variable {X:Cx}{pins:List (Addr×Obj)}{σ:L2.St}{H:Hp}{s:Shared}{Z:Addr->Prop}{m:Mu}
mutual
theorem RP.reads0(I:Inv X pins σ H s):∀ (p:PyData) (v:V) (u:Value),RP X.K Z m H p v->RelV v u->p.hasDict=false->∃ as,Reads s.heap u p as
 | .none,v,u,h,r,_=>by simp only[RP]at h;subst h;cases r;exact⟨_,.none⟩
 | .bool b,v,u,h,r,_=>by simp only[RP]at h;subst h;cases r;exact⟨_,.bool b⟩
 | .int i,v,u,h,r,_=>by simp only[RP]at h;subst h;obtain⟨t,rfl⟩:=r;exact⟨_,.int i t⟩
 | .str x,v,u,h,r,_=>by simp only[RP]at h;subst h;obtain⟨t,rfl⟩:=r;exact⟨_,.str x t⟩
 | .tuple xs,v,u,h,r,nd=>by
  simp only[RP]at h;obtain⟨a,vs,rfl,h2,h3⟩:=h
  cases r
  obtain⟨its,rv,⟨o,e,c,n,d⟩,_⟩:=I.tuple h2;obtain⟨as,q⟩:=RPs.reads0 I xs vs its h3 rv nd;exact⟨_,.tuple e c d (by simpa using q)⟩
 | .list xs,v,u,h,r,nd=>by
  simp only[RP]at h;obtain⟨a,vs,rfl,_,h2,h3⟩:=h
  cases r
  obtain⟨its,rv,⟨o,n,e,c,_,d⟩,_⟩:=I.list h2;obtain⟨as,q⟩:=RPs.reads0 I xs vs its h3 rv nd;exact⟨_,.list e c d (by simpa using q)⟩
 | .dict _,v,u,h,r,nd=>nomatch nd
theorem RPs.reads0(I:Inv X pins σ H s):∀ (xs:List PyData) (vs:List V) (us:List Value),RPs X.K Z m H xs vs->Vals vs us->PyData.hasDictAll xs=false->∃ as,ReadsAll s.heap us xs as
 | [],vs,us,h,r,_=>by simp only[RPs]at h;subst h;cases r;exact⟨_,.nil⟩
 | x::xs,vs,us,h,r,nd=>by
  simp only[PyData.hasDictAll,Bool.or_eq_false_iff]at nd;simp only[RPs]at h;obtain⟨v,w,rfl,h1,h2⟩:=h
  cases r with
  | cons r1 r2 =>
   obtain⟨as,q1⟩:=RP.reads0 I x v _ h1 r1 nd.1;obtain⟨bs,q2⟩:=RPs.reads0 I xs w _ h2 r2 nd.2;exact⟨_,.cons q1 q2⟩
end
theorem RP.reads(I:Inv X pins σ H s)(p:PyData)(v:V)(u:Value)(h:RP X.K Z m H p v)(r:RelV v u)(nd:p.hasDict=false:=by first | assumption | (refine PyData.hasDict_of_canLay _ ?_;assumption)):∃ as,Reads s.heap u p as:=RP.reads0 I p v u h r nd
mutual
theorem RP.noDict(K:PySem.W.Frag):∀ (p:PyData) (v:V),RP K Z m H p v->p.showable=true->p.hasDict=false
 | .none,_,_,_=>rfl
 | .bool _,_,_,_=>rfl
 | .int _,_,_,_=>rfl
 | .str _,_,_,_=>rfl
 | .tuple xs,v,h,sh=>by
  simp only[RP]at h;obtain⟨_,vs,_,_,h⟩:=h;simp only[PyData.hasDict];exact RPs.noDict K xs vs h sh
 | .list xs,v,h,sh=>by
  simp only[RP]at h;obtain⟨_,vs,_,_,_,h⟩:=h;simp only[PyData.hasDict];exact RPs.noDict K xs vs h sh
 | .dict kvs,v,h,sh=>by
  simp only[RP]at h;obtain⟨a,o,u,vs,_,_,_,h⟩:=h
  cases kvs with
  | nil=>simp[RPd]at h
  | cons x r =>
   obtain⟨k,p⟩:=x;simp only[RPd]at h;obtain⟨v,r',h1,_⟩:=h
   cases h1
   simp only[PyData.showable,PyData.showableKv,Vt,Bool.false_and]at sh
   cases sh
theorem RPs.noDict(K:PySem.W.Frag):∀ (xs:List PyData) (vs:List V),RPs K Z m H xs vs->PyData.showableAll xs=true->PyData.hasDictAll xs=false
 | [],_,_,_=>rfl
 | x::xs,vs,h,sh=>by
  simp only[PyData.showableAll,Bool.and_eq_true]at sh;simp only[RPs]at h;obtain⟨v,w,rfl,h1,h2⟩:=h;simp only[PyData.hasDictAll,RP.noDict K x v h1 sh.1,RPs.noDict K xs w h2 sh.2,Bool.or_self]
end
end
abbrev D2:=D->D->Mu->DK->Prop
def dO(X:Cx)(op:Value->Value->Sem Value)(r:D2):Prop :=
 ∀ (pins:List (Addr×Obj)) (s:Shared) (σ:L2.St) (H:Hp) (Z:Addr->Prop) (m:Mu) (x y:V) (dx dy:D) (v u:Value) (R:DK) (Q:VK),Inv X pins σ H s->Ok X.K Z m H->RelV x v->RelV y u->RD X.K Z m H dx x->RD X.K Z m H dy y->r dx dy m R ->
  (∀ d m' v' H',R d m'->Ext X.K Z m H m' H'->Ok X.K Z m' H'->RD X.K Z m' H' d v'->Q v' H')->wpAny (model X.prog X.w) X.A (op v u) (EP X pins σ Q) X.xe s
@[simp] def aI(r:D2)(f g:DE):DE:=fun d m Q=>f d m fun x m1=>g d m1 fun y m2=>r x y m2 Q
section
variable {X:Cx}{a b c:Expr}{f g:DE}{pos:Pos}
theorem Bq{op:Value->Value->Sem Value}{r:D2}(ho:dO X op r)(ha:PE X a (LE X.K f))(hb:PE X b (LE X.K g)){pins:List (Addr×Obj)}{s:Shared}{σ:L2.St}{H:Hp}{Q:VK}(I:Inv X pins σ H s)
  (h:LE X.K (aI r f g) σ H Q) :
  wpAny (model X.prog X.w) X.A (eval a X.env) (fun v s₁=>wpAny (model X.prog X.w) X.A (eval b X.env) (fun u s₂=>wpAny (model X.prog X.w) X.A (op v u) (EP X pins σ Q) X.xe s₂) X.xe s₁) X.xe s:=by
 obtain⟨Z,d,m,R,ok,rs,hf,k⟩:=h;refine Et ha hb I (R:=fun x y H2=>∃ m2 dx dy,Ok X.K Z m2 H2/\Ext X.K Z m H m2 H2/\RD X.K Z m2 H2 dx x/\RD X.K Z m2 H2 dy y/\r dx dy m2 R) ?_ fun v u s2 x y H2 I2 rx ry ⟨m2,dx,dy,ok2,e2,r1,r2,q⟩=>?_
 ·exact⟨Z,d,m,_,ok,rs,hf,fun x m1 v H1 q e1 ok1 r1=>⟨Z,d,m1,_,ok1,rs.ext e1,q,fun y m2 v2 H2 q2 e2 ok2 r2=>⟨m2,x,y,ok2,e1.trans e2,r1.ext e2,r2,q2⟩⟩⟩
 ·exact ho pins s2 σ H2 Z m2 x y dx dy v u R Q I2 ok2 rx ry r1 r2 q fun d' m' v' H' h1 h2 h3 h4=>k d' m' v' H' h1 (e2.trans h2) h3 h4
theorem Zn{op:Operator}{r:D2}(ho:dO X (binaryOp op) r)(ha:PE X a (LE X.K f))(hb:PE X b (LE X.K g)):PE X (.BinOp a op b pos) (LE X.K (aI r f g)) :=
 fun _ _ _ _ _ I h=>wpAny_BinOp (Bq ho ha hb I h)
theorem z5{op:CmpOp}{r:D2}(ho:dO X (compareOp op) r)(ha:PE X a (LE X.K f))(hb:PE X b (LE X.K g))(hm:behindInMarks op b=false:=by exact tR _):PE X (.Compare a [op] [b] pos) (LE X.K (aI r f g)) :=
 fun _ _ _ _ _ I h=>wpAny_Compare1 (Bq ho ha hb I h) hm
@[simp] def bQ(f:DE):DT:=fun d m Q=>f d m fun x m1=>∃ b,x=.dat (.bool b)/\Q b m1
theorem LT.le{K:PySem.W.Frag}{σ:L2.St}{H:Hp}{Q:Bool->Hp->Prop}(h:LT K (bQ f) σ H Q):LE K f σ H (fun x H'=>∃ k,x=.bl k/\Q k H'):=by
 obtain⟨Z,d,m,R,ok,rs,hf,k⟩:=h;refine⟨Z,d,m,_,ok,rs,hf,fun x m' v H' ⟨b,e,q⟩ e1 ok1 rd=>⟨b,?_,k b m' H' q e1 ok1⟩⟩;subst e;simpa only[RD,RP] using rd
theorem Oz{op:CmpOp}{r:D2}(ho:dO X (compareOp op) r)(ha:PE X a (LE X.K f))(hb:PE X b (LE X.K g))(hm:behindInMarks op b=false:=by exact tR _):PT X (.Compare a [op] [b] pos) (LT X.K (bQ (aI r f g))):=by
 intro pins s σ H Q I h;refine wpAny_isTrue_Compare1 (bA (Bq ho ha hb I h.le) fun v s1 h1=>bA h1 fun u s2 h2=>bA h2 fun c s3 ⟨z,H3,I3,r3,k,e,q3⟩=>?_) hm;subst e
 cases r3
 exact wpAny_truthy_bool ⟨H3,I3,q3⟩
end
section
variable {X:Cx}{a b c:Expr}{rest:List Expr}{f g:DE}{t u:DT}{pos:Pos}
theorem PW.imp{e:Expr}{t t':TT}(h:PW X e t)(q:∀ s H Q,t' s H Q->t s H Q):PW X e t':=fun wh pins s d H Q I w=>h wh pins s d H Q I (q _ _ _ w)
theorem RD.bl{K:PySem.W.Frag}{Z:Addr->Prop}{m:Mu}{H:Hp}{b:Bool}{v:V}(h:RD K Z m H (.dat (.bool b)) v):v=.bl b:=by simpa only[RD,RP] using h
theorem RD.ofBl{K:PySem.W.Frag}{Z:Addr->Prop}{m:Mu}{H:Hp}{b:Bool}:RD K Z m H (.dat (.bool b)) (.bl b):=by simp only[RD,RP]
@[simp] def oB(t:DT)(f g:DE):DE:=fun d m Q=>t d m fun k m1=>if k=true then f d m1 Q else g d m1 Q
theorem A4(hc:PT X c (LT X.K t))(ha:PE X a (LE X.K f))(hb:PE X b (LE X.K g)):PE X (.IfExp c a b pos) (LE X.K (oB t f g)) :=
 PE.imp (Yg hc ha hb) fun s H Q ⟨Z,d,m,R,ok,rs,h,k⟩=>⟨Z,d,m,_,ok,rs,h,fun b m1 H1 q e1 ok1=>by
  cases b with
  | true=>rw[if_pos rfl]at q ⊢;exact⟨Z,d,m1,R,ok1,rs.ext e1,q,fun x2 m2 v2 H2 q2 e2 ok2 r2=>k x2 m2 v2 H2 q2 (e1.trans e2) ok2 r2⟩
  | false=>rw[if_neg Bool.false_ne_true]at q ⊢;exact⟨Z,d,m1,R,ok1,rs.ext e1,q,fun x2 m2 v2 H2 q2 e2 ok2 r2=>k x2 m2 v2 H2 q2 (e1.trans e2) ok2 r2⟩⟩
end
section
variable {X:Cx}{e:Expr}{es:List Expr}{f:DE}{g:DA}{pos:Pos}
@[simp] def aF:DA:=fun _ m Q=>Q [] m
@[simp] def aA(f:DE)(g:DA):DA:=fun d m Q=>f d m fun x m1=>g d m1 fun xs m2=>Q (x::xs) m2
theorem Hs:PA X [] (LA X.K aF):=PA.imp iH fun s H Q ⟨Z,d,m,R,ok,rs,h,k⟩=>k [] m [] H h Ext.refl ok rfl
theorem Bj(ha:PE X e (LE X.K f))(hr:PA X es (LA X.K g))(hs:starEach (e::es) X.env=(false,eval e X.env)::starEach es X.env:=by rfl):PA X (e::es) (LA X.K (aA f g)) :=
 PA.imp (gZ ha hr hs) fun s H Q ⟨Z,d,m,R,ok,rs,h,k⟩=>⟨Z,d,m,_,ok,rs,h,fun x m1 v H1 q e1 ok1 r1=>⟨Z,d,m1,_,ok1,rs.ext e1,q,fun xs m2 vs H2 q2 e2 ok2 r2 =>
  k (x::xs) m2 (v::vs) H2 q2 (e1.trans e2) ok2 ⟨v,vs,rfl,r1.ext e2,r2⟩⟩⟩
@[simp] def aL(g:DA):DE:=fun d m Q=>g d m fun xs m1=>∃ ps,pds xs=some ps/\ps.length<=sizeLine/\Q (.dat (.tuple ps)) m1
theorem c6{j:Nat}(h:PA X es (LA X.K g)):PE X (.Tuple es j pos) (LE X.K (aL g)) :=
 PE.imp (Wp h) fun s H Q ⟨Z,d,m,R,ok,rs,h,k⟩=>⟨Z,d,m,_,ok,rs,h,fun xs m1 vs H1 ⟨ps,e,hz,q⟩ e1 ok1 r1=>by
  have rp:=r1.pds e
  refine⟨by rw[rp.length];exact hz,fun p hp=>?_⟩
  have sm:Same H1 (upd H1 p (.tup vs)):=cU hp
  refine k _ m1 _ _ q (e1.trans (ok1.ext sm)) (ok1.grow sm) ?_;simp only[RD,RP];exact⟨p,vs,rfl,.inl (.inl cX),RPs.ext (ok1.ext sm) _ _ rp⟩⟩
@[simp] def dW(g:DA):DE:=fun d m Q=>g d m fun xs m1=>∃ ps,pds xs=some ps/\ps.length<=sizeLine/\Q (.dat (.list ps)) m1
@[simp] def gK(g:DA):DE:=fun d m Q=>g d m fun xs m1=>∃ ps,pds xs=some ps/\ps.length<=sizeLine/\∀ a,m1 a=none->Q (.cel a) (aY m1 a (.l ps))
theorem Fh{t:TA}(h:PA X es t):PE X (.List es pos) (fun s H Q=>t s H fun xs H1=>xs.length<=sizeLine/\∀ p,H1 p=none->X.K.lookup p=none->Q (.ref p) (upd H1 p (.lst xs))):=by
 intro pins s σ H Q I hq;refine wpAny_List_spliced (bA (h pos pins s σ H _ I hq) fun us s1 ⟨xs,H1,I1,r,z,q⟩=>⟨by rw[<- r.length];exact z,?_⟩)
 have hf:H1 s1.heap.objs.size=none:=I1.hok.fresh (Nat.le_refl _)
 have hk:X.K.lookup s1.heap.objs.size=none:=by
  cases e:X.K.lookup s1.heap.objs.size with
  | none=>rfl
  | some o=>exact absurd (Heap.lt_size (I1.kIn _ o e)) (Nat.lt_irrefl _)
 refine⟨.ref s1.heap.objs.size,upd H1 s1.heap.objs.size (.lst xs),I1.laid (t':=s1.toks) (fun b u e=>Heap.get?_push_of_some _ e) (Nat.le_refl _) ?_,rfl,q _ hf hk⟩;exact⟨z,us,0,r,Heap.get?_push_size _ rfl⟩
theorem fJ{K:PySem.W.Frag}{Z:Addr->Prop}{m:Mu}{H:Hp}{p:Addr}(ok:Ok K Z m H)(hp:H p=none):m p=none/\¬ Z p:=by
 refine⟨?_,fun h=>(ok.z p h).2 hp⟩
 cases e:m p with
 | none=>rfl
 | some ds =>
  obtain⟨vs,h1,_⟩:=ok.g p ds e;rw[hp]at h1
  cases h1
theorem l4(h:PA X es (LA X.K g)):PE X (.List es pos) (LE X.K (dW g)) :=
 PE.imp (Fh h) fun s H Q ⟨Z,d,m,R,ok,rs,h,k⟩=>⟨Z,d,m,_,ok,rs,h,fun xs m1 vs H1 ⟨ps,e,hz,q⟩ e1 ok1 r1=>by
  have rp:=r1.pds e
  refine⟨by rw[rp.length];exact hz,fun p hp hk=>?_⟩
  have sm:Same H1 (upd H1 p (.lst vs)):=cU hp
  refine k _ m1 _ _ q (e1.trans (ok1.ext sm)) (ok1.grow sm) ?_;simp only[RD,RP];exact⟨p,vs,rfl,fJ ok1 hp,.inl (.inl cX),RPs.ext (ok1.ext sm) _ _ rp⟩⟩
theorem EO(h:PA X es (LA X.K g)):PE X (.List es pos) (LE X.K (gK g)) :=
 PE.imp (Fh h) fun s H Q ⟨Z,d,m,R,ok,rs,h,k⟩=>⟨Z,d,m,_,ok,rs,h,fun xs m1 vs H1 ⟨ps,e,hz,q⟩ e1 ok1 r1=>by
  have rp:=r1.pds e
  refine⟨by rw[rp.length];exact hz,fun p hp hk=>?_⟩
  refine k _ _ _ _ (q p (fJ ok1 hp).1) (e1.trans (Ext.cell ok1 hp hk)) (ok1.cell hp hk rp) ⟨rfl,?_⟩;rw[bF]
  rfl⟩
end
end DL
namespace DL
open PySem PySem.Spec PyProof.Rows L2
theorem Q4:fillsNumberSlot (.type "tuple") "mul"=pure false:=PySem.fillsNumberSlot_seq (id:="tuple.__mul__") (r:=some (.builtin "tuple.__rmul__")) PySem.F.slot_tuple_mul.lookup (by decide +kernel) PySem.F.slot_tuple_rmul.lookup (by decide +kernel)
theorem Pk:seqRepeat? (.type "tuple")=pure (some (.builtin "tuple.__mul__")):=by
 unfold seqRepeat?;rw[PySem.seqSlot_of (T:="tuple") (name:="__mul__") (id:="tuple.__mul__") PySem.F.slot_tuple_mul.lookup (by decide +kernel),PySem.seqSlot_of (T:="tuple") (name:="__rmul__") (id:="tuple.__rmul__") PySem.F.slot_tuple_rmul.lookup (by decide +kernel)]
 rfl
theorem GF(a:Int)(t:Tok)(l:Addr)(its:Array Value)(n:Nat)(dd:Option Addr)(sl:Array (Option Value)):Meets (Builtin.«int.__rmul__» ⟨[.int a t,.ref l],[]⟩) (fun _ R s=>s.heap.get? l=some {cls:=.type "tuple",dict:=dd,data:=.seq its n,slots:=sl}/\R (.ok (.ret Value.notImplemented)) s) :=
 .of_wp fun prog w A R s hs=>by
  obtain⟨hp,g,d,tk,os⟩:=s;obtain⟨hl,h⟩:=hs
  wp_walk
  exact⟨_,rfl,h⟩
theorem Bt(vs:List Value):∀ (n:Nat) (acc:List Value),(List.replicate n vs.toArray).foldl (·++·) acc.toArray=(acc++(List.replicate n vs).flatten).toArray
 | 0,acc=>by simp
 | n+1,acc=>by
  rw[List.replicate_succ,List.foldl_cons,List.replicate_succ,List.flatten_cons];have:=Bt vs n (acc++vs)
  rw[<- List.append_assoc,<- this];simp
theorem An{α:Type}(xs:List α):∀ n:Nat,(List.replicate n xs).flatten.length=xs.length*n
 | 0=>by simp
 | n+1=>by rw[List.replicate_succ,List.flatten_cons,List.length_append,An xs n,Nat.mul_succ,Nat.add_comm]
theorem AI(t:Addr)(its:Array Value)(k:Int)(tok:Tok)(h1:its.size≠0)(h2:2<=k)(h3:k<=100)(h4:its.size*k.toNat<=sizeLine):Meets (Builtin.«tuple.__mul__» ⟨[.ref t,.int k tok],[]⟩)
  (fun _ R s=>IsTup s.heap t its/\R (.ok (.ret (.ref s.heap.objs.size))) {s with heap:=s.heap.push {cls:=.type "tuple",data:=.seq ((List.replicate k.toNat its).foldl (·++·) #[])}}) :=
 .of_wp fun prog w A R s hs=>by
  obtain⟨ht,h⟩:=hs;show wpAny _ _ (asIndex (.int k tok)>>=_) _ _ _
  refine wpAny_bind (wpAny_pure ?_);show wpAny _ _ (if (decide (k < -(2^63))||decide (k ≥ 2^63))=true then _ else _) _ _ _
  rw[if_neg (by simp;omega)]
  show wpAny _ _ (Builtin.Tuple.tupleItemsOf (.ref t)>>=_) _ _ _
  refine wpAny_bind (tupleItemsOf_ ht ?_);have e1:its.isEmpty=false:=by
   rw[Array.isEmpty_eq_false_iff];rintro rfl;exact h1 rfl
  have e2:(k==1)=false:=by
   rw[beq_eq_false_iff_ne];omega
  show wpAny _ _ (if (its.isEmpty||k==1)=true then _ else _) _ _ _
  rw[e1,e2,if_neg (by simp)]
  show wpAny _ _ (if (decide (k<=0)||false)=true then _ else _) _ _ _
  rw[if_neg (by simp;omega)]
  have hk:((its.size:Nat):Int)*k=((its.size*k.toNat:Nat):Int):=by
   push_cast
   rw[Int.toNat_of_nonneg (by omega)]
  have hs:=lB
  show wpAny _ _ (if ((its.size:Nat):Int)*k > (2^63-1) / 8 then _ else _) _ _ _
  rw[if_neg ?c1]
  case c1 =>
   rw[hk];have:(sizeLine:Nat)<=(2^63-1) / 8:=by decide
   omega
  show wpAny _ _ (if (decide (((its.size:Nat):Int)*k > (sizeLine:Int)))=true then _ else _) _ _ _
  rw[if_neg ?c2]
  case c2 =>
   rw[hk];intro q;have q':=of_decide_eq_true q
   omega
  show wpAny _ _ (Builtin.Tuple.tupleExact ((List.replicate k.toNat its).foldl (·++·) #[])>>=_) _ _ _
  refine wpAny_bind (m:=Builtin.Tuple.tupleExact _) (wpAny_newObj_type (wpAny_pure ⟨_,rfl,h⟩) ?_);show((List.replicate k.toNat its).foldl (·++·) #[]).size<=sizeLine
  have e:=Bt its.toList k.toNat []
  rw[List.nil_append]at e;have e':(List.replicate k.toNat its).foldl (·++·) #[]=(List.replicate k.toNat its.toList).flatten.toArray:=e
  rw[e',List.size_toArray,An,Array.length_toList];exact h4
theorem Vals.rep{xs:List V}{us:List Value}(h:Vals xs us):∀ n:Nat,Vals (List.replicate n xs).flatten (List.replicate n us).flatten
 | 0=>.nil
 | n+1=>by
  rw[List.replicate_succ,List.replicate_succ,List.flatten_cons,List.flatten_cons];exact h.append (Vals.rep h n)
theorem RPs.rep{K:PySem.W.Frag}{Z:Addr->Prop}{m:Mu}{H:Hp}{xs:List PyData}{vs:List V}(h:RPs K Z m H xs vs):∀ n:Nat,RPs K Z m H (List.replicate n xs).flatten (List.replicate n vs).flatten
 | 0=>by simp[RPs]
 | n+1=>by
  rw[List.replicate_succ,List.replicate_succ,List.flatten_cons,List.flatten_cons];exact h.append (RPs.rep h n)
section
variable {X:Cx}
theorem S8{pins:List (Addr×Obj)}{s:Shared}{σ:L2.St}{H:Hp}{Q:VK}{a:Addr}{xs:List V}{k:Int}{t:Tok}(I:Inv X pins σ H s)(ha:SqT X.K H a xs)(h1:xs≠[])(h2:2<=k)(h3:k<=100)(h4:xs.length*k.toNat<=sizeLine)
  (q:∀ p,H p=none->Q (.ref p) (upd H p (.tup (List.replicate k.toNat xs).flatten))):wpAny (model X.prog X.w) X.A (binaryOp .Mult (.ref a) (.int k t)) (EP X pins σ Q) X.xe s:=by
 obtain⟨its,r,p,hz⟩:=I.tuple ha;have hl:=r.length
 obtain⟨⟨cls,dd,data,sl⟩,ho,hc,n,hd⟩:=id p;simp only at hc hd;subst hc hd;refine wpAny_binaryOp_repeat_ref (T:="tuple") (U:="int") (by decide) ⟨_,ho,rfl⟩ (fun s'=>typeIs_int s' k t) Q4 PySem.F.fills_int_mul PySem.F.slot_int_rmul Pk PySem.F.slot_int_index.lookup
  (call_meets PySem.F.slot_int_rmul (typeIs_int s k t) PySem.F.entry_int_rmul (PySem.F.args_int_rmul_2 _ _) (GF k t a its.toArray n dd sl) ⟨ho,rfl,⟨_,ho,rfl⟩,call_meets PySem.F.slot_tuple_mul ⟨_,ho,rfl⟩ PySem.F.entry_tuple_mul (PySem.F.args_tuple_mul_2 _ _) (AI a its.toArray k t ?_ h2 h3 ?_) ⟨p,?_⟩⟩)
 ·rw[List.size_toArray,<- hl];intro e;exact h1 (List.length_eq_zero_iff.mp e)
 ·rw[List.size_toArray,<- hl];exact h4
 ·have e:=Bt its k.toNat []
  rw[List.nil_append]at e;rw[e];exact⟨.ref s.heap.objs.size,_,I.laid (t':=s.toks) (o:=.tup (List.replicate k.toNat xs).flatten) (fun b ob q=>Heap.get?_push_of_some _ q) (Nat.le_refl _) ⟨⟨by rw[An];exact h4,NoD.new _ _ _⟩,_,Vals.rep r k.toNat,IsTup.new _ _⟩,rfl,q _ (I.hok.fresh (Nat.le_refl _))⟩
end
end DL
namespace DL
open PySem PySem.Spec PyProof.Rows L2
@[simp] def bS:D2
 | .dat (.int i),.dat (.int j),m,Q=>Q (.dat (.int (i+j))) m
 | .dat (.str a),.dat (.str b),m,Q=>a.length+b.length<=sizeLine/\Q (.dat (.str (a++b))) m
 | .dat (.tuple a),.dat (.tuple b),m,Q=>a.length+b.length<=sizeLine/\Q (.dat (.tuple (a++b))) m
 | .dat (.list a),.dat (.list b),m,Q=>a.length+b.length<=sizeLine/\Q (.dat (.list (a++b))) m
 | .cel c,.dat (.list b),m,Q=>∃ a,m c=some (.l a)/\a.length+b.length<=sizeLine/\Q (.dat (.list (a++b))) m
 | _,_,_,_=>False
@[simp] def gA:D2
 | .dat (.int i),.dat (.int j),m,Q=>Q (.dat (.int (i-j))) m
 | _,_,_,_=>False
@[simp] def eJ:D2
 | .dat (.int i),.dat (.int j),m,Q=>IntMulOk i j/\Q (.dat (.int (i*j))) m
 | .dat (.tuple a),.dat (.int k),m,Q=>a≠[]/\2<=k/\k<=100/\a.length*k.toNat<=sizeLine/\Q (.dat (.tuple (List.replicate k.toNat a).flatten)) m
 | _,_,_,_=>False
@[simp] def mQ:D2
 | .dat (.int i),.dat (.int j),m,Q=>j≠0/\j.natAbs.log2<9000/\Q (.dat (.int (i.fdiv j))) m
 | _,_,_,_=>False
@[simp] def fZ:D2
 | .dat (.int i),.dat (.int j),m,Q=>j≠0/\Q (.dat (.int (i.fmod j))) m
 | _,_,_,_=>False
@[simp] def wG:D2
 | .dat (.int i),.dat (.int j),m,Q=>(0<=j/\j<=1000000/\i.natAbs<2^64)/\Q (.dat (.int (i^j.toNat))) m
 | _,_,_,_=>False
@[simp] def gV:D2
 | .dat (.int i),.dat (.int j),m,Q=>Q (.dat (.bool (decide (i<j)))) m
 | _,_,_,_=>False
@[simp] def oE:D2
 | .dat (.int i),.dat (.int j),m,Q=>Q (.dat (.bool (decide (j<i)))) m
 | _,_,_,_=>False
@[simp] def dB:D2
 | .dat (.str a),.dat (.str b),m,Q=>Q (.dat (.bool (decide (a=b)))) m
 | .dat p,.dat q,m,Q=>p.canLay0=true/\q.canLay0=true/\p.depth<=100/\Q (.dat (.bool (PyData.eqv p q))) m
 | _,_,_,_=>False
@[simp] def lT:D2
 | .dat (.str a),.dat (.str b),m,Q=>Q (.dat (.bool (!decide (a=b)))) m
 | .dat p,.dat q,m,Q=>p.canLay0=true/\q.canLay0=true/\p.depth<=100/\Q (.dat (.bool (!PyData.eqv p q))) m
 | _,_,_,_=>False
section
variable {X:Cx}
theorem RD.int{K:PySem.W.Frag}{Z:Addr->Prop}{m:Mu}{H:Hp}{i:Int}{v:V}(h:RD K Z m H (.dat (.int i)) v):v=.int i:=by simpa only[RD,RP] using h
theorem RD.ofInt{K:PySem.W.Frag}{Z:Addr->Prop}{m:Mu}{H:Hp}{i:Int}:RD K Z m H (.dat (.int i)) (.int i):=by simp only[RD,RP]
theorem RD.str{K:PySem.W.Frag}{Z:Addr->Prop}{m:Mu}{H:Hp}{i:Str}{v:V}(h:RD K Z m H (.dat (.str i)) v):v=.str i:=by simpa only[RD,RP] using h
theorem RD.ofStr{K:PySem.W.Frag}{Z:Addr->Prop}{m:Mu}{H:Hp}{i:Str}:RD K Z m H (.dat (.str i)) (.str i):=by simp only[RD,RP]
theorem iG:dO X (binaryOp .Sub) gA:=by
 intro pins s σ H Z m x y dx dy v u R Q I ok rx ry r1 r2 h k;unfold gA at h
 split at h
 ·cases r1.int;cases r2.int
  exact Qz pins s σ H _ _ v u Q I rx ry ⟨_,_,rfl,rfl,k _ m _ H h Ext.refl ok .ofInt⟩
 ·exact h.elim
theorem fF:dO X (binaryOp .Mult) eJ:=by
 intro pins s σ H Z m x y dx dy v u R Q I ok rx ry r1 r2 h k;unfold eJ at h
 split at h
 ·cases r1.int;cases r2.int
  obtain⟨t,rfl⟩:=rx;obtain⟨t',rfl⟩:=ry;exact mul_int ⟨.int _,H,I.tok _,⟨_,rfl⟩,k _ m _ H h.2 Ext.refl ok .ofInt⟩ h.1
 ·rename_i a j;obtain⟨h1,h2,h3,h4,h5⟩:=h
  cases r2.int
  simp only[RD,RP]at r1;obtain⟨p,vs,rfl,g1,g2⟩:=r1
  cases rx
  obtain⟨t',rfl⟩:=ry;have hl:=g2.length
  refine S8 I g1 (fun e=>h1 ?_) h2 h3 (by rw[hl];exact h4) fun t ht=>?_
  ·subst e
   cases a with
   | nil=>rfl
   | cons _ _=>simp at hl
  ·have sm:Same H (upd H t (.tup (List.replicate j.toNat vs).flatten)):=cU ht
   refine k _ m _ _ h5 (ok.ext sm) (ok.grow sm) ?_;simp only[RD,RP];exact⟨t,_,rfl,.inl (.inl cX),RPs.ext (ok.ext sm) _ _ (g2.rep _)⟩
 ·exact h.elim
theorem qQ:dO X (binaryOp .FloorDiv) mQ:=by
 intro pins s σ H Z m x y dx dy v u R Q I ok rx ry r1 r2 h k;unfold mQ at h
 split at h
 ·cases r1.int;cases r2.int
  obtain⟨t,rfl⟩:=rx;obtain⟨t',rfl⟩:=ry;exact floordiv_int h.1 ⟨.int _,H,I.tok _,⟨_,rfl⟩,k _ m _ H h.2.2 Ext.refl ok .ofInt⟩ (.inl (PyProof.noPylong_of_log2 h.2.1))
 ·exact h.elim
theorem gM:dO X (binaryOp .Mod) fZ:=by
 intro pins s σ H Z m x y dx dy v u R Q I ok rx ry r1 r2 h k;unfold fZ at h
 split at h
 ·cases r1.int;cases r2.int
  exact O1 pins s σ H _ _ v u Q I rx ry ⟨_,_,rfl,rfl,h.1,k _ m _ H h.2 Ext.refl ok .ofInt⟩
 ·exact h.elim
theorem Ph:dO X (binaryOp .Pow) wG:=by
 intro pins s σ H Z m x y dx dy v u R Q I ok rx ry r1 r2 h k;unfold wG at h
 split at h
 ·cases r1.int;cases r2.int
  exact Yr pins s σ H _ _ v u Q I rx ry ⟨_,_,rfl,rfl,h.1,k _ m _ H h.2 Ext.refl ok .ofInt⟩
 ·exact h.elim
theorem jX:dO X (compareOp .Lt) gV:=by
 intro pins s σ H Z m x y dx dy v u R Q I ok rx ry r1 r2 h k;unfold gV at h
 split at h
 ·cases r1.int;cases r2.int
  exact Ww pins s σ H _ _ v u Q I rx ry ⟨_,_,rfl,rfl,k _ m _ H h Ext.refl ok .ofBl⟩
 ·exact h.elim
theorem Ba:dO X (compareOp .Gt) oE:=by
 intro pins s σ H Z m x y dx dy v u R Q I ok rx ry r1 r2 h k;unfold oE at h
 split at h
 ·cases r1.int;cases r2.int
  exact BF pins s σ H _ _ v u Q I rx ry ⟨_,_,rfl,rfl,k _ m _ H h Ext.refl ok .ofBl⟩
 ·exact h.elim
theorem dP(hu:X.A.units+100<cLine):dO X (compareOp .Eq) dB:=by
 intro pins s σ H Z m x y dx dy v u R Q I ok rx ry r1 r2 h k;unfold dB at h
 split at h
 ·cases r1.str;cases r2.str
  refine FJ pins s σ H _ _ v u Q I rx ry ⟨rfl,?_⟩;have e:∀ a b:Str,decide (V.str a=V.str b)=decide (a=b):=fun a b=>by
   rw[Bool.eq_iff_iff];simp
  rw[e];exact k _ m _ H h Ext.refl ok .ofBl
 ·rename_i p q hne;obtain⟨h1,h2,h3,h4⟩:=h;obtain⟨as,ra⟩:=RP.reads I p x v r1 rx;obtain⟨bs,rb⟩:=RP.reads I q y u r2 ry;exact SeqAt.compareEq_reads ra rb h1 h2 (by omega) ⟨.bl _,H,I,rfl,k _ m _ H h4 Ext.refl ok .ofBl⟩
 ·exact h.elim
theorem pJ(hu:X.A.units+100<cLine):dO X (compareOp .NotEq) lT:=by
 intro pins s σ H Z m x y dx dy v u R Q I ok rx ry r1 r2 h k;unfold lT at h
 split at h
 ·cases r1.str;cases r2.str
  refine b8 pins s σ H _ _ v u Q I rx ry ⟨rfl,?_⟩;have e:∀ a b:Str,decide (V.str a=V.str b)=decide (a=b):=fun a b=>by
   rw[Bool.eq_iff_iff];simp
  rw[e];exact k _ m _ H h Ext.refl ok .ofBl
 ·rename_i p q hne;obtain⟨h1,h2,h3,h4⟩:=h;obtain⟨as,ra⟩:=RP.reads I p x v r1 rx;obtain⟨bs,rb⟩:=RP.reads I q y u r2 ry;exact SeqAt.compareNe_reads ra rb h1 h2 (by omega) ⟨.bl _,H,I,rfl,k _ m _ H h4 Ext.refl ok .ofBl⟩
 ·exact h.elim
theorem Rp{pins:List (Addr×Obj)}{s:Shared}{σ:L2.St}{H:Hp}{Q:VK}{a b:Addr}{ys:List V}(I:Inv X pins σ H s)(ha:SqT X.K H a [])(hb:SqT X.K H b ys)(q:Q (.ref b) H) :
  wpAny (model X.prog X.w) X.A (binaryOp .Add (.ref a) (.ref b)) (EP X pins σ Q) X.xe s:=by
 obtain⟨its,r1,p1,_⟩:=I.tuple ha;obtain⟨its2,r2,p2,_⟩:=I.tuple hb
 cases r1
 obtain⟨⟨cls,dd,data,sl⟩,ho,hc,n,hd⟩:=id p1;obtain⟨⟨cls2,dd2,data2,sl2⟩,ho2,hc2,n2,hd2⟩:=id p2;simp only at hc hd hc2 hd2;subst hc hd hc2 hd2;exact concat_meets ⟨_,ho,rfl⟩ ⟨_,ho2,rfl⟩ noFill_tuple_add seq_tuple_add PySem.F.slot_tuple_add PySem.F.entry_tuple_add (PySem.F.args_tuple_add_2 _ _)
   (tuple_addW0 a b _ _ n n2 dd dd2 sl sl2 (by simp)) ⟨ho,ho2,⟨.ref b,H,I,rfl,q⟩⟩
theorem Nw:OpR X (binaryOp .Add) (fun x y H Q=>∃ a b xs ys,x=.ref a/\y=.ref b/\SqL X.K H a xs/\SqL X.K H b ys/\xs.length+ys.length<=sizeLine/\∀ p,H p=none->Q (.ref p) (upd H p (.lst (xs++ys)))):=by
 intro pins s σ H x y v u Q I rx ry h;obtain⟨a,b,xs,ys,rfl,rfl,ha,hb,hz,q⟩:=h
 cases rx
 cases ry
 obtain⟨its,r1,p1,_⟩:=I.list ha;obtain⟨its2,r2,p2,_⟩:=I.list hb;obtain⟨⟨cls,dd,data,sl⟩,ho,hc,n,hd⟩:=id p1.isList;obtain⟨⟨cls2,dd2,data2,sl2⟩,ho2,hc2,n2,hd2⟩:=id p2.isList;simp only at hc hd hc2 hd2;subst hc hd hc2 hd2;have l1:=r1.length
 have l2:=r2.length
 have e:its.toArray++its2.toArray=(its++its2).toArray:=by simp
 refine concat_meets ⟨_,ho,rfl⟩ ⟨_,ho2,rfl⟩ noFill_list_add seq_list_add PySem.F.slot_list_add PySem.F.entry_list_add (PySem.F.args_list_add_2 _ _)
   (list_addW a b its.toArray its2.toArray n n2 dd dd2 sl sl2 (by rw[List.size_toArray,List.size_toArray];omega)) ⟨ho,ho2,?_⟩
 rw[e];exact⟨.ref s.heap.objs.size,_,I.laid (t':=s.toks) (o:=.lst (xs++ys)) (fun b ob q=>Heap.get?_push_of_some _ q) (Nat.le_refl _) ⟨by rw[List.length_append];omega,_,0,r1.append r2,Heap.get?_push_size _ rfl⟩,rfl,q _ (I.hok.fresh (Nat.le_refl _))⟩
theorem bW:dO X (binaryOp .Add) bS:=by
 intro pins s σ H Z m x y dx dy v u R Q I ok rx ry r1 r2 h k;unfold bS at h
 split at h
 ·cases r1.int;cases r2.int
  exact Yj pins s σ H _ _ v u Q I rx ry ⟨_,_,rfl,rfl,k _ m _ H h Ext.refl ok .ofInt⟩
 ·cases r1.str;cases r2.str
  exact Qu pins s σ H _ _ v u Q I rx ry ⟨_,_,rfl,rfl,h.1,k _ m _ H h.2 Ext.refl ok .ofStr⟩
 ·rename_i a b;simp only[RD,RP]at r1 r2;obtain⟨p,vs,rfl,h1,h2⟩:=r1;obtain⟨q,ws,rfl,g1,g2⟩:=r2;have l1:=h2.length
  have l2:=g2.length
  by_cases e1:a=[]
  ·subst e1;simp only[RPs]at h2;subst h2
   cases rx;cases ry
   refine Rp I h1 g1 (k _ m _ H h.2 Ext.refl ok ?_);simp only[RD,RP];exact⟨q,ws,rfl,g1,by simpa using g2⟩
  ·refine We pins s σ H _ _ v u Q I rx ry ⟨p,q,vs,ws,rfl,rfl,h1,g1,?_,by omega,fun e2=>?_,fun e2 t ht=>?_⟩
   ·rintro rfl
    cases a with
    | nil=>exact e1 rfl
    | cons _ _=>simp at l1
   ·subst e2;have e3:b=[]:=by cases b with | nil=>rfl | cons _ _=>simp at l2
    subst e3;refine k _ m _ H h.2 Ext.refl ok ?_;simp only[RD,RP];exact⟨p,vs,rfl,h1,by simpa using h2⟩
   ·have sm:Same H (upd H t (.tup (vs++ws))):=cU ht
    refine k _ m _ _ h.2 (ok.ext sm) (ok.grow sm) ?_;simp only[RD,RP];exact⟨t,_,rfl,.inl (.inl cX),RPs.ext (ok.ext sm) _ _ (h2.append g2)⟩
 ·rename_i a b;simp only[RD,RP]at r1 r2;obtain⟨p,vs,rfl,h0,h1,h2⟩:=r1;obtain⟨q,ws,rfl,g0,g1,g2⟩:=r2;have l1:=h2.length
  have l2:=g2.length
  refine Nw pins s σ H _ _ v u Q I rx ry ⟨p,q,vs,ws,rfl,rfl,h1,g1,by omega,fun t ht=>?_⟩
  have sm:Same H (upd H t (.lst (vs++ws))):=cU ht
  refine k _ m _ _ h.2 (ok.ext sm) (ok.grow sm) ?_;simp only[RD,RP];exact⟨t,_,rfl,fJ ok ht,.inl (.inl cX),RPs.ext (ok.ext sm) _ _ (h2.append g2)⟩
 ·rename_i c b;obtain⟨aa,hm,hz,hq⟩:=h;obtain⟨rfl,_⟩:=r1;obtain⟨vs,g0,g3⟩:=ok.l hm;simp only[RD,RP]at r2;obtain⟨q,ws,rfl,_,g1,g2⟩:=r2;have l1:=g3.length
  have l2:=g2.length
  refine Nw pins s σ H _ _ v u Q I rx ry ⟨c,q,vs,ws,rfl,rfl,.inl (.inl g0),g1,by omega,fun t ht=>?_⟩
  have sm:Same H (upd H t (.lst (vs++ws))):=cU ht
  refine k _ m _ _ hq (ok.ext sm) (ok.grow sm) ?_;simp only[RD,RP];exact⟨t,_,rfl,fJ ok ht,.inl (.inl cX),RPs.ext (ok.ext sm) _ _ (g3.append g2)⟩
 ·exact h.elim
end
end DL
namespace DL
open PySem PySem.Spec PyProof.Rows L2
section
variable {X:Cx}{a b c e:Expr}{es:List Expr}{f g:DE}{ga:DA}{pos p2 p:Pos}
@[simp] def dG(f:DE):DE:=fun d m Q=>f d m fun x m1=>∃ i,x=.dat (.int i)/\Q (.dat (.int (-i))) m1
theorem Vh(ha:PE X a (LE X.K f)):PE X (.UnaryOp .USub a pos) (LE X.K (dG f)) :=
 PE.imp (l6 BD ha) fun s H Q h=>by
  obtain⟨Z,d,m,R,ok,rs,h,k⟩:=h;refine⟨Z,d,m,_,ok,rs,h,fun x m1 v H1 ⟨i,e,q⟩ e1 ok1 rd=>?_⟩;subst e;exact⟨i,rd.int,k _ m1 _ H1 q e1 ok1 .ofInt⟩
@[simp] def aW:D2
 | .dat (.tuple xs),.dat (.int i),m,Q=>∃ p,cA xs i=some p/\Q (.dat p) m
 | .dat (.list xs),.dat (.int i),m,Q=>∃ p,cA xs i=some p/\Q (.dat p) m
 | .cel a,.dat (.int i),m,Q=>∃ xs p,m a=some (.l xs)/\cA xs i=some p/\Q (.dat p) m
 | .dat (.str z),.dat (.int i),m,Q=>∃ c,z.length<=sizeLine/\cA z.cps.toList i=some c/\Q (.dat (.str ⟨#[c]⟩)) m
 | _,_,_,_=>False
theorem RPs.at{K:PySem.W.Frag}{Z:Addr->Prop}{m:Mu}{H:Hp}{xs:List PyData}{vs:List V}{i:Int}{p:PyData}(h:RPs K Z m H xs vs)(e:cA xs i=some p):∃ v,cA vs i=some v/\RP K Z m H p v:=by
 unfold cA at e ⊢;rw[h.length]
 cases q:gB xs.length i with
 | none=>rw[q]at e;cases e
 | some j =>
  rw[q]at e;exact h.get (i:=j) e
theorem Sh(ha:PE X a (LE X.K f))(hb:PE X b (LE X.K g))(hs:Cq b:=by exact fun _ _=>rfl):PE X (.Subscript a b pos) (LE X.K (aI aW f g)) :=
 PE.imp (P3 O8 ha hb hs) fun s H Q h=>by
  obtain⟨Z,d,m,R,ok,rs,h,k⟩:=h;refine⟨Z,d,m,_,ok,rs,h,fun x m1 v H1 q e1 ok1 rx=>⟨Z,d,m1,_,ok1,rs.ext e1,q,fun y m2 w H2 q2 e2 ok2 ry=>?_⟩⟩;have rx2:=rx.ext e2
  have e12:=e1.trans e2
  unfold aW at q2
  split at q2
  ·obtain⟨p,ep,q⟩:=q2
   cases ry.int
   simp only[RD,RP]at rx2;obtain⟨a,vs,rfl,h1,h2⟩:=rx2;obtain⟨z,ez,rz⟩:=h2.at ep;exact .inr (.inl ⟨a,vs,_,z,rfl,rfl,h1,ez,k _ m2 z H2 q e12 ok2 rz⟩)
  ·obtain⟨p,ep,q⟩:=q2
   cases ry.int
   simp only[RD,RP]at rx2;obtain⟨a,vs,rfl,_,h1,h2⟩:=rx2;obtain⟨z,ez,rz⟩:=h2.at ep;exact .inl ⟨a,vs,_,z,rfl,rfl,h1,ez,k _ m2 z H2 q e12 ok2 rz⟩
  ·obtain⟨xs,p,hm,ep,q⟩:=q2
   cases ry.int
   obtain⟨rfl,_⟩:=rx2;obtain⟨vs,h1,h2⟩:=ok2.l hm;obtain⟨z,ez,rz⟩:=h2.at ep;exact .inl ⟨_,vs,_,z,rfl,rfl,.inl (.inl h1),ez,k _ m2 z H2 q e12 ok2 rz⟩
  ·obtain⟨c,hz,ec,q⟩:=q2
   cases ry.int
   cases rx2.str
   exact .inr (.inr ⟨_,_,c,rfl,rfl,hz,ec,k _ m2 _ H2 q e12 ok2 .ofStr⟩)
  ·exact q2.elim
abbrev DO:=bO->Mu->(Option Int->Mu->Prop)->Prop
def LO(K:PySem.W.Frag)(f:DO):TO:=fun s H Q=>∃ (Z:Addr->Prop) (d:bO) (m:Mu) (R:Option Int->Mu->Prop),Ok K Z m H/\RS K Z m H d s/\f d m R /\
 ∀ x m' H',R x m'->Ext K Z m H m' H'->Ok K Z m' H'->Q x H'
@[simp] def fR:DO:=fun _ m Q=>Q none m
@[simp] def fE(f:DE):DO:=fun d m Q=>f d m fun x m1=>∃ i,x=.dat (.int i)/\Q (some i) m1
theorem PO.imp{e:Option Expr}{t t':TO}(h:PO X e t)(q:∀ s H Q,t' s H Q->t s H Q):PO X e t':=fun pins s d H Q I w=>h pins s d H Q I (q _ _ _ w)
theorem Xx:PO X none (LO X.K fR):=PO.imp O4 fun s H Q h=>by
 obtain⟨Z,d,m,R,ok,rs,h,k⟩:=h;exact k none m H h Ext.refl ok
theorem B9(ha:PE X a (LE X.K f)):PO X (some a) (LO X.K (fE f)):=PO.imp (P1 ha) fun s H Q h=>by
 obtain⟨Z,d,m,R,ok,rs,h,k⟩:=h;refine⟨Z,d,m,_,ok,rs,h,fun x m1 v H1 ⟨i,e,q⟩ e1 ok1 rd=>?_⟩;subst e;exact⟨i,rd.int,k _ m1 H1 q e1 ok1⟩
def cV{α:Type}(xs:List α)(lo hi:Option Int):List α:=(xs.drop (HT.sIx xs.length 0 lo)).take (HT.sIx xs.length xs.length hi-HT.sIx xs.length 0 lo)
theorem N0{α:Type}(xs:List α)(lo hi:Option Int):(cV xs lo hi).length<=xs.length:=by
 unfold cV;rw[List.length_take,List.length_drop];omega
theorem RPs.cut{K:PySem.W.Frag}{Z:Addr->Prop}{m:Mu}{H:Hp}{xs:List PyData}{vs:List V}{lo hi:Option Int}(h:RPs K Z m H xs vs):RPs K Z m H (cV xs lo hi) (iS vs lo hi):=by
 unfold cV iS;rw[h.length];exact(h.drop _).take _
theorem Om{α:Type}(xs:List α){lo hi:Option Int}(h:HT.sIx xs.length 0 lo=0/\HT.sIx xs.length xs.length hi=xs.length):cV xs lo hi=xs:=by
 unfold cV;rw[h.1,h.2];simp
def Wm(K:PySem.W.Frag):V->Option Int->Option Int->Hp->VK->Prop:=fun x lo hi H Q=>∃ a xs,x=.ref a/\SqT K H a xs /\
 (HT.sIx xs.length 0 lo=0/\HT.sIx xs.length xs.length hi=xs.length)/\Q (.ref a) H
theorem N9{prog:Program}{w:World}{A:Around}{E:Value->Shared->Prop}{s:Shared}{t sl:Addr}{items:Array Value}{vl vu:Value}{lo hi:Option Int}{Q:Value->Shared->Prop}(ht:IsTup s.heap t items)(hs:s.heap.IsSliceOf sl vl vu .none)(pl:IsPart vl lo)(pu:IsPart vu hi)
  (hw:HT.sIx items.size 0 lo=0/\HT.sIx items.size items.size hi=items.size)
  (h:Q (.ref t) s):wpAny (model prog w) A (getItem (.ref t) (.ref sl)) Q E s:=by
 obtain⟨os,hos,hcs,hds⟩:=id hs;have hTs:s.TypeIs (.ref sl) "slice":=⟨os,hos,hcs⟩
 unfold getItem
 try with_reducible refine wpAny_holding ?_
 first | refine wpAny_bind (wpAny_pure ?_) | skip
 refine wpAny_bind (wpAny_sequenceKey ht.typeIs (by decide) ?_)
 refine wpAny_bind (wpAny_callSpecial?_slot (name:=Str.ofString "__getitem__") ht.typeIs PyProof.Rows.slot_tuple_getitem
  (wpAny_call_entry PyProof.Rows.slot_tuple_getitem ht.typeIs entry_tuple_getitem ?_ (args_tuple_getitem _ _)))
 show wpAny _ _ (Builtin.Tuple.tupleItemsOf (.ref t)>>=_) _ _ s
 refine wpAny_bind (tupleItemsOf_ ht ?_);refine wpAny_bind (wpAny_typeOf hTs ?_);rw[if_pos (by decide)]
 refine wpAny_bind (HT.sliceApplied_gen hs pl pu ?_);have hyes:(((HT.sIx items.size 0 lo:Nat):Int)==0&&(1:Int)==1&&(HT.sIx items.size items.size hi-HT.sIx items.size 0 lo)==items.size)=true:=by
  rw[hw.1,hw.2];simp
 show wpAny _ _ (if (((HT.sIx items.size 0 lo:Nat):Int)==0&&(1:Int)==1&&(HT.sIx items.size items.size hi-HT.sIx items.size 0 lo)==items.size)=true then _ else _) _ _ s
 rw[if_pos hyes];refine wpAny_bind ?_;unfold Builtin.Tuple.tupleIsExact;refine wpAny_bind (wpAny_typeOf ht.typeIs (wpAny_pure ?_));rw[if_pos (by decide)]
 first
  | exact wpAny_bind (wpAny_rule (wpAny_pure ⟨_,rfl,wpAny_pure h⟩))
  | exact wpAny_bind (wpAny_rule (wpAny_bind (wpAny_pure (wpAny_pure ⟨_,rfl,wpAny_pure h⟩))))
theorem Z4:SlR X (Wm X.K):=by
 intro pins s σ H x v vl vu lo hi sl Q I rx hs pl pu h;obtain⟨a,xs,rfl,hx,hw,q⟩:=h
 cases rx
 obtain⟨its,r,ht,hz⟩:=I.tuple hx;have hlen:its.toArray.size=xs.length:=by rw[List.size_toArray];exact r.length.symm
 refine⟨"tuple",_,PyProof.Rows.slot_tuple_getitem.lookup,ht.typeIs,?_⟩;exact N9 ht hs pl pu (by rw[hlen];exact hw) ⟨.ref a,H,I,rfl,q⟩
abbrev DC:=List D->Mu->DK->Prop
def CallD(X:Cx)(fn:Value)(r:DC):Prop :=
 ∀ (pins:List (Addr×Obj)) (s:Shared) (σ:L2.St) (H:Hp) (Z:Addr->Prop) (m:Mu) (xs:List V) (ds:List D) (us:List Value) (R:DK) (Q:VK),Inv X pins σ H s->Ok X.K Z m H->Vals xs us->RDs X.K Z m H ds xs->r ds m R ->
  (∀ d m' v' H',R d m'->Ext X.K Z m H m' H'->Ok X.K Z m' H'->RD X.K Z m' H' d v'->Q v' H')->wpAny (model X.prog X.w) X.A (call fn us) (EP X pins σ Q) X.xe s
theorem CallD.cr{fn:Value}{r:DC}(h:CallD X fn r):CallR X fn (fun vs H Q=>∃ Z m ds R,Ok X.K Z m H/\RDs X.K Z m H ds vs/\r ds m R/\∀ d m' v' H',R d m'->Ext X.K Z m H m' H'->Ok X.K Z m' H'->RD X.K Z m' H' d v'->Q v' H'):=by
 intro pins s σ H xs us Q I r1 ⟨Z,m,ds,R,ok,rd,q,k⟩;exact h pins s σ H Z m xs ds us R Q I ok r1 rd q k
@[simp] def bC(r:DC)(g:DA):DE:=fun d m Q=>g d m fun xs m1=>r xs m1 Q
theorem LE.call{r:DC}{H:Hp}{σ:L2.St}{Q:VK}(h:LE X.K (bC r ga) σ H Q) :
  LA X.K ga σ H fun vs H1=>∃ Z m ds R,Ok X.K Z m H1/\RDs X.K Z m H1 ds vs/\r ds m R/\∀ d m' v' H',R d m'->Ext X.K Z m H1 m' H'->Ok X.K Z m' H'->RD X.K Z m' H' d v'->Q v' H':=by
 obtain⟨Z,d,m,R,ok,rs,h,k⟩:=h;exact⟨Z,d,m,_,ok,rs,h,fun xs m1 vs H1 q e1 ok1 r1=>⟨Z,m1,xs,R,ok1,r1,q,fun d' m' v' H' h1 h2 h3 h4=>k d' m' v' H' h1 (e1.trans h2) h3 h4⟩⟩
theorem V5{x:Str}{id:String}{r:DC}(hc:CallD X (.builtin id) r)(hg:Gl X x)(hm:X.mg x=none)(hv:bootBuiltins x=some (.builtin id))(ha:PA X (e::es) (LA X.K ga))(hn:x≠"__name__":=by decide)(hdb:(x==("__debug__" : Str))=false:=by decide)
  (he:starEach (e::es) X.env=(false,eval e X.env)::starEach es X.env:=by rfl) (hpl:(backTo pos (starEach es X.env)).any (·.1)=false:=by rfl):PE X (.Call (.Name x p) (e::es) [] pos) (LE X.K (bC r ga)) :=
 PE.imp (FG hc.cr hg hm hv ha hn hdb he hpl) fun s H Q h=>h.call
theorem Sg{x:Str}{T:String}{r:DC}(hc:CallD X (.type T) r)(hg:Gl X x)(hm:X.mg x=none)(hv:bootBuiltins x=some (.type T))(ha:PA X (e::es) (LA X.K ga))(hn:x≠"__name__":=by decide)(hdb:(x==("__debug__" : Str))=false:=by decide)
  (he:starEach (e::es) X.env=(false,eval e X.env)::starEach es X.env:=by rfl) (hpl:(backTo pos (starEach es X.env)).any (·.1)=false:=by rfl):PE X (.Call (.Name x p) (e::es) [] pos) (LE X.K (bC r ga)) :=
 PE.imp (U2 hc.cr hg hm hv ha hn hdb he hpl) fun s H Q h=>h.call
theorem RDs.one{K:PySem.W.Frag}{Z:Addr->Prop}{m:Mu}{H:Hp}{x:D}{vs:List V}(h:RDs K Z m H [x] vs):∃ v,vs=[v]/\RD K Z m H x v:=by
 obtain⟨v,r,h1,h2,h3⟩:=h
 cases (show r=[] from h3)
 exact⟨v,h1,h2⟩
theorem RDs.two{K:PySem.W.Frag}{Z:Addr->Prop}{m:Mu}{H:Hp}{x y:D}{vs:List V}(h:RDs K Z m H [x,y] vs):∃ v w,vs=[v,w]/\RD K Z m H x v/\RD K Z m H y w:=by
 obtain⟨v,r,h1,h2,h3⟩:=h;obtain⟨w,rfl,h4⟩:=RDs.one h3;exact⟨v,w,h1,h2,h4⟩
@[simp] def cY:DC
 | [.dat (.tuple xs)],m,Q=>Q (.dat (.int xs.length)) m
 | [.dat (.list xs)],m,Q=>Q (.dat (.int xs.length)) m
 | [.dat (.str z)],m,Q=>z.length<=sizeLine/\Q (.dat (.int z.length)) m
 | [.cel a],m,Q=>∃ xs,m a=some (.l xs)/\Q (.dat (.int xs.length)) m
 | _,_,_=>False
theorem dH:CallD X (.builtin "len") cY:=by
 intro pins s σ H Z m xs ds us R Q I ok rv rd h k;unfold cY at h
 split at h
 ·obtain⟨v,rfl,r1⟩:=rd.one;simp only[RD,RP]at r1;obtain⟨a,vs,rfl,h1,h2⟩:=r1;refine Cb pins s σ H _ us Q I rv ⟨a,vs,rfl,.inr h1,?_⟩;rw[h2.length];exact k _ m _ H h Ext.refl ok .ofInt
 ·obtain⟨v,rfl,r1⟩:=rd.one;simp only[RD,RP]at r1;obtain⟨a,vs,rfl,_,h1,h2⟩:=r1;refine Cb pins s σ H _ us Q I rv ⟨a,vs,rfl,.inl h1,?_⟩;rw[h2.length];exact k _ m _ H h Ext.refl ok .ofInt
 ·obtain⟨v,rfl,r1⟩:=rd.one
  cases r1.str
  exact Pc pins s σ H _ us Q I rv ⟨_,rfl,h.1,k _ m _ H h.2 Ext.refl ok .ofInt⟩
 ·obtain⟨v,rfl,r1⟩:=rd.one;obtain⟨rfl,_⟩:=r1;obtain⟨ys,hm,q⟩:=h;obtain⟨vs,h1,h2⟩:=ok.l hm;refine Cb pins s σ H _ us Q I rv ⟨_,vs,rfl,.inl (.inl (.inl h1)),?_⟩;rw[h2.length];exact k _ m _ H q Ext.refl ok .ofInt
 ·exact h.elim
@[simp] def zC:DC
 | [.dat (.int i)],m,Q=>Q (.dat (.int (if i<0 then -i else i))) m
 | _,_,_=>False
theorem Zd:CallD X (.builtin "abs") zC:=by
 intro pins s σ H Z m xs ds us R Q I ok rv rd h k;unfold zC at h
 split at h
 ·obtain⟨v,rfl,r1⟩:=rd.one
  cases r1.int
  exact Pn pins s σ H _ us Q I rv ⟨_,rfl,k _ m _ H h Ext.refl ok .ofInt⟩
 ·exact h.elim
@[simp] def iZ:DC
 | [.dat (.int i)],m,Q=>Q (.dat (.int i)) m
 | [.dat (.bool b)],m,Q=>Q (.dat (.int (if b then 1 else 0))) m
 | _,_,_=>False
theorem oA:CallD X (.type "int") iZ:=by
 intro pins s σ H Z m xs ds us R Q I ok rv rd h k;unfold iZ at h
 split at h
 ·obtain⟨v,rfl,r1⟩:=rd.one
  cases r1.int
  exact Im pins s σ H _ us Q I rv (.inl ⟨_,rfl,k _ m _ H h Ext.refl ok .ofInt⟩)
 ·obtain⟨v,rfl,r1⟩:=rd.one
  cases r1.bl
  exact Im pins s σ H _ us Q I rv (.inr ⟨_,rfl,k _ m _ H h Ext.refl ok .ofInt⟩)
 ·exact h.elim
@[simp] def Cc:DC
 | [.dat (.tuple xs)],m,Q=>Q (.dat (.list xs)) m
 | [.dat (.list xs)],m,Q=>Q (.dat (.list xs)) m
 | _,_,_=>False
theorem F0:CallD X (.type "list") Cc:=by
 intro pins s σ H Z m xs ds us R Q I ok rv rd h k;unfold Cc at h
 split at h
 ·obtain⟨v,rfl,r1⟩:=rd.one;simp only[RD,RP]at r1;obtain⟨a,vs,rfl,h1,h2⟩:=r1;refine Mo pins s σ H _ us Q I rv ⟨a,vs,rfl,.inr h1,fun l hl=>?_⟩;have sm:Same H (upd H l (.lst vs)):=cU hl
  refine k _ m _ _ h (ok.ext sm) (ok.grow sm) ?_;simp only[RD,RP];exact⟨l,vs,rfl,fJ ok hl,.inl (.inl cX),RPs.ext (ok.ext sm) _ _ h2⟩
 ·obtain⟨v,rfl,r1⟩:=rd.one;simp only[RD,RP]at r1;obtain⟨a,vs,rfl,_,h1,h2⟩:=r1;refine Mo pins s σ H _ us Q I rv ⟨a,vs,rfl,.inl h1,fun l hl=>?_⟩;have sm:Same H (upd H l (.lst vs)):=cU hl
  refine k _ m _ _ h (ok.ext sm) (ok.grow sm) ?_;simp only[RD,RP];exact⟨l,vs,rfl,fJ ok hl,.inl (.inl cX),RPs.ext (ok.ext sm) _ _ h2⟩
 ·exact h.elim
@[simp] def gY:DC
 | [.dat p],m,Q=>p.showable=true/\p.shown.length<=sizeLine/\p.depth<=100/\Q (.dat (.str p.shown)) m
 | _,_,_=>False
theorem jP(hu:X.A.units+200<cLine)(hg:X.A.guards=some []):CallD X (.builtin "repr") gY:=by
 intro pins s σ H Z m xs ds us R Q I ok rv rd h k;unfold gY at h
 split at h
 ·rename_i p;obtain⟨v,rfl,r1⟩:=rd.one;obtain⟨u,rfl,ru⟩:=fP rv;obtain⟨h1,h2,h3,h4⟩:=h;have fin:∀ (tk tk':Nat),EP X pins σ Q (.str p.shown tk) {s with toks:=tk'}:=fun tk tk'=>⟨.str p.shown,H,I.tok _,⟨_,rfl⟩,k _ m _ H h4 Ext.refl ok .ofStr⟩
  have nd:=RP.noDict X.K p v r1 h1
  obtain⟨as,rd⟩:=RP.reads I p v u r1 ru
  cases rd with
  | none=>exact PySem.P.repr_of_none (fin _ _)
  | bool b=>exact PySem.P.repr_of_bool (by simpa only[PyData.shown] using fin _ _)
  | int i t=>exact PySem.P.repr_of_int (by simpa[PyData.showable] using h1) (by simpa only[PyData.shown] using fin _ _)
  | str x t=>exact PySem.P.repr_of_str (by simpa only[PyData.shown] using fin _ _) (by simpa only[PyData.shown] using h2)
  | list q1 q2 q3 q4 =>
   refine repr_of_reads' (.list q1 q2 q3 q4) h1 (PyData.noDict_hsm nd) hg (by omega) (fun _ _ e=>e) (fun h' u tk kp=>⟨.str _,H,I.kept kp,⟨_,rfl⟩,k _ m _ H h4 Ext.refl ok .ofStr⟩) h2
  | tuple q1 q2 q3 q4 =>
   refine repr_of_reads' (.tuple q1 q2 q3 q4) h1 (PyData.noDict_hsm nd) hg (by omega) (fun _ _ e=>e) (fun h' u tk kp=>⟨.str _,H,I.kept kp,⟨_,rfl⟩,k _ m _ H h4 Ext.refl ok .ofStr⟩) h2
  | dict q1 q2 q3 q4 q5=>simp only[PyData.hasDict]at nd;cases nd
 ·exact h.elim
end
end DL
namespace DL
open PySem PySem.Spec PyProof.Rows L2
section
variable {X:Cx}{st:Stmt}{rest body orelse:List Stmt}{t u b:DS}{e c tg iter:Expr}{f:DE}{tc:DT}{pos:Pos}
@[simp] def aR:DS:=fun E d m=>E.nx d m
@[simp] def aJ(t u:DS):DS:=fun E d m=>t {E with nx:=u E} d m
theorem Ra:PSs X [] (LS X.K aR):=PSs.imp Pt fun E s H h=>by
 obtain⟨Z,d,m,R,ok,rs,h,k,_⟩:=h;exact k d m s H h Ext.refl ok rs
theorem CB(h1:PS X st (LS X.K t))(h2:PSs X rest (LS X.K u)):PSs X (st::rest) (LS X.K (aJ t u)):=PSs.imp (Qv h1 h2) fun E s H h=>by
 obtain⟨Z,d,m,R,ok,rs,h,kn,kr,kb,kc⟩:=h;refine⟨Z,d,m,_,ok,rs,h,fun d' m' s' H' q e1 ok1 rs1=>⟨Z,d',m',R,ok1,rs1,q,?_,?_,?_,?_⟩,kr,kb,kc⟩
 ·exact fun d2 m2 s2 H2 q2 e2 ok2 rs2=>kn d2 m2 s2 H2 q2 (e1.trans e2) ok2 rs2
 ·exact fun x m2 v H2 q2 e2 ok2 r2=>kr x m2 v H2 q2 (e1.trans e2) ok2 r2
 ·exact fun d2 m2 s2 H2 q2 e2 ok2 rs2=>kb d2 m2 s2 H2 q2 (e1.trans e2) ok2 rs2
 ·exact fun d2 m2 s2 H2 q2 e2 ok2 rs2=>kc d2 m2 s2 H2 q2 (e1.trans e2) ok2 rs2
@[simp] def gS(f:DE):DS:=fun E d m=>f d m fun _ m1=>E.nx d m1
theorem EC(he:PE X e (LE X.K f))(hs:swapsWith e none pos.line X.env=pure false:=by rfl):PS X (.Expr e pos) (LS X.K (gS f)):=PS.imp (Xn he hs) fun E s H h=>by
 obtain⟨Z,d,m,R,ok,rs,h,k,_⟩:=h;exact⟨Z,d,m,_,ok,rs,h,fun x m1 v H1 q e1 ok1 r1=>k d m1 s H1 q e1 ok1 (rs.ext e1)⟩
@[simp] def bH(f:DE):DS:=fun E d m=>f d m E.rt
theorem FC(he:PE X e (LE X.K f)):PS X (.Return (some e) pos) (LS X.K (bH f)):=PS.imp (C3 he) fun E s H h=>by
 obtain⟨Z,d,m,R,ok,rs,h,_,kr,_⟩:=h;exact⟨Z,d,m,_,ok,rs,h,fun x m1 v H1 q e1 ok1 r1=>kr x m1 v H1 q e1 ok1 r1⟩
@[simp] def cM(c:DT)(t u:DS):DS:=fun E d m=>c d m fun k m1=>if k=true then t E d m1 else u E d m1
theorem v7(hc:PT X c (LT X.K tc))(h1:PSs X body (LS X.K t))(h2:PSs X orelse (LS X.K u)):PS X (.If c body orelse pos) (LS X.K (cM tc t u)):=PS.imp (Yn hc h1 h2) fun E s H h=>by
 obtain⟨Z,d,m,R,ok,rs,h,kn,kr,kb,kc⟩:=h;refine⟨Z,d,m,_,ok,rs,h,fun k m1 H1 q e1 ok1=>?_⟩;have mk:∀ {z:DS},z R d m1->LS X.K z E s H1:=fun q=>⟨Z,d,m1,R,ok1,rs.ext e1,q,
  fun d2 m2 s2 H2 q2 e2 ok2 rs2=>kn d2 m2 s2 H2 q2 (e1.trans e2) ok2 rs2,fun x m2 v H2 q2 e2 ok2 r2=>kr x m2 v H2 q2 (e1.trans e2) ok2 r2,
  fun d2 m2 s2 H2 q2 e2 ok2 rs2=>kb d2 m2 s2 H2 q2 (e1.trans e2) ok2 rs2,fun d2 m2 s2 H2 q2 e2 ok2 rs2=>kc d2 m2 s2 H2 q2 (e1.trans e2) ok2 rs2⟩
 cases k with
 | true=>exact BL (mk (by simpa using q))
 | false=>exact AT (mk (by simpa using q))
@[simp] def aO(i:Nat)(f:DE):DS:=fun E d m=>f d m fun x m1=>E.nx (d.set i (some x)) m1
theorem L0(i:Nat){x:Str}{pos':Pos}(hN:X.N.Nodup)(he:PE X e (LE X.K f))(hi:X.N[i]?=some x:=by rfl)(hx:gG X.env.scope x:=by first | exact Or.inl rfl | exact Or.inr rfl)
  (hs:swapsWith e (some (.Name x pos')) pos.line X.env=pure false:=by rfl) (hf:X.fn x=true\/X.env.scope.names.lookup x=some .local:=by first | exact .inl rfl | exact .inr rfl) :
  PS X (.Assign [.Name x pos'] e pos) (LS X.K (aO i f)):=PS.imp (t7 hN hi hx he hs hf) fun E s H h=>by
 obtain⟨Z,d,m,R,ok,rs,h,k,_⟩:=h;exact⟨Z,d,m,_,ok,rs,h,fun x m1 v H1 q e1 ok1 r1=>k _ m1 _ H1 q e1 ok1 ((rs.ext e1).set r1)⟩
abbrev DG:=D->bO->Mu->(bO->Mu->Prop)->Prop
abbrev jZ:=List PyData->bO->Mu->(bO->Mu->Prop)->Prop
def LG(K:PySem.W.Frag)(g:DG):TG:=fun v s H Q=>∃ Z x d m R,Ok K Z m H/\RS K Z m H d s/\RD K Z m H x v/\g x d m R/\∀ d' m' s' H',R d' m'->Ext K Z m H m' H'->Ok K Z m' H'->RS K Z m' H' d' s'->Q s' H'
def kR(K:PySem.W.Frag)(g:jZ):jK:=fun vs s H Q=>∃ Z ps d m R,Ok K Z m H/\RS K Z m H d s/\RPs K Z m H ps vs/\g ps d m R/\∀ d' m' s' H',R d' m'->Ext K Z m H m' H'->Ok K Z m' H'->RS K Z m' H' d' s'->Q s' H'
theorem PG.imp{t t':TG}(h:PG X e t)(q:∀ v s H Q,t' v s H Q->t v s H Q):PG X e t':=fun pins s d H v u Q I r w=>h pins s d H v u Q I r (q _ _ _ _ w)
theorem PGs.imp{es:List Expr}{t t':jK}(h:PGs X es t)(q:∀ v s H Q,t' v s H Q->t v s H Q):PGs X es t':=fun pins s d H v u Q I r w=>h pins s d H v u Q I r (q _ _ _ _ w)
@[simp] def gN(i:Nat):DG:=fun x d m Q=>Q (d.set i (some x)) m
theorem P9(i:Nat){x:Str}(hN:X.N.Nodup)(hi:X.N[i]?=some x:=by rfl)(hx:gG X.env.scope x:=by first | exact Or.inl rfl | exact Or.inr rfl)
  (hf:X.fn x=true\/X.env.scope.names.lookup x=some .local:=by first | exact .inl rfl | exact .inr rfl):PG X (.Name x pos) (LG X.K (gN i)):=PG.imp (O2 hN hi hx hf) fun v s H Q h=>by
 obtain⟨Z,x,d,m,R,ok,rs,rd,h,k⟩:=h;exact k _ m _ H h Ext.refl ok (rs.set rd)
@[simp] def eT:jZ:=fun ps d m Q=>ps=[]/\Q d m
@[simp] def cD(g:DG)(r:jZ):jZ
 | p::qs,d,m,Q=>g (.dat p) d m fun d' m'=>r qs d' m' Q
 | [],_,_,_=>False
theorem E4:PGs X [] (kR X.K eT):=PGs.imp Zu fun vs s H Q h=>by
 obtain⟨Z,ps,d,m,R,ok,rs,rp,⟨rfl,h⟩,k⟩:=h;simp only[RPs]at rp;exact⟨rp,k d m s H h Ext.refl ok rs⟩
theorem Td{es:List Expr}{g:DG}{r:jZ}(h1:PG X e (LG X.K g))(h2:PGs X es (kR X.K r))(hs:(assignEach (e::es) X.env).map (·.2)=assign e X.env::(assignEach es X.env).map (·.2):=by rfl) :
  PGs X (e::es) (kR X.K (cD g r)):=PGs.imp (FK h1 h2 hs) fun vs s H Q h=>by
 obtain⟨Z,ps,d,m,R,ok,rs,rp,h,k⟩:=h
 match ps,rp,h with
 | [],_,h=>exact h.elim
 | p::qs,rp,h =>
 simp only[RPs]at rp;obtain⟨v,w,rfl,r1,r2⟩:=rp;exact⟨v,w,rfl,Z,.dat p,d,m,_,ok,rs,r1,h,fun d' m' s' H' q e1 ok1 rs1=>⟨Z,qs,d',m',R,ok1,rs1,RPs.ext e1 _ _ r2,q,fun d2 m2 s2 H2 q2 e2 ok2 rs2=>k d2 m2 s2 H2 q2 (e1.trans e2) ok2 rs2⟩⟩
@[simp] def gT(n:Nat)(g:jZ):DG:=fun x d m Q=>∃ ps,x=.dat (.tuple ps)/\ps.length=n/\g ps d m Q
theorem Qq{es:List Expr}{j n:Nat}{g:jZ}(hc:X.calm=true)(h:PGs X es (kR X.K g))(hn:(assignEach es X.env).length=n:=by rfl)(hst:(assignEach es X.env).findIdx? (·.1)=none:=by rfl) :
  PG X (.Tuple es j pos) (LG X.K (gT n g)):=PG.imp (AA hc h hn hst) fun v s H Q h=>by
 obtain⟨Z,x,d,m,R,ok,rs,rd,⟨ps,rfl,hl,h⟩,k⟩:=h;simp only[RD,RP]at rd;obtain⟨a,vs,rfl,h1,h2⟩:=rd;exact⟨a,vs,rfl,h1,by rw[h2.length];exact hl,Z,ps,d,m,R,ok,rs,h2,h,k⟩
@[simp] def lL(f:DE)(g:DG):DS:=fun E d m=>f d m fun x m1=>g x d m1 E.nx
theorem DM{g:DG}(he:PE X e (LE X.K f))(hg:PG X tg (LG X.K g))(hs:swapsWithSole [tg] e pos.line X.env=pure false:=by rfl)(hw:swappedStores [tg] e X.env=pure none:=by rfl)
  (h1:(assignEach [tg] X.env).map (·.2)=[assign tg X.env]:=by rfl):PS X (.Assign [tg] e pos) (LS X.K (lL f g)):=PS.imp (Dx he hg hs hw h1) fun E s H h=>by
 obtain⟨Z,d,m,R,ok,rs,h,k,_⟩:=h;exact⟨Z,d,m,_,ok,rs,h,fun x m1 v H1 q e1 ok1 r1=>⟨Z,x,d,m1,_,ok1,rs.ext e1,r1,q,fun d2 m2 s2 H2 q2 e2 ok2 rs2=>k d2 m2 s2 H2 q2 (e1.trans e2) ok2 rs2⟩⟩
@[simp] def Dh(i j:Nat)(g:DA):DS:=fun E d m=>g d m fun xs m1=>∃ x y,xs=[x,y]/\E.nx ((d.set i (some x)).set j (some y)) m1
theorem Re(i j:Nat){x y:Str}{a b:Expr}{g:DA}{px py pt:Pos}{kt k2 pt2}(hc:X.calm=true)(hN:X.N.Nodup)(ha:PA X [a,b] (LA X.K g))(hi:X.N[i]?=some x:=by rfl)(hj:X.N[j]?=some y:=by rfl)(hij:i≠j:=by decide)
  (hx:X.env.scope.names.lookup x=some .local:=by rfl) (hy:X.env.scope.names.lookup y=some .local:=by rfl)
  (hw:swappedStores [.Tuple [.Name x px,.Name y py] kt pt] (.Tuple [a,b] k2 pt2) X.env=pure (some [x,y]):=by rfl)
  (hs:swapsWithSole [.Tuple [.Name x px,.Name y py] kt pt] (.Tuple [a,b] k2 pt2) pos.line X.env=pure false:=by rfl) :
  PS X (.Assign [.Tuple [.Name x px,.Name y py] kt pt] (.Tuple [a,b] k2 pt2) pos) (LS X.K (Dh i j g)):=PS.imp (FN hc hN hi hj hij hx hy ha hw hs) fun E s H h=>by
 obtain⟨Z,d,m,R,ok,rs,h,k,_⟩:=h;refine⟨Z,d,m,_,ok,rs,h,fun xs m1 vs H1 ⟨x,y,e,q⟩ e1 ok1 r1=>?_⟩;subst e;obtain⟨v,w,rfl,r1,r2⟩:=r1.two;exact⟨v,w,rfl,k _ m1 _ H1 q e1 ok1 (((rs.ext e1).set r1).set r2)⟩
@[simp] def nO(fo fi f:DE):DS:=fun E d m=>f d m fun x m1=>fo d m1 fun o m2=>fi d m2 fun i m3 =>
 ∃ a k xs j p,o=.cel a/\i=.dat (.int k)/\x=.dat p/\m3 a=some (.l xs)/\gB xs.length k=some j/\E.nx d (aY m3 a (.l (xs.set j p)))
theorem Xk{o i:Expr}{fo fi:DE}{tpos:Pos}(he:PE X e (LE X.K f))(ho:PE X o (LE X.K fo))(hi:PE X i (LE X.K fi))
  (ha:∀ v,assign (.Subscript o i tpos) X.env v=(do
   let ov <- holding [v] (eval o X.env)
   let iv <- holding [v,ov] (eval i X.env)
   standAt tpos
   holding [v,ov,iv] (setItem ov iv v)
   release [v,ov,iv] []):=by intro _;rfl)
  (hs:swapsWithSole [.Subscript o i tpos] e pos.line X.env=pure false:=by rfl) (hw:swappedStores [.Subscript o i tpos] e X.env=pure none:=by rfl)
  (h1:(assignEach [.Subscript o i tpos] X.env).map (·.2)=[assign (.Subscript o i tpos) X.env]:=by rfl):PS X (.Assign [.Subscript o i tpos] e pos) (LS X.K (nO fo fi f)) :=
 PS.imp (Dx he (FD ho hi AW ha) hs hw h1) fun E s H h=>by
 obtain⟨Z,d,m,R,ok,rs,h,k,_⟩:=h;refine⟨Z,d,m,_,ok,rs,h,fun x m1 v H1 q e1 ok1 r1=>⟨Z,d,m1,_,ok1,rs.ext e1,q,fun o m2 w H2 q2 e2 ok2 r2=>⟨Z,d,m2,_,ok2,(rs.ext e1).ext e2,q2,fun i m3 z H3 q3 e3 ok3 r3=>?_⟩⟩⟩;obtain⟨a,k',xs,j,p,rfl,rfl,rfl,hm,hj,q⟩:=q3
 cases r3.int
 obtain⟨rfl,_⟩:=r2.ext e3;obtain⟨vs,g1,g2⟩:=ok3.l hm;have r1':=r1.ext (e2.trans e3)
 refine⟨a,vs,k',j,rfl,rfl,g1,by rw[g2.length];exact hj,?_⟩
 have e4:Ext X.K Z m3 H3 (aY m3 a (.l (xs.set j p))) (upd H3 a (.lst (vs.set j v))):=Ext.put ok3 hm g1
 exact k d _ s _ q (e1.trans (e2.trans (e3.trans e4))) (ok3.put hm g1 (g2.set r1')) ((rs.ext e1).ext (e2.trans (e3.trans e4)))
def As(c:DT)(b:DS):DS:=fun E d m=>∃ W:Nat->bO->Mu->Prop,(∃ n,W n d m)/\∀ n d m,W n d m ->
 c d m fun k m1=>if k=true then ∃ N:bO->Mu->Prop,(∀ d' m',N d' m'->∃ n',n'<n/\W n' d' m')/\b {E with nx:=N,ct:=N,bk:=E.nx} d m1 else E.nx d m1
theorem D8(hp:PassesOwn (model X.prog X.w) X.A X.env X.xe)(hc:PT X c (LT X.K tc))(hb:PSs X body (LS X.K b)):PS X (.While c body [] pos) (LS X.K (As tc b)):=PS.imp (CM hp hc hb) fun E s H h=>by
 obtain⟨Z,d,m,R,ok,rs,⟨W,⟨n0,w0⟩,turn⟩,kn,kr,kb,kc⟩:=h;refine⟨fun n s' H'=>∃ d' m',Ext X.K Z m H m' H'/\Ok X.K Z m' H'/\RS X.K Z m' H' d' s'/\W n d' m',⟨n0,d,m,Ext.refl,ok,rs,w0⟩,?_⟩;rintro n s1 H1 ⟨d1,m1,e1,ok1,rs1,w1⟩;refine⟨Z,d1,m1,_,ok1,rs1,turn n d1 m1 w1,fun k m2 H2 q e2 ok2=>?_⟩
 cases k with
 | false =>
  rw[if_neg Bool.false_ne_true]at q ⊢;exact kn d1 m2 s1 H2 q (e1.trans e2) ok2 (rs1.ext e2)
 | true =>
  rw[if_pos rfl]at q ⊢;obtain⟨N,hN,q⟩:=q;refine⟨fun s' H'=>∃ d' m',Ext X.K Z m H m' H'/\Ok X.K Z m' H'/\RS X.K Z m' H' d' s'/\N d' m',fun s' H' ⟨d',m',g1,g2,g3,g4⟩=>?_,?_⟩
  ·obtain⟨n',hn,w⟩:=hN d' m' g4;exact⟨n',hn,d',m',g1,g2,g3,w⟩
  ·have e12:=e1.trans e2
   exact⟨Z,d1,m2,_,ok2,rs1.ext e2,q,fun d3 m3 s3 H3 q3 e3 ok3 rs3=>⟨d3,m3,e12.trans e3,ok3,rs3,q3⟩,fun x m3 v H3 q3 e3 ok3 r3=>kr x m3 v H3 q3 (e12.trans e3) ok3 r3,
    fun d3 m3 s3 H3 q3 e3 ok3 rs3=>kn d3 m3 s3 H3 q3 (e12.trans e3) ok3 rs3,fun d3 m3 s3 H3 q3 e3 ok3 rs3=>⟨d3,m3,e12.trans e3,ok3,rs3,q3⟩⟩
abbrev DI:=bO->Mu->(List D->Mu->Prop)->Prop
def Yld(K:PySem.W.Frag)(Z:Addr->Prop)(m:Mu)(H:Hp)(x:D)(v:V)(H2 H3:Hp):Prop :=
 (H3=H2/\RD K Z m H x v)\/∃ p ps vs,x=.dat (.tuple ps)/\v=.ref p/\H2 p=none/\H3=upd H2 p (.tup vs)/\RPs K Z m H ps vs
theorem Yld.same{K:PySem.W.Frag}{Z:Addr->Prop}{m:Mu}{H H2 H3:Hp}{x:D}{v:V}(h:Yld K Z m H x v H2 H3):Same H2 H3:=by
 rcases h with⟨rfl,_⟩ | ⟨p,ps,vs,_,_,hp,rfl,_⟩
 ·exact fun _ _ q=>q
 ·exact cU hp
theorem Yld.rd{K:PySem.W.Frag}{Z Z':Addr->Prop}{m m':Mu}{H H2 H3:Hp}{x:D}{v:V}(tr:∀ d v,RD K Z m H d v->RD K Z' m' H2 d v)(ok:Ok K Z' m' H2)(h:Yld K Z m H x v H2 H3):RD K Z' m' H3 x v:=by
 rcases h with⟨rfl,h⟩ | ⟨p,ps,vs,rfl,rfl,hp,rfl,h⟩
 ·exact tr _ _ h
 ·have h2:=RPs.lift (fun p v q=>tr (.dat p) v q) h
  simp only[RD,RP];exact⟨p,vs,rfl,.inl (.inl cX),RPs.ext (ok.ext (cU hp)) _ _ h2⟩
structure ExtY (K:PySem.W.Frag) (Z:Addr->Prop) (m:Mu) (H:Hp) (m':Mu) (H':Hp):Prop where
 t:∀ a vs,SqT K H a vs->SqT K H' a vs
 l:∀ a vs,(m a=none/\¬ Z a)->SqL K H a vs->m' a=none/\SqL K H' a vs
 fz:∀ a o u,H a=some (.frz o u)->H' a=some (.frz o u)
theorem Ext.y{K:PySem.W.Frag}{Z:Addr->Prop}{m m':Mu}{H H':Hp}(e:Ext K Z m H m' H'):ExtY K Z m H m' H':=⟨e.t,e.l,e.fz⟩
def Dv(K:PySem.W.Frag)(Z:Addr->Prop)(m:Mu)(H:Hp)(xs:List D)(J:It):Prop:=∀ m2 H2,ExtY K Z m H m2 H2 ->
 (∀ (i:Nat) (x:D),xs[i]?=some x->J.go i H2/\∀ v H3,J.yld i H2 v H3->Yld K Z m H x v H2 H3)/\J.stop xs.length H2
def LI(K:PySem.W.Frag)(fi:DI):TI:=fun s H R=>∃ (Z:Addr->Prop) (d:bO) (m:Mu) (ZZ:List D->Mu->Prop),Ok K Z m H/\RS K Z m H d s/\fi d m ZZ /\
 ∀ xs m' H' J,ZZ xs m'->Ext K Z m H m' H'->Ok K Z m' H'->Dv K Z m' H' xs J->R J H'
@[simp] def cF(f:DE):DI:=fun d m Q=>f d m fun x m1=>(∃ ps,x=.dat (.list ps)/\Q (ps.map .dat) m1)\/(∃ ps,x=.dat (.tuple ps)/\Q (ps.map .dat) m1)
theorem PI.imp{t t':TI}(h:PI X tg e t)(q:∀ s H R,t' s H R->t s H R):PI X tg e t':=fun pins s d H R I w=>h pins s d H R I (q _ _ _ w)
theorem uQ{ps:List PyData}{i:Nat}{x:D}(h:(ps.map D.dat)[i]?=some x):∃ p,ps[i]?=some p/\x=.dat p:=by
 rw[List.getElem?_map]at h
 cases e:ps[i]? with
 | none=>rw[e]at h;cases h
 | some p=>rw[e]at h;cases h;exact⟨p,rfl,rfl⟩
theorem Y1{K:PySem.W.Frag}{Z:Addr->Prop}{m:Mu}{H:Hp}{a:Addr}{vs:List V}{ps:List PyData}(h0:m a=none/\¬ Z a)(h1:SqL K H a vs)(h2:RPs K Z m H ps vs):Dv K Z m H (ps.map .dat) (Itl K a):=by
 intro m2 H2 e;obtain⟨q0,q1⟩:=e.l a vs h0 h1;have q2:=h2
 refine⟨fun i x hx=>?_,⟨vs,q1,by rw[q2.length,List.length_map];exact Nat.le_refl _⟩⟩
 obtain⟨p,hp,rfl⟩:=uQ hx;obtain⟨v,hv,rv⟩:=h2.get hp;refine⟨⟨vs,v,q1,hv⟩,fun v' H3 y=>.inl ⟨y.1,?_⟩⟩;have:=y.2 vs q1
 rw[hv]at this
 cases this
 exact rv
theorem Pr{K:PySem.W.Frag}{Z:Addr->Prop}{m:Mu}{H:Hp}{a:Addr}{vs:List V}{ps:List PyData}(h1:SqT K H a vs)(h2:RPs K Z m H ps vs):Dv K Z m H (ps.map .dat) (zZ K a):=by
 intro m2 H2 e;have q1:=e.t a vs h1
 have q2:=h2
 refine⟨fun i x hx=>?_,⟨vs,q1,by rw[q2.length,List.length_map];exact Nat.le_refl _⟩⟩
 obtain⟨p,hp,rfl⟩:=uQ hx;obtain⟨v,hv,rv⟩:=h2.get hp;refine⟨⟨vs,v,q1,hv⟩,fun v' H3 y=>.inl ⟨y.1,?_⟩⟩;have:=y.2 vs q1
 rw[hv]at this
 cases this
 exact rv
theorem Jl{l:Expr}{tl:TE}(hl:PE X l tl):PI X tg l (fun s H R=>tl s H fun x H1=>(∃ a,x=.ref a/\(∃ xs,SqL X.K H1 a xs)/\R (Itl X.K a) H1)\/(∃ a,x=.ref a/\(∃ xs,SqT X.K H1 a xs)/\R (zZ X.K a) H1)):=by
 intro pins s σ H R I h;refine bA (hl pins s σ H _ I h) fun v s1 ⟨x,H1,I1,r1,q1⟩=>?_;rcases q1 with⟨a,e,⟨xs,hq⟩,q⟩ | ⟨a,e,⟨xs,hq⟩,q⟩
 ·subst e
  cases r1
  obtain⟨its,rv,p,hz⟩:=I1.list hq;refine wpAny_pyIter_list p.isList ?_;refine⟨s1.heap.objs.size,[s1.heap.objs.size],_,_,H1,rfl,I1.kept (t':=s1.toks) fun b o e=>Heap.get?_push_of_some _ e,Vc a _,⟨_,Heap.get?_push_size _ rfl,rfl,rfl⟩,fun b hb=>?_,q⟩;have e:b=s1.heap.objs.size:=by simpa using hb
  subst e;exact I1.fpOk (Nat.le_refl _) (I1.hok.fresh (Nat.le_refl _))
 ·subst e
  cases r1
  obtain⟨its,rv,p,hz⟩:=I1.tuple hq;refine wpAny_pyIter_tuple (show s1.heap.IsTuple a its.toArray from p) ?_
  refine⟨s1.heap.objs.size,[s1.heap.objs.size],_,_,H1,rfl,I1.kept (t':=s1.toks) fun b o e=>Heap.get?_push_of_some _ e,BH a _,⟨_,Heap.get?_push_size _ rfl,rfl,rfl⟩,fun b hb=>?_,q⟩;have e:b=s1.heap.objs.size:=by simpa using hb
  subst e;exact I1.fpOk (Nat.le_refl _) (I1.hok.fresh (Nat.le_refl _))
theorem W6(ha:PE X e (LE X.K f)):PI X tg e (LI X.K (cF f)):=PI.imp (Jl ha) fun s H R h=>by
 obtain⟨Z,d,m,ZZ,ok,rs,h,k⟩:=h;refine⟨Z,d,m,_,ok,rs,h,fun x m1 v H1 q e1 ok1 rd=>?_⟩;rcases q with⟨ps,rfl,q⟩ | ⟨ps,rfl,q⟩
 ·simp only[RD,RP]at rd;obtain⟨a,vs,rfl,h0,h1,h2⟩:=rd;exact .inl ⟨a,rfl,⟨vs,h1⟩,k _ m1 H1 _ q e1 ok1 (Y1 h0 h1 h2)⟩
 ·simp only[RD,RP]at rd;obtain⟨a,vs,rfl,h1,h2⟩:=rd;exact .inr ⟨a,rfl,⟨vs,h1⟩,k _ m1 H1 _ q e1 ok1 (Pr h1 h2)⟩
def dC(lo:Int)(n:Nat):List D:=(List.range n).map fun i=>.dat (.int (lo+(i:Nat)))
@[simp] def iE(f:DE):DI:=fun d m Q=>f d m fun x m1=>∃ j:Int,x=.dat (.int j)/\-(2^62)<=j/\j<2^62/\Q (dC 0 j.toNat) m1
theorem Vw{p:Pos}(hg:Gl X "range")(hm:X.mg "range"=none)(ha:PE X e (LE X.K f))(hs:starEach [e] X.env=[(false,eval e X.env)]:=by rfl):PI X tg (.Call (.Name "range" p) [e] [] pos) (LI X.K (iE f)) :=
 PI.imp (Wj hg hm (gZ ha iH (by rw[hs];rfl)) hs) fun s H R h=>by
  obtain⟨Z,d,m,ZZ,ok,rs,h,k⟩:=h;refine⟨Z,d,m,_,ok,rs,h,fun x m1 v H1 ⟨j,e,h1,h2,q⟩ e1 ok1 rd=>?_⟩;subst e
  cases rd.int
  show ∃ j':Int,[V.int j]=[V.int j']/\_
  refine⟨j,rfl,h1,h2,k _ m1 H1 _ q e1 ok1 fun m2 H2 e2=>⟨fun i x hx=>?_,?_⟩⟩
  ·unfold dC at hx;rw[List.getElem?_map]at hx
   cases ei:(List.range j.toNat)[i]? with
   | none=>rw[ei]at hx;cases hx
   | some i' =>
    rw[ei]at hx
    cases hx
    have hl:=(List.getElem?_eq_some_iff.mp ei).1
    have hi:i'=i:=by
     obtain⟨_,z⟩:=List.getElem?_eq_some_iff.mp ei;rw[List.getElem_range]at z;exact z.symm
    subst hi;rw[List.length_range]at hl;refine⟨hl,fun v' H3 y=>.inl ⟨y.1,?_⟩⟩;rw[y.2];exact .ofInt
  ·show j.toNat<=(dC 0 j.toNat).length
   unfold dC;rw[List.length_map,List.length_range];exact Nat.le_refl _
def cH(g:DG)(b:DS)(E:Ends2):List D->bO->Mu->Prop
 | [],d,m=>E.nx d m
 | x::xs,d,m=>g x d m fun d' m'=>b {E with nx:=cH g b E xs,ct:=cH g b E xs,bk:=E.nx} d' m'
@[simp] def fS(fi:DI)(g:DG)(b:DS):DS:=fun E d m=>fi d m fun xs m1=>cH g b E xs d m1
theorem CZ{fi:DI}{g:DG}(hp:PassesOwn (model X.prog X.w) X.A X.env X.xe)(hc:X.calm=true)(hi:PI X tg iter (LI X.K fi))(hg:PG X tg (LG X.K g))(hb:PSs X body (LS X.K b))
  (hs:∀ x,foldedSetIterable iter X.env x=pure x:=by intro _;rfl):PS X (.For tg iter body [] pos) (LS X.K (fS fi g b)):=PS.imp (AH hp hc hi hg hb hs) fun E s H h=>by
 obtain⟨Z,d,m,R,ok,rs,h,kn,kr,kb,kc⟩:=h;refine⟨Z,d,m,_,ok,rs,h,fun xs m1 H1 J q e1 ok1 yl=>?_⟩;refine⟨fun i n s' H'=>∃ d' m',n=xs.length-i/\i<=xs.length/\Ext X.K Z m1 H1 m' H'/\Ok X.K Z m' H'/\RS X.K Z m' H' d' s'/\cH g b R (xs.drop i) d' m',⟨xs.length,d,m1,by simp,Nat.zero_le _,Ext.refl,ok1,rs.ext e1,by simpa using q⟩,?_⟩
 rintro i n s2 H2 ⟨d2,m2,rfl,hi,e2,ok2,rs2,w⟩;obtain⟨y1,y2⟩:=yl m2 H2 e2.y
 by_cases hl:i<xs.length
 ·rw[List.drop_eq_getElem_cons hl]at w;obtain⟨go,yd⟩:=y1 i xs[i] (List.getElem?_eq_getElem hl);refine .inr ⟨go,fun s' H'=>∃ d' m',Ext X.K Z m1 H1 m' H'/\Ok X.K Z m' H'/\RS X.K Z m' H' d' s'/\cH g b R (xs.drop (i+1)) d' m',fun s' H' ⟨d',m',g1,g2,g3,g4⟩=>⟨xs.length-(i+1),by omega,d',m',rfl,hl,g1,g2,g3,g4⟩,fun v H3 y=>?_⟩
  have yy:=yd v H3 y
  have e2':=e2.trans (ok2.ext yy.same)
  refine⟨Z,xs[i],d2,m2,_,ok2.grow yy.same,rs2.ext (ok2.ext yy.same),yy.rd (fun d v h=>h.ext e2) ok2,w,fun d3 m3 s3 H3 q3 e3 ok3 rs3=>?_⟩;have e23:=e2'.trans e3
  have e13:=e1.trans e23
  exact⟨Z,d3,m3,_,ok3,rs3,q3,fun d4 m4 s4 H4 q4 e4 ok4 rs4=>⟨d4,m4,e23.trans e4,ok4,rs4,q4⟩,fun x m4 v H4 q4 e4 ok4 r4=>kr x m4 v H4 q4 (e13.trans e4) ok4 r4,
   fun d4 m4 s4 H4 q4 e4 ok4 rs4=>kn d4 m4 s4 H4 q4 (e13.trans e4) ok4 rs4,fun d4 m4 s4 H4 q4 e4 ok4 rs4=>⟨d4,m4,e23.trans e4,ok4,rs4,q4⟩⟩
 ·have e:i=xs.length:=by omega
  subst e;rw[List.drop_length]at w;exact .inl ⟨y2,kn d2 m2 s2 H2 w (e1.trans e2) ok2 rs2⟩
end
end DL
namespace DL
open PySem PySem.Spec PyProof.Rows L2
section
variable {prog:Program}{w:World}{A:Around}{E:Value->Shared->Prop}{s:Shared}
theorem f7(n:Nat):Builtin.Slice.sliceAdjust none none (-1) (n:Int)=((n:Int)-1,-1):=by
 unfold Builtin.Slice.sliceAdjust;simp
theorem Pp(n:Nat):Builtin.Slice.slicePlaces ((n:Int)-1) (-1) (-1)=n:=by
 unfold Builtin.Slice.slicePlaces;have h1:¬ ((-1:Int) > 0):=by omega
 simp only[h1,if_false]
 by_cases h:(n:Int)-1 > -1
 ·simp only[h,if_true,Int.neg_neg,Int.ediv_one];omega
 ·simp only[h,if_false];omega
theorem Lw(xs:List Value):∀ (k j:Nat),k+j=xs.length->(List.range k).filterMap (fun i=>xs[k-1-i]?)=(xs.take k).reverse
 | 0,_,_=>by simp
 | k+1,j,h=>by
  have ih:=Lw xs k (j+1) (by omega)
  rw[List.range_succ_eq_map,List.filterMap_cons];have hk:k<xs.length:=by omega
  have e0:xs[k+1-1-0]?=some xs[k]:=by simp[hk]
  rw[e0,List.filterMap_map];have e1:((fun i=>xs[k+1-1-i]?)∘Nat.succ)=fun i=>xs[k-1-i]?:=by
   funext i
   show xs[k+1-1-(i+1)]?=xs[k-1-i]?
   congr 1
   omega
  rw[e1,ih,List.take_succ_eq_append_getElem hk,List.reverse_append];rfl
theorem T9(xs:Array Value):((List.range xs.size).filterMap fun(k:Nat)=>xs[(((xs.size:Nat):Int)-1+(k:Int)*(-1)).toNat]?).toArray=xs.toList.reverse.toArray:=by
 have h:=Lw xs.toList xs.size 0 (by simp)
 have e:(fun(k:Nat)=>xs[(((xs.size:Nat):Int)-1+(k:Int)*(-1)).toNat]?)=fun k=>xs.toList[xs.size-1-k]?:=by
  funext k
  have e1:(((xs.size:Nat):Int)-1+(k:Int)*(-1)).toNat=xs.size-1-k:=by omega
  rw[e1,Array.getElem?_toList]
 rw[e,h]
 congr 2
 rw[<- Array.length_toList,List.take_length]
theorem AU{sl:Addr}{t:Tok}{n:Nat}{Q:Int×Int×Nat->Shared->Prop}(hs:s.heap.IsSliceOf sl .none .none (.int (-1) t))
  (h:Q ((n:Int)-1,-1,n) s):wpAny (model prog w) A (Builtin.Slice.sliceApplied (.ref sl) (pure (n:Int))) Q E s:=by
 obtain⟨os,hos,hcs,hds⟩:=id hs;unfold Builtin.Slice.sliceApplied Builtin.Slice.sliceFields;refine wpAny_bind (wpAny_bind (wpAny_field hos hds (x:=.none) rfl (wpAny_bind (wpAny_field hos hds (x:=.none) rfl (wpAny_bind (wpAny_field hos hds (x:=.int (-1) t) rfl (wpAny_pure ?_)))))));refine wpAny_bind (slicePart_int ?_);show wpAny _ _ (if ((-1:Int)==0)=true then _ else _) _ _ s
 rw[if_neg (by decide)]
 refine wpAny_bind (slicePart_none (wpAny_bind (slicePart_none (wpAny_bind (wpAny_pure ?_)))));show wpAny _ _ (match Builtin.Slice.sliceAdjust none none (-1) (n:Int) with | (lo,hi)=>pure (lo,(-1:Int),Builtin.Slice.slicePlaces lo hi (-1))) _ _ s
 rw[f7];show wpAny _ _ (pure ((n:Int)-1,(-1:Int),Builtin.Slice.slicePlaces ((n:Int)-1) (-1) (-1))) _ _ s
 rw[Pp];exact wpAny_pure h
theorem Sj{t sl:Addr}{items:Array Value}{tk:Tok}{Q:Value->Shared->Prop}(ht:IsTup s.heap t items)(hs:s.heap.IsSliceOf sl .none .none (.int (-1) tk))
  (h:Q (.ref s.heap.objs.size) {s with heap:=s.heap.push {cls:=.type "tuple",data:=.seq items.toList.reverse.toArray}})
  (hsz:items.size<=sizeLine):wpAny (model prog w) A (getItem (.ref t) (.ref sl)) Q E s:=by
 have htake:sizeOk (.seq items.toList.reverse.toArray):=by
  show items.toList.reverse.toArray.size<=sizeLine
  simpa using hsz
 obtain⟨os,hos,hcs,hds⟩:=id hs;have hTs:s.TypeIs (.ref sl) "slice":=⟨os,hos,hcs⟩
 unfold getItem
 try with_reducible refine wpAny_holding ?_
 first | refine wpAny_bind (wpAny_pure ?_) | skip
 refine wpAny_bind (wpAny_sequenceKey ht.typeIs (by decide) ?_)
 refine wpAny_bind (wpAny_callSpecial?_slot (name:=Str.ofString "__getitem__") ht.typeIs PyProof.Rows.slot_tuple_getitem
  (wpAny_call_entry PyProof.Rows.slot_tuple_getitem ht.typeIs entry_tuple_getitem ?_ (args_tuple_getitem _ _)))
 show wpAny _ _ (Builtin.Tuple.tupleItemsOf (.ref t)>>=_) _ _ s
 refine wpAny_bind (tupleItemsOf_ ht ?_);refine wpAny_bind (wpAny_typeOf hTs ?_);rw[if_pos (by decide)]
 refine wpAny_bind (AU hs ?_);have hno:¬ ((((items.size:Nat):Int)-1==0&&(-1:Int)==1&&items.size==items.size)=true):=by
  intro q;rw[Bool.and_eq_true,Bool.and_eq_true]at q;exact absurd q.1.2 (by decide)
 show wpAny _ _ (if (((items.size:Nat):Int)-1==0&&(-1:Int)==1&&items.size==items.size)=true then _ else _) _ _ s
 rw[if_neg hno,T9]
 first
  | exact wpAny_bind (m:=Builtin.Tuple.tupleExact _) (wpAny_newObj_type (wpAny_pure ⟨_,rfl,wpAny_pure h⟩) htake)
  | exact wpAny_bind (m:=Builtin.Tuple.tupleExact _) (wpAny_newObj_type (wpAny_bind (wpAny_pure (wpAny_pure ⟨_,rfl,wpAny_pure h⟩))) htake)
  | exact wpAny_bind (wpAny_bind (m:=Builtin.Tuple.tupleExact _) (wpAny_newObj_type (wpAny_pure (wpAny_pure ⟨_,rfl,wpAny_pure h⟩)) htake))
  | exact wpAny_bind (wpAny_bind (m:=Builtin.Tuple.tupleExact _) (wpAny_newObj_type (wpAny_pure ⟨_,rfl,wpAny_pure h⟩) htake))
end
section
variable {X:Cx}{a e:Expr}{es:List Expr}{f:DE}{ga:DA}{pos p p1 p2 p3 p4:Pos}
theorem Vals.rev:∀ {xs:List V} {us:List Value},Vals xs us->Vals xs.reverse us.reverse
 | _,_,.nil=>.nil
 | _,_,.cons r t=>by
  rw[List.reverse_cons,List.reverse_cons];exact(Vals.rev t).append (.cons r .nil)
@[simp] def Ar(f:DE):DE:=fun d m Q=>f d m fun x m1=>∃ xs,x=.dat (.tuple xs)/\Q (.dat (.tuple xs.reverse)) m1
theorem EE{j:Nat}(ha:PE X a (LE X.K f)):PE X (.Subscript a (.Slice none none (some (.UnaryOp .USub (.Constant (.int 1) j p3) p4)) p2) pos) (LE X.K (Ar f)):=by
 intro pins s σ H Q I h;obtain⟨Z,d,m,R,ok,rs,h,k⟩:=h;refine Subscript_ (bA (ha pins s σ H (fun x H1=>∃ a vs,x=.ref a/\SqT X.K H1 a vs/\∀ p,H1 p=none->Q (.ref p) (upd H1 p (.tup vs.reverse))) I ?_) fun v s1 ⟨x,H1,I1,r1,a',vs,ex,hq,q1⟩=>?_)
 ·refine⟨Z,d,m,_,ok,rs,h,fun x m1 v H1 ⟨xs,e,q⟩ e1 ok1 rd=>?_⟩;subst e;simp only[RD,RP]at rd;obtain⟨a',vs,rfl,h1,h2⟩:=rd;refine⟨a',vs,rfl,h1,fun p hp=>?_⟩;have sm:Same H1 (upd H1 p (.tup vs.reverse)):=cU hp
  refine k _ m1 _ _ q (e1.trans (ok1.ext sm)) (ok1.grow sm) ?_;simp only[RD,RP];exact⟨p,_,rfl,.inl (.inl cX),RPs.ext (ok1.ext sm) _ _ h2.reverse⟩
 ·subst ex
  cases r1
  refine wpAny_Slice ?_;rw[evalPart_none];refine wpAny_pure (wpAny_pure ?_);rw[evalPart_some];refine UnaryOp_ (wpAny_Constant_int (neg_int ?_));have I4:∀ tk,Inv X pins σ H1 {s1 with heap:=s1.heap.push {cls:=.type "slice",data:=.fields #[.none,.none,.int (-1) (s1.toks+1)]},toks:=tk}:=fun tk=>I1.kept fun b ob q=>Heap.get?_push_of_some _ q
  obtain⟨its,r,ht,hz⟩:=(I4 (s1.toks+1+1)).tuple hq;have hl:=r.length
  refine tail_any (ops:=[.ref a',.ref s1.heap.objs.size]) ht.typeIs PyProof.Rows.slot_tuple_getitem.lookup (Sj ht (Heap.IsSliceOf.new ..) ?_ (by rw[List.size_toArray];omega)) (by with_unfolding_all rfl)
  refine⟨.ref _,upd H1 _ (.tup vs.reverse),(I4 (s1.toks+1+1)).laid (t':=s1.toks+1+1) (fun b ob q=>Heap.get?_push_of_some _ q) (Nat.le_refl _) ?_,rfl,q1 _ ((I4 (s1.toks+1+1)).hok.fresh (Nat.le_refl _))⟩;exact⟨⟨by rw[List.length_reverse];exact hz,NoD.new _ _ _⟩,_,Vals.rev r,IsTup.new _ _⟩
@[simp] def Mn:PyData->String
 | .none=>"NoneType"
 | .bool _=>"bool"
 | .int _=>"int"
 | .str _=>"str"
 | .list _=>"list"
 | .tuple _=>"tuple"
 | .dict _=>"dict"
@[simp] def isK(q:PyData)(c:String):Bool:=Mn q==c||(Mn q == "bool" && c == "int")
def LSp(K:PySem.W.Frag)(n:Nat)(sp:DC):Sp:=fun vs H Q _=>∃ Z ds m R,Ok K Z m H/\RDs K Z m H ds vs/\ds.length=n/\sp ds m R/\∀ d m' v' H',R d m'->Ext K Z m H m' H'->Ok K Z m' H'->RD K Z m' H' d v'->Q v' H'
theorem LSp.len{K:PySem.W.Frag}{n:Nat}{sp:DC}{vs:List V}{H:Hp}{Q:VK}{E:XK}(h:LSp K n sp vs H Q E):vs.length=n:=by
 obtain⟨Z,ds,m,R,_,rd,hl,_⟩:=h;rw[rd.length];exact hl
@[simp] def aP(n:Nat)(sp:DC)(g:DA):DE:=fun d m Q=>g d m fun xs m1=>xs.length=n/\sp xs m1 Q
theorem EG{k n:Nat}{fa:Addr}{fd:FuncData}{ps:List Str}{sp:DC}{x:Str}(F:FnOk X.prog X.w X.K X.mg X.base fU k fa fd ps (LSp X.K n sp))(hr:Room k X.A)(hm:X.mg x=some (.ref fa))(hk:PySem.W.keepIn X.K (.ref fa)=true)
  (hb:Binds X.K fd ps []) (hx:X.xe=fun _ _=>False) (ha:PA X (e::es) (LA X.K ga)) (hg:Gl X x:=by rfl) (hdb:(x==("__debug__" : Str))=false:=by decide)
  (he:starEach (e::es) X.env=(false,eval e X.env)::starEach es X.env:=by rfl) (hpl:(backTo pos (starEach es X.env)).any (·.1)=false:=by rfl):PE X (.Call (.Name x p) (e::es) [] pos) (LE X.K (aP n sp ga)) :=
 PE.imp (A7 F hr hg hm hk hb .nil (V2 (X:=X)) ha hdb he hpl) fun s H Q h=>by
  obtain⟨Z,d,m,R,ok,rs,h,k⟩:=h;refine⟨Z,d,m,_,ok,rs,h,fun xs m1 vs H1 ⟨hl,q⟩ e1 ok1 rd=>⟨Z,xs,m1,R,ok1,by simpa using rd,hl,q,fun d' m' v' H' h1 h2 h3 h4=>k d' m' v' H' h1 (e1.trans h2) h3 h4⟩⟩
@[simp] def bY(N:List Str)(ds:List D):bO:=ds.map some++List.replicate (N.length-ds.length) none
theorem RDs.get{K:PySem.W.Frag}{Z:Addr->Prop}{m:Mu}{H:Hp}:∀ {xs:List D} {vs:List V} {i:Nat} {x:D},RDs K Z m H xs vs->xs[i]?=some x->∃ v,vs[i]?=some v/\RD K Z m H x v
 | [],_,_,_,_,e=>by simp at e
 | _::_,_,0,x,⟨v,r,h1,h2,_⟩,e=>by
  simp at e;subst h1 e;exact⟨v,rfl,h2⟩
 | _::xs,_,i+1,x,⟨v,r,h1,_,h3⟩,e=>by
  obtain⟨u,q1,q2⟩:=RDs.get (i:=i) (x:=x) h3 (by simpa using e)
  subst h1;exact⟨u,by simpa using q1,q2⟩
theorem Zy{K:PySem.W.Frag}{Z:Addr->Prop}{m:Mu}{H:Hp}{N:List Str}{ds:List D}{vs:List V}(h:RDs K Z m H ds vs):RS K Z m H (bY N ds) (start N vs):=by
 have hl:=h.length
 refine⟨?_,fun i x hx=>?_⟩
 ·unfold bY L2.start;rw[List.length_append,List.length_append,List.length_map,List.length_map,List.length_replicate,List.length_replicate,hl]
 ·unfold bY at hx
  by_cases hi:i<ds.length
  ·rw[List.getElem?_append_left (by simpa using hi),List.getElem?_map]at hx
   cases e:ds[i]? with
   | none=>rw[e]at hx;cases hx
   | some y =>
    rw[e]at hx
    cases hx
    obtain⟨v,q1,q2⟩:=h.get e;refine⟨v,?_,q2⟩;unfold L2.start;rw[List.getElem?_append_left (by rw[List.length_map,hl];exact hi),List.getElem?_map,q1]
    rfl
  ·rw[List.getElem?_append_right (by simpa using hi),List.getElem?_replicate]at hx
   split at hx<;>cases hx
end
section
variable {P:Program}{w:World}{K:PySem.W.Frag}{mg:Str->Option Value}{base:Heap}
theorem j1{x qual:Str}{st:Stmt}{fa:Addr}{fd:FuncData}{N ps:List Str}{k:Nat}{sp:DC}{body:DS}(F:Fun K x qual st fa fd)(S:FnScope N ps (bP st))
  (hb:∀ (cdv:Value) (A:Around) (outer:List Env) (s:Shared) (H:Hp) (E:XK),Room k (A.deeper (envOfC qual (bP st) s.heap.objs.size fa cdv)) ->
   PSs (kD fU P w K mg base N qual (bP st) fa cdv A outer s H E).nox (jI st) (LS K body))
  (hv:∀ ds m R,ds.length=ps.length->sp ds m R->body {nx:=fun _ m=>R (.dat .none) m,rt:=R} (bY N ds) m):FnOk P w K mg base fU (k+1) fa fd ps (LSp K ps.length sp):=by
 refine F.ok S (fun vs H Q E h=>h.len) (fun cdv A outer s H vs Q E hr h=>?_);obtain⟨Z,ds,m,R,ok,rd,hl,h,kk⟩:=h;refine⟨_,hb cdv A outer s H E hr,Z,bY N ds,m,_,ok,Zy rd,hv ds m R hl h,?_,?_,?_,?_⟩
 ·intro d' m' s' H' q e1 ok1 _;exact kk _ m' _ H' q e1 ok1 (by simp only[RD,RP])
 ·exact fun x m' v H' q e1 ok1 r1=>kk x m' v H' q e1 ok1 r1
 ·exact fun _ _ _ _ q _ _ _=>q.elim
 ·exact fun _ _ _ _ q _ _ _=>q.elim
end
end DL
namespace L2
open PySem
theorem Room.u100{k:Nat}{A:Around}(r:Room k A):A.units+100<cLine:=by have:=r.un;omega
theorem Room.u200{k:Nat}{A:Around}(r:Room k A):A.units+200<cLine:=by have:=r.un;omega
end L2
namespace DL
open PySem PySem.Spec PyProof.Rows L2
theorem dE:bootBuiltins "len"=some (.builtin "len"):=by decide +kernel
theorem u7:bootBuiltins "abs"=some (.builtin "abs"):=by decide +kernel
theorem iT:bootBuiltins "repr"=some (.builtin "repr"):=by decide +kernel
theorem nL:bootBuiltins "int"=some (.type "int"):=by decide +kernel
theorem Ef:bootBuiltins "list"=some (.type "list"):=by decide +kernel
theorem dY:bootBuiltins "tuple"=some (.type "tuple"):=by decide +kernel
end DL
namespace DL
open PySem PySem.Spec PyProof.Rows L2
theorem Uy{P:Program}{w:World}{K:PySem.W.Frag}{mg:Str->Option Value}{base:Heap}{k n:Nat}{f:Addr}{fd:FuncData}{ps:List Str}{sp:DC}(h:∀ ds m R,sp ds m R->False):FnOk P w K mg base fU k f fd ps (LSp K n sp):=by
 have no:∀ vs H Q E,¬ LSp K n sp vs H Q E:=fun vs H Q E q=>by
  obtain⟨Z,ds,m,R,_,_,_,q,_⟩:=q;exact h ds m R q
 exact⟨fun vs H Q E q=>absurd q (no vs H Q E),fun A outer s H args us vs Q E _ _ _ _ q=>absurd q (no vs H Q E)⟩
theorem Km{K:PySem.W.Frag}{Z:Addr->Prop}{m:Mu}{H:Hp}:∀ ns:List Int,RPs K Z m H (ns.map PyData.int) (ns.map V.int)
 | []=>by simp[RPs]
 | n::ns=>by
  simp only[List.map_cons,RPs];exact⟨_,_,rfl,by simp only[RP],Km ns⟩
theorem Wu{K:PySem.W.Frag}{sp:DC}{H:Hp}{a:Addr}{ns:List Int}{E:XK}(hS:SqL K H a (ns.map V.int))(h:sp [.dat (.list (ns.map .int))] (fun _=>none) (fun d _=>d=.dat (.bool true))):LSp K 1 sp [.ref a] H (fun v _=>v=.bl true) E:=by
 have ok:Ok K (fun _=>False) (fun _=>none) H:=⟨fun b ds e=>(by cases e),fun _ z=>False.elim z⟩
 refine⟨fun _=>False,[.dat (.list (ns.map .int))],fun _=>none,fun d _=>d=.dat (.bool true),ok,⟨.ref a,[],rfl,?_,rfl⟩,rfl,h,?_⟩
 ·simp only[RD,RP];exact⟨a,_,rfl,by first | exact⟨rfl,fun z=>z⟩ | simp,hS,Km ns⟩
 ·rintro d m' v' H' rfl _ _ r;simpa only[RD,RP] using r
end DL
namespace DL
open PySem PySem.Spec PyProof.Rows L2
theorem zI(env:Env):∀ (names:List (Str×NameKind)) (cs:List (Str×Addr)),(∀ x,(x,NameKind.free)∈names->∃ c,env.cells.lookup x=some c)->(∀ p∈cs,env.cells.lookup p.1=some p.2) ->
  ∃ cl:List (Str×Addr),(forIn names cs (fun(x:Str×NameKind) (r:List (Str×Addr))=>(if (x.2==.free)=true then (do let c <- cellOf env x.1;pure (ForInStep.yield ((x.1,c)::r))) else pure (ForInStep.yield r):Sem (ForInStep (List (Str×Addr))))))=pure cl /\
   (∀ p∈cl,env.cells.lookup p.1=some p.2)/\(∀ p∈cs,p∈cl)/\∀ x,(x,NameKind.free)∈names->∃ c,(x,c)∈cl
 | [],cs,_,h=>⟨cs,rfl,h,fun _ z=>z,fun x z=>nomatch z⟩
 | (n,k)::r,cs,hf,h=>by
  by_cases hk:k=.free
  ·subst hk;obtain⟨c,hc⟩:=hf n List.mem_cons_self;obtain⟨cl,e,h1,h2,h3⟩:=zI env r ((n,c)::cs) (fun x hx=>hf x (List.mem_cons_of_mem _ hx)) (fun p hp=>by
    rcases List.mem_cons.mp hp with rfl | hp
    ·exact hc
    ·exact h p hp)
   refine⟨cl,?_,h1,fun p hp=>h2 p (List.mem_cons_of_mem _ hp),fun x hx=>?_⟩
   ·rw[List.forIn_cons];have e2:cellOf env n=pure c:=by unfold cellOf;rw[hc]
    simp only[beq_self_eq_true,if_true,e2,pure_bind];exact e
   ·rcases List.mem_cons.mp hx with z | hx
    ·cases z
     exact⟨c,h2 _ List.mem_cons_self⟩
    ·exact h3 x hx
  ·obtain⟨cl,e,h1,h2,h3⟩:=zI env r cs (fun x hx=>hf x (List.mem_cons_of_mem _ hx)) h;refine⟨cl,?_,h1,h2,fun x hx=>?_⟩
   ·rw[List.forIn_cons];have e2:(k==NameKind.free)=false:=by simpa using hk
    simp only[e2,Bool.false_eq_true,if_false,pure_bind];exact e
   ·rcases List.mem_cons.mp hx with z | hx
    ·cases z
     exact absurd rfl hk
    ·exact h3 x hx
theorem x9{scope:Scope}{env:Env}(hf:∀ x,(x,NameKind.free)∈scope.names->∃ c,env.cells.lookup x=some c) :
  ∃ cl:List (Str×Addr),closureFor scope env=pure cl/\(∀ p∈cl,env.cells.lookup p.1=some p.2)/\∀ x,(x,NameKind.free)∈scope.names->∃ c,(x,c)∈cl:=by
 obtain⟨cl,e,h1,_,h3⟩:=zI env scope.names [] hf (fun _ z=>nomatch z);refine⟨cl,?_,h1,h3⟩;unfold closureFor
 first
  | exact e
  | (show(do let cs <- forIn scope.names ([]:List (Str×Addr)) _;pure cs:Sem _)=_;rw[e];rfl)
  | (simp only[];rw[e];rfl)
section
variable {prog:Program}{w:World}{A:Around}{R:Result->Shared->Prop}{s:Shared}
theorem M0{elt target iter:Expr}{ifs:List Expr}{scope:Scope}{pos:Pos}{it acc:Value}{env:Env}(I:Nat->Shared->Prop)
  (turn:∀ n s,I n s->wpAny (model prog w) A (pyNext it) (fun r s₁=>match r with
   | none=>R (.ok .next) s₁
   | some v=>wpAny (model prog w) A (letOwnedTupleGo target it v) (fun _ s₀=>wpAny (model prog w) A (assign target env v) (fun _ s₂ =>
     wpAny (model prog w) A (forIn ifs true fun c r=>if r=true then do let ok <- isTrue c env (eval c env);pure (ForInStep.yield ok) else pure (ForInStep.yield r)) (fun ok s₃ =>
      if ok=true then wpAny (model prog w) A (eval elt env) (fun x s₄ =>
       wpAny (model prog w) A (call (.builtin "list.append") [acc,x]) (fun _ s₅=>∃ m,m<n/\I m s₅) (fun _ _=>False) s₄) (fun _ _=>False) s₃
      else ∃ m,m<n/\I m s₃) (fun _ _=>False) s₂) (fun _ _=>False) s₀) (fun _ _=>False) s₁) (fun _ _=>False) s)
  (n:Nat) (h:I n s) :
  codeAny (model prog w) A (.compLoop (.ListComp elt [⟨target,iter,ifs,0⟩] scope pos) 0 it acc env) R s:=by
 have ff:∀ {E:Value->Shared->Prop} (x:Value) (s:Shared),False->E x s:=fun _ _ z=>z.elim
 refine codeAny_loop rfl I (fun n s hI=>?_) n h;show wpAny _ A ((compTurn (.ListComp elt [⟨target,iter,ifs,0⟩] scope pos) 0 it acc env).onRaise (fun x=>do noteFrame x env;theTreesLotGoes x)) _ _ s
 refine wpAny_noted ?_;rw[compTurn_list];refine wpAny_bind (wpAny_standAt (wpAny_bind (wpAny_mono (turn n s hI) (fun r s₁ h₁=>?_) ff)))
 cases r with
 | none=>exact wpAny_pure h₁
 | some v =>
  refine wpAny_bind (wpAny_mono h₁ (fun _ s₀ h₀=>?_) ff);refine wpAny_bind (wpAny_mono h₀ (fun _ s₂ h₂=>wpAny_bind (wpAny_mono h₂ (fun ok s₃ h₃=>?_) ff)) ff)
  cases ok with
  | true =>
   simp only[if_true]at h₃ ⊢;refine wpAny_bind (wpAny_bind (wpAny_mono h₃ (fun x s₄ h₄=>wpAny_bind (wpAny_mono h₄ (fun _ s₅ h₅=>wpAny_pure (wpAny_pure ⟨rfl,h₅⟩)) ff)) ff))
  | false =>
   simp only[Bool.false_eq_true,if_false]at h₃ ⊢;exact wpAny_pure ⟨rfl,h₃⟩
end
end DL
namespace DL
open PySem PySem.Spec PyProof.Rows L2
def bJ(X:Cx)(scope:Scope)(cl:List (Str×Addr))(C:Addr)(NC:List Str)(s2:Shared)(H2:Hp)(pins:List (Addr×Obj))(fp:List Addr):Cx where
 prog:=X.prog
 w:=X.w
 K:=X.K
 mg:=X.mg
 base:=X.base
 A:=X.A
 N:=NC
 s₀:=s2
 H₀:=H2
 env:=compEnvC scope cl C X.env
 outer:=X.stack
 stack:=X.stack
 ex:=fp
 fn:=fun _=>false
 calm:=X.calm
 pn:=X.pn++pins
 xe:=fun _ _=>False
theorem Dm{cl:List (Str×Addr)}{x:Str}{c:Addr}(h:cl.lookup x=some c):(x,c)∈cl:=PySem.mem_of_lookup h
theorem Hr{cl:List (Str×Addr)}{x:Str}:∀ {c:Addr},(x,c)∈cl->∃ c',cl.lookup x=some c':=by
 induction cl with
 | nil=>intro c h;cases h
 | cons p r ih =>
  intro c h;rw[List.lookup_cons]
  cases hx:x==p.1 with
  | true=>exact⟨_,rfl⟩
  | false =>
   rcases List.mem_cons.mp h with e | h
   ·subst e;simp at hx
   ·exact ih h
theorem Bv{env:Env}:∀ {names:List (Str×NameKind)} {x:Str},(∀ y∈names,y.2≠.cell) ->
  ((names.map fun(n,k)=>if (k==NameKind.free&&env.scope.kind==.function&&env.kindOf n==some .cell) then (n,NameKind.cell) else (n,k)).lookup x=some .cell \/
    (names.map fun(n,k)=>if (k==NameKind.free&&env.scope.kind==.function&&env.kindOf n==some .cell) then (n,NameKind.cell) else (n,k)).lookup x=some .free)->(x,NameKind.free)∈names
 | [],x,_,h=>by simp at h
 | (n,k)::r,x,hc,h=>by
  have ih:=@Bv env r x (fun y hy=>hc y (List.mem_cons_of_mem _ hy))
  by_cases hk:(k==NameKind.free&&env.scope.kind==.function&&env.kindOf n==some .cell)=true
  ·have kf:k=.free:=by
    rw[Bool.and_eq_true,Bool.and_eq_true]at hk;exact eq_of_beq hk.1.1
   subst kf;simp only[List.map_cons,hk,if_true,List.lookup_cons]at h
   cases hx:x==n with
   | true =>
    have:x=n:=eq_of_beq hx
    subst this;exact List.mem_cons_self
   | false =>
    simp only[hx]at h;exact List.mem_cons_of_mem _ (ih h)
  ·have hk':(k==NameKind.free&&env.scope.kind==.function&&env.kindOf n==some .cell)=false:=by simpa using hk
   simp only[List.map_cons,hk',Bool.false_eq_true,if_false,List.lookup_cons]at h
   cases hx:x==n with
   | true =>
    have:x=n:=eq_of_beq hx
    subst this;simp only[hx]at h;have hne:=hc (x,k) List.mem_cons_self
    rcases h with h | h
    ·exact absurd (Option.some.inj h) hne
    ·have:k=.free:=Option.some.inj h
     subst this;exact List.mem_cons_self
   | false =>
    simp only[hx]at h;exact List.mem_cons_of_mem _ (ih h)
section
variable {X:Cx}{pins:List (Addr×Obj)}{σ:L2.St}{H2:Hp}{s2:Shared}{scope:Scope}{cl:List (Str×Addr)}{NC:List Str}{fp:List Addr}{C:Addr}
theorem EB(I2:Inv X pins σ H2 s2)(hf:∀ b∈fp,eL X pins H2 b)(hob:∀ b∈fp,∃ o,s2.heap.get? b=some o/\∀ v,o.data≠.cell v)(hkind:scope.kind=.function)(hcell:∀ y∈scope.names,y.2≠.cell)
  (hcl1:∀ p∈cl,X.env.cells.lookup p.1=some p.2) (hcl2:∀ x,(x,NameKind.free)∈scope.names->∃ c,(x,c)∈cl) (hC:s2.heap.objs.size<=C):(bJ X scope cl C NC s2 H2 pins fp).Ok:=by
 have lk:∀ x c,cl.lookup x=some c->X.env.cells.lookup x=some c:=fun x c h=>hcl1 (x,c) (Dm h)
 refine⟨I2.ok.mod,hkind,I2.ok.glob,I2.ok.blt,hC,fun x y c h1 h2=>I2.ok.inj x y c (lk x c h1) (lk y c h2),fun x hx=>?_,fun x c h=>absurd (show false=true from h) Bool.false_ne_true,I2.ok.hd,I2.ok.frames,.inl rfl,fun b hb=>⟨?_,fun x c h=>?_⟩,fun b o e=>I2.bs b o e,
  Nat.le_trans I2.ok.bsz I2.sz,fun b o e hb=>?_,fun b hb hs=>?_,I2.stack,I2.stkFree⟩
 ·obtain⟨c,hc⟩:=hcl2 x (Bv (env:=X.env) hcell hx);exact Hr hc
 ·obtain⟨o,ho,_⟩:=hob b hb;exact Nat.ne_of_lt (Nat.lt_of_lt_of_le (Heap.lt_size ho) hC)
 ·exact(hf b hb).2.2.2.2.1 x c (lk x c h)
 ·rcases (hf b hb).2.2.2.1 with z | z
  ·exact I2.ok.noex b o e z
  ·exact absurd (Nat.lt_of_lt_of_le (Heap.lt_size e) (Nat.le_trans I2.ok.bsz z)) (Nat.lt_irrefl _)
 ·rcases List.mem_cons.mp (I2.stkSub b hs) with z | z
  ·exact(hf b hb).2.1 z
  ·exact(hf b hb).2.2.1 z
theorem x5{o0:HO}{σ':L2.St}{h₁:Heap}{tk:Nat}{mm:Str->Option Value}(I2:Inv X pins σ H2 s2)(hf:∀ b∈fp,eL X pins H2 b)(hob:∀ b∈fp,∃ o,s2.heap.get? b=some o/\∀ v,o.data≠.cell v)(hkind:scope.kind=.function)(hcell:∀ y∈scope.names,y.2≠.cell)
  (hcl1:∀ p∈cl,X.env.cells.lookup p.1=some p.2) (hcl2:∀ x,(x,NameKind.free)∈scope.names->∃ c,(x,c)∈cl)
  (hlen:σ'.length=NC.length) (hσ:∀ (i:Nat) (x:Str) (v:V),NC[i]?=some x->σ'[i]?=some (some v)->iX (relabel scope X.env) x->((relabel scope X.env).names.lookup x=some .cell\/(relabel scope X.env).names.lookup x=some .free)/\(X.env.kindOf x=some .cell\/X.env.kindOf x=some .free)/\∃ j:Nat,X.N[j]?=some x/\σ[j]?=some (some v))
  (hC:C=s2.heap.objs.size+1) (hns:h₁.Ns C mm) (hk:∀ b u,s2.heap.get? b=some u->h₁.get? b=some u)
  (hO:ObjOk X.prog X.w (upd H2 s2.heap.objs.size o0) h₁ s2.heap.objs.size o0) :
  Inv (bJ X scope cl C NC s2 H2 pins fp) [] σ' (upd H2 s2.heap.objs.size o0) {s2 with heap:=h₁,toks:=tk}:=by
 have lk:∀ x c,cl.lookup x=some c->X.env.cells.lookup x=some c:=fun x c h=>hcl1 (x,c) (Dm h)
 have hn:H2 s2.heap.objs.size=none:=I2.hok.fresh (Nat.le_refl _)
 have le1:s2.heap.objs.size<=C:=by rw[hC];exact Nat.le_succ _
 have ne1:C≠s2.heap.objs.size:=by rw[hC];exact Nat.succ_ne_self _
 have hCn:H2 C=none:=I2.hok.fresh le1
 have neD:∀ b o,s2.heap.get? b=some o->b≠s2.heap.objs.size:=fun b o e=>Nat.ne_of_lt (Heap.lt_size e)
 refine⟨EB I2 hf hob hkind hcell hcl1 hcl2 le1,rfl,I2.bare,Un.laid hk (Nat.le_refl _) hn,⟨mm,hns,fun i x v h1 h2 h3=>?_⟩,fun x c h=>?_,?_,fun x c h=>?_,fun p hp=>?_,?_,hlen⟩
 ·obtain⟨hy,hx,j,hj,hv⟩:=hσ i x v h1 h2 h3;obtain⟨m,hnX,hl⟩:=I2.loc;have vis:iX X.env.scope x:=by rcases hx with z | z;exact .inr (.inl z);exact .inr (.inr z)
  obtain⟨u,r,l⟩:=hl j x v hj hv vis;refine⟨u,r,.inr ⟨hy,?_⟩⟩;obtain⟨c',hc'⟩:=hcl2 x (Bv (env:=X.env) hcell hy);obtain⟨c,hc⟩:=Hr hc';refine⟨c,hc,?_⟩;rcases l with⟨z,_⟩ | ⟨_,c2,e2,o,ho,hd⟩
  ·rcases hx with q | q
   ·rw[z]at q;cases q
   ·rw[z]at q;cases q
  ·have:=lk x c hc
   rw[e2]at this
   cases this
   exact⟨o,hk _ o ho,hd⟩
 ·obtain⟨v,o,ho,hd⟩:=I2.cell x c (lk x c h);exact⟨v,o,hk _ o ho,hd⟩
 ·show upd H2 s2.heap.objs.size o0 C=none
  rw[bR ne1];exact hCn
 ·obtain⟨v,o,ho,hd⟩:=I2.cell x c (lk x c h);rw[bR (neD c o ho)];exact I2.freeC x c (lk x c h)
 ·have hp':p∈X.pn++pins:=by
   rcases List.mem_append.mp hp with z | z
   ·exact z
   ·cases z
  obtain⟨e,n,ne,nf,d⟩:=I2.pin p hp';refine⟨hk _ _ e,by rw[bR (neD _ _ e)];exact n,?_,fun z=>?_,d⟩
  ·show p.1≠C
   exact Nat.ne_of_lt (Nat.lt_of_lt_of_le (Heap.lt_size e) le1)
  ·rcases List.mem_cons.mp (I2.stkSub p.1 z) with q | q
   ·exact ne q
   ·exact nf q
 ·exact I2.hok.laid hk (Nat.le_refl _) hO
theorem AY{σ':L2.St}{h₁:Heap}{tk:Nat}{mm:Str->Option Value}(I2:Inv X pins σ H2 s2)(hf:∀ b∈fp,eL X pins H2 b)(hob:∀ b∈fp,∃ o,s2.heap.get? b=some o/\∀ v,o.data≠.cell v)(hkind:scope.kind=.function)(hcell:∀ y∈scope.names,y.2≠.cell)
  (hcl1:∀ p∈cl,X.env.cells.lookup p.1=some p.2) (hcl2:∀ x,(x,NameKind.free)∈scope.names->∃ c,(x,c)∈cl)
  (hlen:σ'.length=NC.length) (hσ:∀ (i:Nat) (x:Str) (v:V),NC[i]?=some x->σ'[i]?=some (some v)->iX (relabel scope X.env) x->((relabel scope X.env).names.lookup x=some .cell\/(relabel scope X.env).names.lookup x=some .free)/\(X.env.kindOf x=some .cell\/X.env.kindOf x=some .free)/\∃ j:Nat,X.N[j]?=some x/\σ[j]?=some (some v))
  (hC:C=s2.heap.objs.size+1) (hns:h₁.Ns C mm) (hk:∀ b u,s2.heap.get? b=some u->h₁.get? b=some u)
  (hD:h₁.get? s2.heap.objs.size=some {cls:=.type "list",data:=.seq ([]:List Value).toArray}) :
  Inv (bJ X scope cl C NC s2 H2 pins fp) [] σ' (upd H2 s2.heap.objs.size (.lst [])) {s2 with heap:=h₁,toks:=tk} :=
 x5 I2 hf hob hkind hcell hcl1 hcl2 hlen hσ hC hns hk ⟨Nat.zero_le _,[],0,.nil,hD⟩
theorem GH{py:List (Addr×Obj)}{σ'':L2.St}{H':Hp}{s':Shared}{h':Heap}(I2:Inv X pins σ H2 s2)(hf:∀ b∈fp,eL X pins H2 b)(Iy:Inv (bJ X scope cl C NC s2 H2 pins fp) py σ'' H' s')(hC:s2.heap.objs.size<=C)(hs:Heap.SameBut C s'.heap h') :
  Inv X pins σ H' {s' with heap:=h'}:=by
 have u:Un (gU X.stack) fp H2 H' s2.heap s'.heap:=Iy.base
 have neC:∀ b o,s2.heap.get? b=some o->b≠C:=fun b o e=>Nat.ne_of_lt (Nat.lt_of_lt_of_le (Heap.lt_size e) hC)
 have fC:H' C=none:=Iy.free
 refine I2.call' (s':={s' with heap:=h'}) (ch:=fp) Iy.os ⟨fun b o e n hb hx=>(hs.2 b (neC b o e)).trans (u.keep b o e n hb hx),fun b o e n hb hx=>?_,u.free,fun b o e hx=>?_,u.tups,u.frzs,u.tbls⟩ (fun b o e=>?_) Iy.bare fun b hb=>?_
 ·obtain⟨sl,q⟩:=u.slot b o e n hb hx;exact⟨sl,(hs.2 b (neC b o e)).trans q⟩
 ·obtain⟨o',q⟩:=u.there b o e hx;exact⟨o',(hs.2 b (neC b o e)).trans q⟩
 ·refine(Iy.hok b o e).stay (fun c v hc q=>(hs.2 c ?_).trans q) (fun _ q=>q) (fun _ _ q=>q) fun _ _ _ q=>q;rintro rfl;rcases hc with rfl | hc
  ·rw[fC]at e;cases e
  ·rw[fC]at hc;cases hc
 ·obtain⟨_,f1,_,f3,f4,f5⟩:=hf b hb;exact⟨f3,f1,f4,f5⟩
end
end DL
namespace DL
open PySem PySem.Spec PyProof.Rows L2
section
variable {K:PySem.W.Frag}{Z Y:Addr->Prop}{m m':Mu}{H H':Hp}
mutual
theorem RP.tr0(ht:∀ a vs,SqT K H a vs->SqT K H' a vs)(hl:∀ a vs,(m a=none/\¬ Z a)->SqL K H a vs->(m' a=none/\¬ Y a)/\SqL K H' a vs)(hf:∀ a o u,H a=some (.frz o u)->H' a=some (.frz o u)):∀ (p:PyData) (v:V),RP K Z m H p v->RP K Y m' H' p v
 | .none,v,h=>by simpa only[RP] using h
 | .bool _,v,h=>by simpa only[RP] using h
 | .int _,v,h=>by simpa only[RP] using h
 | .str _,v,h=>by simpa only[RP] using h
 | .tuple xs,v,h=>by
  simp only[RP]at h ⊢;obtain⟨a,vs,h1,h2,h3⟩:=h;exact⟨a,vs,h1,ht a vs h2,RPs.tr0 ht hl hf xs vs h3⟩
 | .list xs,v,h=>by
  simp only[RP]at h ⊢;obtain⟨a,vs,h1,h2,h3,h4⟩:=h;obtain⟨q1,q2⟩:=hl a vs h2 h3;exact⟨a,vs,h1,q1,q2,RPs.tr0 ht hl hf xs vs h4⟩
 | .dict kvs,v,h=>by
  simp only[RP]at h ⊢;obtain⟨a,o,u,vs,h1,h2,h3,h4⟩:=h;exact⟨a,o,u,vs,h1,hf a o u h2,h3,RPd.tr0 ht hl hf kvs _ h4⟩
theorem RPd.tr0(ht:∀ a vs,SqT K H a vs->SqT K H' a vs)(hl:∀ a vs,(m a=none/\¬ Z a)->SqL K H a vs->(m' a=none/\¬ Y a)/\SqL K H' a vs)(hf:∀ a o u,H a=some (.frz o u)->H' a=some (.frz o u)):∀ (xs:List (PyData×PyData)) (vs:List (PyData×V)),RPd K Z m H xs vs->RPd K Y m' H' xs vs
 | [],vs,h=>by simpa only[RPd] using h
 | (k,p)::xs,vs,h=>by
  simp only[RPd]at h ⊢;obtain⟨v,r,h1,h2,h3⟩:=h;exact⟨v,r,h1,RP.tr0 ht hl hf p v h2,RPd.tr0 ht hl hf xs r h3⟩
theorem RPs.tr0(ht:∀ a vs,SqT K H a vs->SqT K H' a vs)(hl:∀ a vs,(m a=none/\¬ Z a)->SqL K H a vs->(m' a=none/\¬ Y a)/\SqL K H' a vs)(hf:∀ a o u,H a=some (.frz o u)->H' a=some (.frz o u)):∀ (xs:List PyData) (vs:List V),RPs K Z m H xs vs->RPs K Y m' H' xs vs
 | [],vs,h=>by simpa only[RPs] using h
 | x::xs,vs,h=>by
  simp only[RPs]at h ⊢;obtain⟨v,r,h1,h2,h3⟩:=h;exact⟨v,r,h1,RP.tr0 ht hl hf x v h2,RPs.tr0 ht hl hf xs r h3⟩
end
theorem RP.tr(ht:∀ a vs,SqT K H a vs->SqT K H' a vs)(hl:∀ a vs,(m a=none/\¬ Z a)->SqL K H a vs->(m' a=none/\¬ Y a)/\SqL K H' a vs)(p:PyData)(v:V)(h:RP K Z m H p v)(hf:∀ a o u,H a=some (.frz o u)->H' a=some (.frz o u):=by first | exact fun _ _ _ q=>q | exact Ext.fz ‹_› | (intro a o u q;first | (rw[bR (by rintro rfl;simp_all)];exact q) | (unfold upd;split<;>simp_all))):RP K Y m' H' p v:=RP.tr0 ht hl hf p v h
theorem RPs.tr(ht:∀ a vs,SqT K H a vs->SqT K H' a vs)(hl:∀ a vs,(m a=none/\¬ Z a)->SqL K H a vs->(m' a=none/\¬ Y a)/\SqL K H' a vs)(p:List PyData)(v:List V)(h:RPs K Z m H p v)(hf:∀ a o u,H a=some (.frz o u)->H' a=some (.frz o u):=by first | exact fun _ _ _ q=>q | exact Ext.fz ‹_› | (intro a o u q;first | (rw[bR (by rintro rfl;simp_all)];exact q) | (unfold upd;split<;>simp_all))):RPs K Y m' H' p v:=RPs.tr0 ht hl hf p v h
def bU(Z:Addr->Prop)(D:Addr):Addr->Prop:=fun a=>Z a\/a=D
variable {D:Addr}{ys zs:List V}
theorem Nq(hD:H D=none)(hk:K.lookup D=none):∀ a vs,(m a=none/\¬ Z a)->SqL K H a vs->(m a=none/\¬ bU Z D a)/\SqL K (upd H D (.lst ys)) a vs:=fun a vs h1 h2 =>
 ⟨⟨h1.1,fun z=>z.elim h1.2 (SqL.ne hD hk h2)⟩,(cU hD).seq h2⟩
theorem pG(hD:H D=some (.lst ys)):∀ a vs,SqT K H a vs->SqT K (upd H D (.lst zs)) a vs:=fun b xs h=>by
 rcases h with (h | ⟨o,h⟩) | h
 ·have ne:b≠D:=by rintro rfl;rw[hD]at h;cases h
  exact .inl (.inl (by rw[bR ne];exact h))
 ·have ne:b≠D:=by rintro rfl;rw[hD]at h;cases h
  exact .inl (.inr ⟨o,by rw[bR ne];exact h⟩)
 ·exact .inr h
theorem Dp{a:Addr}{vs:List V}(ne:a≠D)(h:SqL K H a vs):SqL K (upd H D (.lst zs)) a vs:=by
 rcases h with (h | ⟨o,h⟩) | h
 ·exact .inl (.inl (by rw[bR ne];exact h))
 ·exact .inl (.inr ⟨o,by rw[bR ne];exact h⟩)
 ·exact .inr h
theorem zU:∀ a vs,(m a=none/\¬ bU Z D a)->SqL K H a vs->(m a=none/\¬ bU Z D a)/\SqL K (upd H D (.lst zs)) a vs:=fun a vs h1 h2 =>
 ⟨h1,Dp (fun e=>h1.2 (.inr e)) h2⟩
end
section
variable {K:PySem.W.Frag}{Z:Addr->Prop}{m m1 m':Mu}{H H1 H':Hp}{D:Addr}{ys zs:List V}
theorem To{x:DL.D}{v:V}(hD:H D=none)(hk:K.lookup D=none)(h:RD K Z m H x v):RD K (bU Z D) m (upd H D (.lst ys)) x v:=by
 cases x with
 | dat p=>exact RP.tr (fun a vs q=>SqT.same (cU hD) q) (Nq hD hk) p v h
 | cel a=>exact h
theorem Zl{x:DL.D}{v:V}(hD:H D=some (.lst ys))(h:RD K (bU Z D) m H x v):RD K (bU Z D) m (upd H D (.lst zs)) x v:=by
 cases x with
 | dat p=>exact RP.tr (pG hD) zU p v h
 | cel a=>exact h
theorem Wq(ok:Ok K Z m H)(hD:H D=none)(hk:K.lookup D=none):Ok K (bU Z D) m (upd H D (.lst ys)):=by
 refine⟨fun a c h=>?_,fun a h=>?_⟩
 ·obtain⟨o,h1,h2⟩:=ok.g a c h;have ne:a≠D:=by rintro rfl;rw[hD]at h1;cases h1
  exact⟨o,by rw[bR ne];exact h1,h2.lift fun p v q=>RP.tr (fun a vs q=>SqT.same (cU hD) q) (Nq hD hk) p v q⟩
 ·rcases h with h | h
  ·have ne:a≠D:=by rintro rfl;exact(ok.z a h).2 hD
   exact⟨(ok.z a h).1,by rw[bR ne];exact(ok.z a h).2⟩
  ·subst h;exact⟨(fJ ok hD).1,by rw[cX];intro z;cases z⟩
theorem S7(ok:Ok K (bU Z D) m H)(hD:H D=some (.lst ys)):Ok K (bU Z D) m (upd H D (.lst zs)):=by
 refine⟨fun a c h=>?_,fun a h=>?_⟩
 ·obtain⟨o,h1,h2⟩:=ok.g a c h;have ne:a≠D:=by
   rintro rfl;have:=(ok.z a (.inr rfl)).1
   rw[h]at this
   cases this
  exact⟨o,by rw[bR ne];exact h1,h2.lift fun p v q=>RP.tr (pG hD) zU p v q⟩
 ·by_cases e:a=D
  ·subst e;exact⟨(ok.z a h).1,by rw[cX];intro z;cases z⟩
  ·exact⟨(ok.z a h).1,by rw[bR e];exact(ok.z a h).2⟩
theorem Wa(ok:Ok K (bU Z D) m H):Ok K Z m H:=by
 refine⟨fun a c h=>?_,fun a h=>ok.z a (.inl h)⟩;obtain⟨o,h1,h2⟩:=ok.g a c h;exact⟨o,h1,h2.lift fun p v q=>RP.tr (fun _ _ q=>q) (fun a vs q1 q2=>⟨⟨q1.1,fun z=>q1.2 (.inl z)⟩,q2⟩) p v q⟩
theorem wH(e:Ext K Z m1 H1 m H)(hD:H1 D=none)(hk:K.lookup D=none)(e2:Ext K (bU Z D) m H m' H'):Ext K Z m1 H1 m' H' :=
 ⟨fun a vs h=>e2.t a vs (e.t a vs h),fun a vs h1 h2=>let ⟨q1,q2⟩:=e.l a vs h1 h2;e2.l a vs ⟨q1,fun z=>z.elim h1.2 (SqL.ne hD hk h2)⟩ q2,fun a h=>(e2.z a (.inl h)).trans (e.z a h),fun a h=>e2.c a (e.c a h),fun a o u h=>e2.fz a o u (e.fz a o u h),fun a h=>by
  have q:=e.fm a h
  rw[e2.fm a (by rw[q];exact h),q]⟩
theorem X1(e:Ext K Z m1 H1 m H)(ok1:Ok K Z m1 H1)(hD:H1 D=none)(hk:K.lookup D=none)(hH:H D=some (.lst ys)):Ext K Z m1 H1 m (upd H D (.lst zs)) :=
 ⟨fun a vs h=>pG hH a vs (e.t a vs h),fun a vs h1 h2=>let ⟨q1,q2⟩:=e.l a vs h1 h2;⟨q1,Dp (SqL.ne hD hk h2) q2⟩,fun a h=>by
  have ne:a≠D:=by rintro rfl;exact(ok1.z a h).2 hD
  rw[bR ne];exact e.z a h,e.c,fun a o u h=>by
  have q:=e.fz a o u h
  rw[bR (by rintro rfl;rw[hH]at q;cases q)]
  exact q,e.fm⟩
end
def bD(g:DG)(t:DT)(f:DE):List D->List PyData->bO->Mu->(List PyData->Mu->Prop)->Prop
 | [],acc,_,m,Q=>Q acc m
 | x::xs,acc,d,m,Q=>g x d m fun d1 m1=>t d1 m1 fun b m2=>if b=true then f d1 m2 fun y m3=>∃ p,y=.dat p/\acc.length<sizeLine/\bD g t f xs (acc++[p]) d1 m3 Q else bD g t f xs acc d1 m2 Q
def bT{α:Type}(src:List (Option Nat))(d:List (Option α)):List (Option α):=src.map fun o=>o.bind fun j=>(d[j]?).join
@[simp] def cS(src:List (Option Nat))(fi:DI)(g:DG)(t:DT)(f:DE):DE:=fun d m Q=>fi d m fun xs m1=>bD g t f xs [] (bT src d) m1 fun ps m2=>Q (.dat (.list ps)) m2
def PF(Y:Cx)(ifs:List Expr)(t:TT):Prop:=∀ (pins:List (Addr×Obj)) (s:Shared) (σ:L2.St) (H:Hp) (Q:Bool->Hp->Prop),Inv Y pins σ H s->t σ H Q ->
 wpAny (model Y.prog Y.w) Y.A (forIn ifs true fun c r=>if r=true then do let ok <- isTrue c Y.env (eval c Y.env);pure (ForInStep.yield ok) else pure (ForInStep.yield r)) (TP Y pins σ Q) Y.xe s
@[simp] def cC:DT:=fun _ m Q=>Q true m
theorem E6{Y:Cx}:PF Y [] (LT Y.K cC):=fun pins s σ H Q I h=>by
 obtain⟨Z,d,m,R,ok,rs,h,k⟩:=h;exact wpAny_tests_nil ⟨H,I,k true m H h Ext.refl ok⟩
theorem a8{Y:Cx}{c:Expr}{t:TT}(h:PT Y c t):PF Y [c] t:=fun pins s σ H Q I q=>wpAny_tests_one (h pins s σ H Q I q)
theorem Sq{K:PySem.W.Frag}{Z:Addr->Prop}{m:Mu}{H:Hp}{d:bO}{σ:L2.St}(src:List (Option Nat))(rs:RS K Z m H d σ):RS K Z m H (bT src d) (bT src σ):=by
 refine⟨by unfold bT;rw[List.length_map,List.length_map],fun i x h=>?_⟩
 unfold bT at h ⊢;rw[List.getElem?_map]at h ⊢
 cases e:src[i]? with
 | none=>rw[e]at h;cases h
 | some o =>
  rw[e]at h
  cases o with
  | none=>cases h
  | some j =>
   have h':(d[j]?).join=some x:=Option.some.inj h
   cases ej:d[j]? with
   | none=>rw[ej]at h';cases h'
   | some w =>
    rw[ej]at h';have h2:w=some x:=h'
    subst h2;obtain⟨v,q1,q2⟩:=rs.2 j x ej;exact⟨v,by rw[Option.map_some,Option.bind_some,q1];rfl,q2⟩
theorem L8{α:Type}{src:List (Option Nat)}{d:List (Option α)}{i:Nat}{v:α}(h:(bT src d)[i]?=some (some v)):∃ j:Nat,src[i]?=some (some j)/\d[j]?=some (some v):=by
 unfold bT at h;rw[List.getElem?_map]at h
 cases e:src[i]? with
 | none=>rw[e]at h;cases h
 | some o =>
  rw[e]at h
  cases o with
  | none=>cases h
  | some j =>
   have h':(d[j]?).join=some v:=Option.some.inj h
   cases ej:d[j]? with
   | none=>rw[ej]at h';cases h'
   | some w =>
    rw[ej]at h';have h2:w=some v:=h'
    subst h2;exact⟨j,rfl,ej⟩
end DL
namespace DL
open PySem PySem.Spec PyProof.Rows L2
theorem Wr{K:PySem.W.Frag}{Z:Addr->Prop}{m1 m':Mu}{H1 H':Hp}{D:Addr}{x:DL.D}{v:V}(hD:H1 D=none)(hk:K.lookup D=none)(e:Ext K Z m1 H1 m' H')(h:RD K Z m1 H1 x v):RD K (bU Z D) m' H' x v:=by
 cases x with
 | dat p=>exact RP.tr e.t (fun a vs h1 h2=>let ⟨q1,q2⟩:=e.l a vs h1 h2;⟨⟨q1,fun z=>z.elim h1.2 (SqL.ne hD hk h2)⟩,q2⟩) p v h
 | cel a=>exact⟨h.1,e.c a h.2⟩
section
variable {X:Cx}{tg iter elt:Expr}{ifs:List Expr}{scope:Scope}{NC:List Str}{fi:DI}{g:DG}{t:DT}{f:DE}{pos:Pos}
def mX(X:Cx)(scope:Scope)(NC:List Str)(src:List (Option Nat)):Prop:=NC.length=src.length/\∀ (i:Nat) (x:Str) (j:Nat),NC[i]?=some x->src[i]?=some (some j)->X.N[j]?=some x/\(x,NameKind.free)∈scope.names /\
 ((relabel scope X.env).names.lookup x=some .cell\/(relabel scope X.env).names.lookup x=some .free)
structure Off (X:Cx) (pins:List (Addr×Obj)) (H:Hp) (C:Addr):Prop where
 h:H C=none
 l:C≠X.env.locals
 s:X.s₀.heap.objs.size<=C
 c:∀ x c,X.env.cells.lookup x=some c->c≠C
 p:∀ p∈X.pn++pins,p.1≠C
theorem Off.inv{pins:List (Addr×Obj)}{σ:L2.St}{H:Hp}{s:Shared}{C:Addr}{h':Heap}(o:Off X pins H C)(I:Inv X pins σ H s)(hs:Heap.SameBut C s.heap h'):Inv X pins σ H {s with heap:=h'} :=
 I.turned (t':=s.toks) (it:=C) (fun b ob hb e=>(hs.2 b hb).trans e) o.h o.l (.inr o.s) o.c o.p
def Gu(K:PySem.W.Frag)(Z:Addr->Prop)(m:Mu)(H:Hp)(xs:List D)(J:It):Prop:=∀ m2 H2,Ext K Z m H m2 H2 ->
 (∀ (i:Nat) (x:D),xs[i]?=some x->J.go i H2/\∀ v H3,J.yld i H2 v H3->Yld K Z m H x v H2 H3)/\J.stop xs.length H2
theorem Mp{wi:TI}(src:List (Option Nat))(hc:X.calm=true)(hi:PI X tg iter wi)
  (hg:∀ cl C s2 H2 pins fp,PG (bJ X scope cl C NC s2 H2 pins fp) tg (LG X.K g)) (ht:∀ cl C s2 H2 pins fp,PF (bJ X scope cl C NC s2 H2 pins fp) ifs (LT X.K t)) (he:∀ cl C s2 H2 pins fp,PE (bJ X scope cl C NC s2 H2 pins fp) elt (LE X.K f))
  (hkind:scope.kind=.function) (hcell:∀ y∈scope.names,y.2≠.cell) (hnames:∀ y∈scope.names,y.2=.local->scope.names.lookup y.1=some .local)
  (hfree:∀ x,(x,NameKind.free)∈scope.names->X.env.kindOf x=some .cell\/X.env.kindOf x=some .free) (hsrc:mX X scope NC src)
  (hs:∀ x,foldedSetIterable iter X.env x=pure x) {use:Option (Value->Sem Unit)} {QQ:Value->Shared->Prop} {pos':Pos} {pins:List (Addr×Obj)} {s:Shared} {σ:L2.St} {H:Hp} {Z:Addr->Prop} {d:bO} {m:Mu} {RL:List PyData->Mu->Prop}
  (I:Inv X pins σ H s) (ok:Ok X.K Z m H) (rs:RS X.K Z m H d σ) (h:wi σ H fun J H1=>∃ xs m1,Ext X.K Z m H m1 H1/\Ok X.K Z m1 H1/\Gu X.K Z m1 H1 xs J/\bD g t f xs [] (bT src d) m1 RL)
  (fin:∀ (s5:Shared) (C D:Addr) (H':Hp) (m':Mu) (ps:List PyData),RL ps m'->Ext X.K Z m H m' H'->Ok X.K Z m' H'->RD X.K Z m' H' (.dat (.list ps)) (.ref D)->(∃ mm,s5.heap.Ns C mm)->Inv X pins σ H' s5->Off X pins H' C->(m' D=none/\Ext X.K Z m H (aY m' D (.l ps)) H'/\Ok X.K Z (aY m' D (.l ps)) H') ->
   compPost (model X.prog X.w) X.A X.xe use QQ (.ref D) C (.ok .next) s5) :
  wpAny (model X.prog X.w) X.A (comprehension (.ListComp elt [⟨tg,iter,ifs,0⟩] scope pos) scope X.env pos' (newList []) false (eval iter X.env) use) QQ X.xe s:=by
 obtain⟨cl,hclos,hcl1,hcl2⟩:=x9 (scope:=scope) (env:=X.env) fun x hx=>I.ok.has x (hfree x hx);refine wpAny_comprehension_free (use:=use) rfl hs hclos hkind hnames ?_;refine bA (hi pins s σ H _ I h) fun xv s₁ h₁=>bA h₁ fun itv s₂ h₂=>?_;obtain⟨it,fp,tn,J,H2,eit,I2,T,st2,f2,xs,m1,e1,ok1,yl,lp⟩:=h₂;subst eit;refine wpAny_newObj_type (wpAny_newFunctionEnv hcell (by intro y hy;simp at hy) (fun h₁ hns₁ hsb₁=>?_) hkind)
 dsimp only at hns₁ hsb₁ ⊢
 generalize hH2:s₂.heap.push {cls:=.type "list",dict:=none,data:=.seq ([]:List Value).toArray}=HP at hns₁ hsb₁ ⊢
 have hC:HP.objs.size=s₂.heap.objs.size+1:=by rw[<- hH2,Heap.size_push]
 have leC:s₂.heap.objs.size<=HP.objs.size:=by rw[hC];exact Nat.le_succ _
 have old:∀ b o,s₂.heap.get? b=some o->h₁.get? b=some o:=fun b o e=>hsb₁.extBut b o (Nat.ne_of_lt (Nat.lt_of_lt_of_le (Heap.lt_size e) leC)) (Heap.get?_push_of_some _ (hH2▸Heap.get?_push_of_some _ e))
 have hacc:h₁.get? s₂.heap.objs.size=some {cls:=.type "list",data:=.seq ([]:List Value).toArray}:=hsb₁.extBut _ _ (by rw[hC];exact Nat.ne_of_lt (Nat.lt_succ_self _)) (Heap.get?_push_of_some _ (hH2▸Heap.get?_push_size _ rfl))
 have hD:H2 s₂.heap.objs.size=none:=I2.hok.fresh (Nat.le_refl _)
 have hkD:X.K.lookup s₂.heap.objs.size=none:=by
  cases e:X.K.lookup s₂.heap.objs.size with
  | none=>rfl
  | some o=>exact absurd (Heap.lt_size (I2.kIn _ o e)) (Nat.lt_irrefl _)
 have obf:∀ b∈fp,∃ o,s₂.heap.get? b=some o/\∀ v,o.data≠.cell v:=T.obj 0 _ st2
 have hσ:∀ (i:Nat) (x:Str) (v:V),NC[i]?=some x->(bT src σ)[i]?=some (some v)->iX (relabel scope X.env) x->((relabel scope X.env).names.lookup x=some .cell\/(relabel scope X.env).names.lookup x=some .free)/\(X.env.kindOf x=some .cell\/X.env.kindOf x=some .free)/\∃ j:Nat,X.N[j]?=some x/\σ[j]?=some (some v):=fun i x v h1 h2 _=>by
  obtain⟨j,q1,q2⟩:=L8 h2;obtain⟨a1,a2,a3⟩:=hsrc.2 i x j h1 q1;exact⟨a3,hfree x a2,j,a1,q2⟩
 have I4:=fun tk=>AY (cl:=cl) (NC:=NC) (σ':=bT src σ) (tk:=tk) I2 f2 obf hkind hcell hcl1 hcl2 (by unfold bT;rw[List.length_map];exact hsrc.1.symm) hσ hC hns₁ old hacc
 have st4:tn 0 h₁:=T.keep 0 _ _ st2 fun b _ o e=>old b o e
 -- the loop
 have loop:∀ s₃:Shared,s₃={s₂ with heap:=h₁,toks:=s₂.toks+([]:List (Str×Value)).length} ->
   codeAny (model X.prog X.w) X.A (.compLoop (.ListComp elt [⟨tg,iter,ifs,0⟩] scope pos) 0 (.ref it) (.ref s₂.heap.objs.size) (compEnvC scope cl HP.objs.size X.env))
    (compPost (model X.prog X.w) X.A X.xe use QQ (.ref s₂.heap.objs.size) HP.objs.size) s₃:=by
  rintro s₃ rfl;refine M0 (fun n s'=>∃ (i:Nat) (ys:List V) (acc:List PyData) (d':bO) (m':Mu) (σ':L2.St) (H':Hp),n=xs.length-i/\i<=xs.length/\Inv (bJ X scope cl HP.objs.size NC s₂ H2 pins fp) [] σ' H' s'/\tn i s'.heap/\(∀ b∈fp,H' b=none) /\
   H' s₂.heap.objs.size=some (.lst ys)/\RPs X.K (bU Z s₂.heap.objs.size) m' H' acc ys/\Ext X.K Z m1 H2 m' H'/\Ok X.K (bU Z s₂.heap.objs.size) m' H'/\RS X.K (bU Z s₂.heap.objs.size) m' H' d' σ' /\
   bD g t f (xs.drop i) acc d' m' RL) ?_ xs.length ?_
  rotate_left
  ·have rs1:RS X.K Z m1 H2 (bT src d) (bT src σ):=Sq src (rs.ext e1)
   refine⟨0,[],[],bT src d,m1,bT src σ,_,by simp,Nat.zero_le _,I4 _,st4,fun b hb=>?_,cX,by simp[RPs],ok1.ext (cU hD),Wq ok1 hD hkD,⟨rs1.1,fun i x hx=>?_⟩,by simpa using lp⟩
   ·obtain⟨o,ho,_⟩:=obf b hb;rw[bR (Nat.ne_of_lt (Heap.lt_size ho))];exact(f2 b hb).1
   ·obtain⟨v,q1,q2⟩:=rs1.2 i x hx;exact⟨v,q1,To hD hkD q2⟩
  rintro n s4 ⟨i,ys,acc,d',m',σ',H',rfl,hi',I5,st5,fr5,hDy,racc,eX,ok5,rs5,lp5⟩;have stat:∀ b∈fp,eL (bJ X scope cl HP.objs.size NC s₂ H2 pins fp) [] H' b:=fun b hb=>by
   obtain⟨g0,g1,g2,g3,g4,g5⟩:=f2 b hb;obtain⟨o,ho,_⟩:=obf b hb;refine⟨fr5 b hb,Nat.ne_of_lt (Nat.lt_of_lt_of_le (Heap.lt_size ho) leC),fun z=>?_,.inl hb,fun x c e=>g4 x c (hcl1 (x,c) (Dm e)),fun p hp=>?_⟩
   ·rcases List.mem_cons.mp (I2.stkSub b z) with q | q
    ·exact g1 q
    ·exact g2 q
   ·rcases List.mem_append.mp hp with q | q
    ·exact g5 p q
    ·cases q
  obtain⟨y1,y2⟩:=yl m' H' eX
  by_cases hlt:i<xs.length
  ·rw[List.drop_eq_getElem_cons hlt]at lp5;obtain⟨go,yd⟩:=y1 i xs[i] (List.getElem?_eq_getElem hlt);refine bA (T.item (bJ X scope cl HP.objs.size NC s₂ H2 pins fp) rfl rfl rfl hc i [] s4 σ' H' (fun _ _=>False) I5 stat st5 go) fun r s5 hq0=>?_;obtain⟨u,hr,h5⟩:=hq0;subst hr;refine bA h5 fun _ s6 hq0=>?_;obtain⟨x,H6,I6,r6,yy,st6,fr6⟩:=hq0;have yy':=yd x H6 yy
   have e56:Ext X.K (bU Z s₂.heap.objs.size) m' H' m' H6:=ok5.ext yy'.same
   have rv:=yy'.rd (fun d v h=>Wr hD hkD eX h) ok5
   have hDy:=yy'.same _ _ hDy
   have racc:=RPs.ext e56 _ _ racc
   have eX:=wH eX hD hkD e56
   have rs5:=rs5.ext e56
   have ok5:=ok5.grow yy'.same
   have stat:∀ b∈fp,eL (bJ X scope cl HP.objs.size NC s₂ H2 pins fp) [] H6 b:=fun b hb=>⟨fr6 b hb,(stat b hb).2⟩
   have I6':=I6.pinned stat (T.obj _ _ st6)
   -- what stands when a turn is over
   have over:∀ {s7:Shared} {σ7:L2.St} {H7:Hp} {ys7:List V} {acc7:List PyData} {d7:bO} {m7:Mu},Inv (bJ X scope cl HP.objs.size NC s₂ H2 pins fp) ([]++pA fp s6.heap) σ7 H7 s7->H7 s₂.heap.objs.size=some (.lst ys7)->RPs X.K (bU Z s₂.heap.objs.size) m7 H7 acc7 ys7 ->
     Ext X.K Z m1 H2 m7 H7->Ok X.K (bU Z s₂.heap.objs.size) m7 H7->RS X.K (bU Z s₂.heap.objs.size) m7 H7 d7 σ7->(bD g t f (xs.drop (i+1)) acc7 d7 m7 RL) ->
     ∃ n,n<xs.length-i/\∃ (i:Nat) (ys:List V) (acc:List PyData) (d':bO) (m':Mu) (σ':L2.St) (H':Hp),n=xs.length-i/\i<=xs.length/\Inv (bJ X scope cl HP.objs.size NC s₂ H2 pins fp) [] σ' H' s7/\tn i s7.heap/\(∀ b∈fp,H' b=none) /\
      H' s₂.heap.objs.size=some (.lst ys)/\RPs X.K (bU Z s₂.heap.objs.size) m' H' acc ys/\Ext X.K Z m1 H2 m' H'/\Ok X.K (bU Z s₂.heap.objs.size) m' H'/\RS X.K (bU Z s₂.heap.objs.size) m' H' d' σ' /\
      bD g t f (xs.drop i) acc d' m' RL:=by
    intro s7 σ7 H7 ys7 acc7 d7 m7 I7 a1 a2 a3 a4 a5 a6;refine⟨xs.length-(i+1),by omega,i+1,ys7,acc7,d7,m7,σ7,H7,rfl,hlt,I7.unpinned,T.keep _ _ _ st6 fun b hb o e=>(I7.pin (b,o) (List.mem_append_right _ (List.mem_append_right _ (tM hb e)))).1,fun b hb=>?_,a1,a2,a3,a4,a5,a6⟩
    obtain⟨o,e,dd⟩:=T.obj _ _ st6 b hb;exact(I7.pin (b,o) (List.mem_append_right _ (List.mem_append_right _ (tM hb e)))).2.1
   refine bA (hg cl _ s₂ H2 pins fp _ s6 σ' _ x u (fun σ7 H7=>∃ d7 m7,Ext X.K (bU Z s₂.heap.objs.size) m' H6 m7 H7/\Ok X.K (bU Z s₂.heap.objs.size) m7 H7/\RS X.K (bU Z s₂.heap.objs.size) m7 H7 d7 σ7 /\
    t d7 m7 fun b m2=>if b=true then f d7 m2 fun y m3=>∃ p,y=.dat p/\acc.length<sizeLine/\bD g t f (xs.drop (i+1)) (acc++[p]) d7 m3 RL else bD g t f (xs.drop (i+1)) acc d7 m2 RL) I6' r6
    ⟨_,xs[i],d',m',_,ok5,rs5,rv,lp5,fun d7 m7 σ7 H7 q7 e7 ok7 rs7=>⟨d7,m7,e7,ok7,rs7,q7⟩⟩) fun _ s7 hq0=>?_
   obtain⟨σ7,H7,I7,d7,m7,e7,ok7,rs7,q7⟩:=hq0;refine bA (ht cl _ s₂ H2 pins fp _ s7 σ7 H7 (fun b H8=>∃ m8,Ext X.K (bU Z s₂.heap.objs.size) m7 H7 m8 H8/\Ok X.K (bU Z s₂.heap.objs.size) m8 H8 /\
    if b=true then f d7 m8 fun y m3=>∃ p,y=.dat p/\acc.length<sizeLine/\bD g t f (xs.drop (i+1)) (acc++[p]) d7 m3 RL else bD g t f (xs.drop (i+1)) acc d7 m8 RL) I7
    ⟨_,d7,m7,_,ok7,rs7,q7,fun b m8 H8 q8 e8 ok8=>⟨m8,e8,ok8,q8⟩⟩) fun b s8 hq0=>?_
   obtain⟨H8,I8,m8,e8,ok8,q8⟩:=hq0;have e68:=e7.trans e8
   have hD8:H8 s₂.heap.objs.size=some (.lst ys):=(e68.z _ (.inr rfl)).trans hDy
   cases b with
   | false =>
    rw[if_neg Bool.false_ne_true]at q8;exact over I8 hD8 (RPs.ext e68 _ _ racc) (wH eX hD hkD e68) ok8 (rs7.ext e8) q8
   | true =>
    rw[if_pos rfl]at q8;refine bA (he cl _ s₂ H2 pins fp _ s8 σ7 H8 (fun v H9=>∃ p m9,RP X.K (bU Z s₂.heap.objs.size) m9 H9 p v/\Ext X.K (bU Z s₂.heap.objs.size) m8 H8 m9 H9/\Ok X.K (bU Z s₂.heap.objs.size) m9 H9/\acc.length<sizeLine/\bD g t f (xs.drop (i+1)) (acc++[p]) d7 m9 RL) I8
     ⟨_,d7,m8,_,ok8,rs7.ext e8,q8,fun y m9 v H9 hq1 e9 ok9 r9=>by
      obtain⟨p,ey,hz,q9⟩:=hq1;subst ey;exact⟨p,m9,r9,e9,ok9,hz,q9⟩⟩) fun yv s9 hq0=>?_
    obtain⟨y,H9,I9,ry,p,m9,rp9,e9,ok9,hz,q9⟩:=hq0;have e69:=e68.trans e9
    have hD9:H9 s₂.heap.objs.size=some (.lst ys):=(e69.z _ (.inr rfl)).trans hDy
    have racc9:=RPs.ext e69 _ _ racc
    have rs9:=(rs7.ext e8).ext e9
    refine bA (Ga _ s9 σ7 H9 (.ref s₂.heap.objs.size) [y] (.ref s₂.heap.objs.size) [yv] (fun v H10=>H10=upd H9 s₂.heap.objs.size (.lst (ys++[y]))) I9 rfl (.cons ry .nil) ⟨_,ys,y,rfl,rfl,hD9,by rw[racc9.length];exact hz,rfl⟩) fun rv s10 hq0=>?_
    obtain⟨v10,H10,I10,_,e10⟩:=hq0;subst e10;refine over I10 cX ?_ (X1 (wH eX hD hkD e69) ok1 hD hkD hD9) (S7 ok9 hD9) ⟨rs9.1,fun j z hj=>?_⟩ q9
    ·exact RPs.tr (pG hD9) zU _ _ (racc9.append (by simp only[RPs];exact⟨y,[],rfl,rp9,rfl⟩))
    ·obtain⟨v,a1,a2⟩:=rs9.2 j z hj;exact⟨v,a1,Zl hD9 a2⟩
  ·have e:i=xs.length:=by omega
   subst e;rw[List.drop_length]at lp5;refine bA (T.done (bJ X scope cl HP.objs.size NC s₂ H2 pins fp) rfl rfl rfl hc _ [] s4 σ' H' (fun _ _=>False) I5 stat st5 y2) fun r s5 hq0=>?_;obtain⟨hr,I6⟩:=hq0;subst hr;have IX:=GH I2 f2 I6 leC (Heap.SameBut.refl _ _)
   have nz:¬ Z s₂.heap.objs.size:=fun z=>(ok1.z _ z).2 hD
   refine fin s5 HP.objs.size s₂.heap.objs.size H' m' acc lp5 (e1.trans eX) (Wa ok5) ?_ ⟨_,I6.loc.choose_spec.1⟩ IX ⟨I6.free,Nat.ne_of_gt (Nat.lt_of_lt_of_le I2.lt leC),Nat.le_trans I2.sz leC,fun x c e=>?_,fun p hp=>?_⟩ ⟨(ok5.z _ (.inr rfl)).1,?_,?_⟩
   ·simp only[RD,RP];exact⟨_,ys,rfl,⟨(ok5.z _ (.inr rfl)).1,nz⟩,.inl (.inl hDy),RPs.tr (fun _ _ q=>q) (fun a vs q1 q2=>⟨⟨q1.1,fun z=>q1.2 (.inl z)⟩,q2⟩) _ _ racc⟩
   ·obtain⟨v,q⟩:=I2.cell x c e;exact Nat.ne_of_lt (Nat.lt_of_lt_of_le q.lt leC)
   ·exact Nat.ne_of_lt (Nat.lt_of_lt_of_le (Heap.lt_size (I2.pin p hp).1) leC)
   ·refine⟨fun a vs q=>(e1.trans eX).t a vs q,fun a vs q1 q2=>?_,fun a q=>(e1.trans eX).z a q,fun a q=>?_,(e1.trans eX).fz,fun a q=>?_⟩
    ·obtain⟨_,q3⟩:=e1.l a vs q1 q2;have ne:=SqL.ne hD hkD q3
     obtain⟨q4,q5⟩:=(e1.trans eX).l a vs q1 q2;exact⟨by rw[bM ne];exact q4,q5⟩
    ·by_cases ea:a=s₂.heap.objs.size
     ·subst ea;rw[bF];rfl
     ·rw[bM ea];exact(e1.trans eX).c a q
    ·have fq:=(e1.trans eX).fm a q
     have ne:a≠s₂.heap.objs.size:=by
      rintro rfl;rw[(ok5.z _ (.inr rfl)).1]at fq;rw[<- fq]at q
      cases q
     rw[bM ne];exact fq
   ·have tr:∀ (a:Addr) (vs:List V),(m' a=none/\¬ bU Z s₂.heap.objs.size a)->SqL X.K H' a vs->(aY m' s₂.heap.objs.size (.l acc) a=none/\¬ Z a)/\SqL X.K H' a vs:=fun a vs q1 q2=>⟨⟨by rw[bM fun z=>q1.2 (.inr z)];exact q1.1,fun z=>q1.2 (.inl z)⟩,q2⟩
    refine⟨fun a c q=>?_,fun a q=>?_⟩
    ·by_cases ea:a=s₂.heap.objs.size
     ·subst ea;rw[bF]at q
      cases q
      exact⟨_,hDy,RPs.tr (fun _ _ q=>q) tr _ _ racc⟩
     ·rw[bM ea]at q;obtain⟨o,q1,q2⟩:=ok5.g a c q;exact⟨o,q1,q2.lift fun p v q3=>RP.tr (fun _ _ q=>q) tr p v q3⟩
    ·have ne:a≠s₂.heap.objs.size:=fun z=>nz (z▸q)
     obtain⟨q1,q2⟩:=ok5.z a (.inl q);exact⟨by rw[bM ne];exact q1,q2⟩
 exact codeAny_compStart_list (loop _ rfl) (T.self _ 0 _ _ _ st4 (loop _ rfl))
theorem uR(src:List (Option Nat))(hc:X.calm=true)(hi:PI X tg iter (LI X.K fi))
  (hg:∀ cl C s2 H2 pins fp,PG (bJ X scope cl C NC s2 H2 pins fp) tg (LG X.K g)) (ht:∀ cl C s2 H2 pins fp,PF (bJ X scope cl C NC s2 H2 pins fp) ifs (LT X.K t)) (he:∀ cl C s2 H2 pins fp,PE (bJ X scope cl C NC s2 H2 pins fp) elt (LE X.K f))
  (hkind:scope.kind=.function) (hcell:∀ y∈scope.names,y.2≠.cell) (hnames:∀ y∈scope.names,y.2=.local->scope.names.lookup y.1=some .local)
  (hfree:∀ x,(x,NameKind.free)∈scope.names->X.env.kindOf x=some .cell\/X.env.kindOf x=some .free) (hsrc:mX X scope NC src)
  (hs:∀ x,foldedSetIterable iter X.env x=pure x) {use:Option (Value->Sem Unit)} {QQ:Value->Shared->Prop} {pos':Pos} {pins:List (Addr×Obj)} {s:Shared} {σ:L2.St} {H:Hp} {Z:Addr->Prop} {d:bO} {m:Mu} {RL:List PyData->Mu->Prop}
  (I:Inv X pins σ H s) (ok:Ok X.K Z m H) (rs:RS X.K Z m H d σ) (h:fi d m fun xs m1=>bD g t f xs [] (bT src d) m1 RL)
  (fin:∀ (s5:Shared) (C D:Addr) (H':Hp) (m':Mu) (ps:List PyData),RL ps m'->Ext X.K Z m H m' H'->Ok X.K Z m' H'->RD X.K Z m' H' (.dat (.list ps)) (.ref D)->(∃ mm,s5.heap.Ns C mm)->Inv X pins σ H' s5->Off X pins H' C->(m' D=none/\Ext X.K Z m H (aY m' D (.l ps)) H'/\Ok X.K Z (aY m' D (.l ps)) H') ->
   compPost (model X.prog X.w) X.A X.xe use QQ (.ref D) C (.ok .next) s5) :
  wpAny (model X.prog X.w) X.A (comprehension (.ListComp elt [⟨tg,iter,ifs,0⟩] scope pos) scope X.env pos' (newList []) false (eval iter X.env) use) QQ X.xe s :=
 Mp src hc hi hg ht he hkind hcell hnames hfree hsrc hs I ok rs ⟨Z,d,m,_,ok,rs,h,fun xs m1 H1 J q e1 ok1 y1=>⟨xs,m1,e1,ok1,fun m2 H2 e=>y1 m2 H2 e.y,q⟩⟩ fin
theorem Xg(src:List (Option Nat))(hc:X.calm=true)(hi:PI X tg iter (LI X.K fi))
  (hg:∀ cl C s2 H2 pins fp,PG (bJ X scope cl C NC s2 H2 pins fp) tg (LG X.K g)) (ht:∀ cl C s2 H2 pins fp,PF (bJ X scope cl C NC s2 H2 pins fp) ifs (LT X.K t)) (he:∀ cl C s2 H2 pins fp,PE (bJ X scope cl C NC s2 H2 pins fp) elt (LE X.K f))
  (hkind:scope.kind=.function) (hcell:∀ y∈scope.names,y.2≠.cell) (hnames:∀ y∈scope.names,y.2=.local->scope.names.lookup y.1=some .local)
  (hfree:∀ x,(x,NameKind.free)∈scope.names->X.env.kindOf x=some .cell\/X.env.kindOf x=some .free) (hsrc:mX X scope NC src)
  (hs:∀ x,foldedSetIterable iter X.env x=pure x:=by intro _;rfl) :
  PE X (.ListComp elt [⟨tg,iter,ifs,0⟩] scope pos) (LE X.K (cS src fi g t f)):=by
 intro pins s σ H Q I h;obtain⟨Z,d,m,R,ok,rs,h,k⟩:=h;rw[eval_ListComp];refine uR src hc hi hg ht he hkind hcell hnames hfree hsrc hs (use:=none) (QQ:=EP X pins σ Q) (RL:=fun ps m2=>R (.dat (.list ps)) m2) I ok rs h ?_;intro s5 C D H' m' ps q e ok' rd ⟨mm,hns⟩ I5 off hcl;exact⟨mm,hns,fun h' hs'=>⟨.ref D,H',off.inv I5 hs',rfl,k _ m' _ H' q e ok' rd⟩⟩
@[simp] def jW(src:List (Option Nat))(fi:DI)(g:DG)(t:DT)(f:DE):DE:=fun d m Q=>fi d m fun xs m1=>bD g t f xs [] (bT src d) m1 fun ps m2=>∀ a,m2 a=none->Q (.cel a) (aY m2 a (.l ps))
theorem P5(src:List (Option Nat))(hc:X.calm=true)(hi:PI X tg iter (LI X.K fi))
  (hg:∀ cl C s2 H2 pins fp,PG (bJ X scope cl C NC s2 H2 pins fp) tg (LG X.K g)) (ht:∀ cl C s2 H2 pins fp,PF (bJ X scope cl C NC s2 H2 pins fp) ifs (LT X.K t)) (he:∀ cl C s2 H2 pins fp,PE (bJ X scope cl C NC s2 H2 pins fp) elt (LE X.K f))
  (hkind:scope.kind=.function) (hcell:∀ y∈scope.names,y.2≠.cell) (hnames:∀ y∈scope.names,y.2=.local->scope.names.lookup y.1=some .local)
  (hfree:∀ x,(x,NameKind.free)∈scope.names->X.env.kindOf x=some .cell\/X.env.kindOf x=some .free) (hsrc:mX X scope NC src)
  (hs:∀ x,foldedSetIterable iter X.env x=pure x:=by intro _;rfl) :
  PE X (.ListComp elt [⟨tg,iter,ifs,0⟩] scope pos) (LE X.K (jW src fi g t f)):=by
 intro pins s σ H Q I h;obtain⟨Z,d,m,R,ok,rs,h,k⟩:=h;rw[eval_ListComp];refine uR src hc hi hg ht he hkind hcell hnames hfree hsrc hs (use:=none) (QQ:=EP X pins σ Q) (RL:=fun ps m2=>∀ a,m2 a=none->R (.cel a) (aY m2 a (.l ps))) I ok rs h ?_;intro s5 C D H' m' ps q e ok' rd ⟨mm,hns⟩ I5 off hcl;exact⟨mm,hns,fun h' hs'=>⟨.ref D,H',off.inv I5 hs',rfl,k _ _ _ H' (q D hcl.1) hcl.2.1 hcl.2.2 ⟨rfl,by rw[bF];rfl⟩⟩⟩
theorem j9(i:Nat){y:Str}{py spos:Pos}(src:List (Option Nat))(hc:X.calm=true)(hi:PI X tg iter (LI X.K fi))
  (hg:∀ cl C s2 H2 pins fp,PG (bJ X scope cl C NC s2 H2 pins fp) tg (LG X.K g)) (ht:∀ cl C s2 H2 pins fp,PF (bJ X scope cl C NC s2 H2 pins fp) ifs (LT X.K t)) (he:∀ cl C s2 H2 pins fp,PE (bJ X scope cl C NC s2 H2 pins fp) elt (LE X.K f))
  (hkind:scope.kind=.function) (hcell:∀ y∈scope.names,y.2≠.cell) (hnames:∀ y∈scope.names,y.2=.local->scope.names.lookup y.1=some .local)
  (hfree:∀ x,(x,NameKind.free)∈scope.names->X.env.kindOf x=some .cell\/X.env.kindOf x=some .free) (hsrc:mX X scope NC src)
  (hN:X.N.Nodup) (hi2:X.N[i]?=some y:=by rfl) (hx:gG X.env.scope y:=by first | exact Or.inl rfl | exact Or.inr rfl) (hf:X.fn y=true\/X.env.scope.names.lookup y=some .local:=by first | exact .inl rfl | exact .inr rfl)
  (hsw:swapsWith (.ListComp elt [⟨tg,iter,ifs,0⟩] scope pos) (some (.Name y py)) spos.line X.env=pure true:=by rfl)
  (hs:∀ x,foldedSetIterable iter X.env x=pure x:=by intro _;rfl) :
  PS X (.Assign [.Name y py] (.ListComp elt [⟨tg,iter,ifs,0⟩] scope pos) spos) (LS X.K (aO i (cS src fi g t f))):=by
 intro pins s σ H E I h;obtain⟨Z,d,m,R,ok,rs,h,k,_⟩:=h;rw[exec_Assign_Name_used _ _ _ _ hsw];refine wpAny_bind (wpAny_standAt (wpAny_bind ?_));rw[arm_evalThenUse_ListComp];refine wpAny_bind ?_;refine bA (uR src hc hi hg ht he hkind hcell hnames hfree hsrc hs (use:=some (assign (.Name y py) X.env)) (QQ:=fun _ s'=>SP X pins E .next s') (RL:=fun ps m2=>R.nx (d.set i (some (.dat (.list ps)))) m2) I ok rs h ?_) (fun _ s' q=>wpAny_pure (wpAny_pure q));intro s5 C D H' m' ps q e ok' rd ⟨mm,hns⟩ I5 off hcl;show wpAny _ X.A (assign (.Name y py) X.env (.ref D)) _ _ s5
 refine wpAny_assign_Name (wE I5 hN hi2 hx (v:=.ref D) rfl (fun s6 I6 ⟨a,hs6,ha⟩=>?_) hf);have ne:C≠a:=by
  rcases ha with rfl | ha
  ·exact off.l
  ·exact Ne.symm (off.c _ _ ha)
 refine⟨mm,hns.sameBut hs6 ne,fun h' hs'=>?_⟩;exact⟨_,H',off.inv I6 hs',k _ m' _ H' q e ok' ((rs.ext e).set rd)⟩
end
end DL
namespace DL
open PySem PySem.Spec PyProof.Rows L2
section
variable {prog:Program}{w:World}{A:Around}{E:Value->Shared->Prop}{s:Shared}
def IsRv(h:Heap)(a t:Addr)(i:Int):Prop:=∃ o,h.get? a=some o/\o.cls=.type "reversed"/\o.data=.fields #[.ref t,rawInt i]
theorem IsRv.typeIs{a t:Addr}{i:Int}(x:IsRv s.heap a t i):s.TypeIs (.ref a) "reversed":=let ⟨o,ho,hc,_⟩:=x;⟨o,ho,hc⟩
end
end DL
namespace DL
open PySem PySem.Spec PyProof.Rows L2
theorem Qp(l:Addr)(items:Array Value)(x:Value)(e:Value->Bool)(j:Nat)(hj:j<items.size)(hit:e items[j]=true)(hno:∀ m (hm:m<items.size),m<j->e items[m]=false) :
  Meets (Builtin.«tuple.index» ⟨[.ref l,x],[]⟩) (fun A R s=>IsTup s.heap l items/\(∀ y,y∈items->SeqAt.EqAt A.in1 s y x (e y))/\R (.ok (.ret (.int j s.toks))) {s with toks:=s.toks+1}) :=
 .of_wp fun prog w A R s h=>by
  obtain⟨ht,he,h⟩:=h;unfold Builtin.«tuple.index»;refine wpAny_bind (wpAny_of_eq (a:=(Value.ref l,[x])) rfl ?_)
  try dsimp only
  refine wpAny_bind (tupleItemsOf_ ht ?_)
  try dsimp only
  refine wpAny_bind (wpAny_pure (wpAny_bind (wpAny_pure ?_)));rw[Nat.min_self,Std.Legacy.Range.forIn_eq_forIn_range'];refine wpAny_bind (wpAny_forIn_list _ (fun rest b s'=>s'=s/\∃ k,k<=j/\rest=List.range' k (items.size-k)) _ ?_ ?_ _ _ ?_)
  ·rintro i rest b s' ⟨rfl,k,hk,hr⟩;have hlt:k<items.size:=by omega
   obtain⟨n,hn⟩:∃ n,items.size-k=n+1:=⟨items.size-k-1,by omega⟩
   rw[hn,List.range'_succ]at hr;obtain⟨rfl,rfl⟩:=List.cons.inj hr;have hx:items[i]?=some items[i]:=Array.getElem?_eq_getElem hlt
   simp only[hx];refine wpAny_bind (he _ (Array.getElem_mem hlt) prog w _ _ ?_)
   by_cases hij:i=j
   ·subst hij;rw[hit];exact wpAny_bind (wpAny_bind (wpAny_mkInt (wpAny_pure (wpAny_pure (wpAny_pure ⟨_,rfl,h⟩)))))
   ·rw[hno i hlt (by omega)]
    exact wpAny_pure ⟨rfl,i+1,by omega,by congr 1;omega⟩
  ·rintro b s' ⟨rfl,k,hk,hr⟩;have:=congrArg List.length hr
   rw[List.length_range']at this;simp at this;omega
  ·exact⟨rfl,0,Nat.zero_le _,by simp[Std.Legacy.Range.size]⟩
theorem yQ:∀ {zs:List Str} {us:List Value},Vals (zs.map V.str) us->∀ i (h:i<us.length) (h2:i<zs.length),∃ t,us[i]=.str zs[i] t
 | [],_,.nil,i,h,_=>absurd h (Nat.not_lt_zero _)
 | z::zs,_,.cons r t,0,_,_=>let ⟨k,e⟩:=r;⟨k,e⟩
 | z::zs,_,.cons r t,i+1,h,h2=>yQ t i (Nat.lt_of_succ_lt_succ h) (Nat.lt_of_succ_lt_succ h2)
theorem Al{y:Str}:∀ (zs:List Str) (m:Nat) (h:m<zs.length),m<zs.idxOf y->zs[m]≠y
 | [],_,h,_=>absurd h (Nat.not_lt_zero _)
 | z::zs,0,_,h=>by
  intro e;rw[List.getElem_cons_zero]at e;rw[e,List.idxOf_cons_self]at h;exact absurd h (Nat.lt_irrefl _)
 | z::zs,m+1,hl,h=>by
  rw[List.getElem_cons_succ];refine Al zs m (Nat.lt_of_succ_lt_succ hl) ?_;rw[List.idxOf_cons]at h
  cases e:z==y with
  | true=>simp[e]at h
  | false=>simp[e]at h;omega
section
variable {X:Cx}{a e o:Expr}{es:List Expr}{f g:DE}{ga:DA}{pos p p1 p2:Pos}
def Xr(K:PySem.W.Frag):V->List V->Hp->VK->Prop:=fun x xs H Q=>∃ (a:Addr) (y:Str) (zs:List Str),x=.ref a/\xs=[.str y]/\SqT K H a (zs.map V.str)/\y∈zs/\Q (.int (zs.idxOf y:Nat)) H
theorem Y3:MtR X "tuple.index" (Xr X.K):=by
 intro pins s σ H x xs v us Q I rx rs ⟨a,y,zs,e1,e2,hq,hk,q⟩;subst e1 e2
 cases rx
 obtain⟨u,rfl,ru⟩:=fP rs;obtain⟨tk,rfl⟩:=id ru;obtain⟨its,rv,p,hz⟩:=I.tuple hq;have hl:=rv.length
 rw[List.length_map]at hl;have hj:zs.idxOf y<zs.length:=List.idxOf_lt_length_iff.mpr hk
 have hit:∀ m (hm:m<its.toArray.size) (hm2:m<zs.length),eU (.str y) its.toArray[m]=(zs[m]==y):=fun m hm hm2=>by
  obtain⟨t,e⟩:=yQ rv m (by simpa using hm) hm2
  have e':its.toArray[m]=.str zs[m] t:=by simpa using e
  rw[e'];rfl
 have hfl:(zs.map V.str).all gE=true:=by
  rw[List.all_eq_true];intro v hv;obtain⟨z,_,rfl⟩:=List.mem_map.mp hv;rfl
 refine call_meets PySem.F.slot_tuple_index p.typeIs PySem.F.entry_tuple_index (PySem.F.args_tuple_index_2 _ _) (Qp a its.toArray (.str y tk) (eU (.str y)) (zs.idxOf y) (by rw[List.size_toArray];omega) ?_ ?_) ⟨p,?_,?_⟩
 ·rw[hit _ _ hj,List.getElem_idxOf hj];simp
 ·intro m hm hlt;have hm2:m<zs.length:=by omega
  rw[hit m hm hm2];simp only[beq_eq_false_iff_ne];exact Al _ _ hm2 hlt
 ·exact fun w hw=>mS (x:=.str y) ⟨tk,rfl⟩ rfl rv hfl w (by simpa using hw)
 ·exact⟨.int _,H,I.tok _,⟨_,rfl⟩,q⟩
theorem jA{K:PySem.W.Frag}{Z:Addr->Prop}{m:Mu}{H:Hp}:∀ {zs:List Str} {vs:List V},RPs K Z m H (zs.map PyData.str) vs->vs=zs.map V.str
 | [],vs,h=>by simpa[RPs] using h
 | z::zs,vs,h=>by
  simp only[List.map_cons,RPs]at h;obtain⟨v,r,rfl,h1,h2⟩:=h;simp only[RP]at h1;subst h1;rw[jA h2];rfl
theorem Dk{K:PySem.W.Frag}{Z:Addr->Prop}{m:Mu}{H:Hp}:∀ (zs:List Str),RPs K Z m H (zs.map PyData.str) (zs.map V.str)
 | []=>by simp[RPs]
 | z::zs=>by
  simp only[List.map_cons,RPs];exact⟨_,_,rfl,by simp only[RP],Dk zs⟩
def KT(K:PySem.W.Frag)(a:Addr)(zs:List Str):Prop:=∃ (o:Obj) (its:Array Value) (n:Nat),K.lookup a=some o/\o.cls=.type "tuple"/\o.dict=none/\o.data=.seq its n/\its.size<=sizeLine/\Vals (zs.map V.str) its.toList
theorem KT.sq{K:PySem.W.Frag}{a:Addr}{zs:List Str}{H:Hp}(h:KT K a zs):SqT K H a (zs.map V.str):=by
 obtain⟨o,its,n,h1,h2,h3,h4,h5,h6⟩:=h;exact .inr ⟨o,its,n,h1,⟨h2,h3⟩,h4,h5,h6⟩
@[simp] def nC:D2
 | .dat (.str x),.dat (.list ys),m,Q=>∃ zs:List Str,ys=zs.map .str/\Q (.dat (.bool (decide (x∈zs)))) m
 | .dat (.str x),.dat (.tuple ys),m,Q=>∃ zs:List Str,ys=zs.map .str/\Q (.dat (.bool (decide (x∈zs)))) m
 | .dat (.bool x),.dat (.list ys),m,Q=>∃ zs:List Bool,ys=zs.map .bool/\Q (.dat (.bool (decide (x∈zs)))) m
 | .dat (.bool x),.dat (.tuple ys),m,Q=>∃ zs:List Bool,ys=zs.map .bool/\Q (.dat (.bool (decide (x∈zs)))) m
 | .dat (.int x),.dat (.list ys),m,Q=>∃ zs:List Int,ys=zs.map .int/\Q (.dat (.bool (decide (x∈zs)))) m
 | .dat (.int x),.dat (.tuple ys),m,Q=>∃ zs:List Int,ys=zs.map .int/\Q (.dat (.bool (decide (x∈zs)))) m
 | _,_,_,_=>False
@[simp] def tV:D2
 | .dat (.str x),.dat (.list ys),m,Q=>∃ zs:List Str,ys=zs.map .str/\Q (.dat (.bool (!decide (x∈zs)))) m
 | .dat (.str x),.dat (.tuple ys),m,Q=>∃ zs:List Str,ys=zs.map .str/\Q (.dat (.bool (!decide (x∈zs)))) m
 | .dat (.bool x),.dat (.list ys),m,Q=>∃ zs:List Bool,ys=zs.map .bool/\Q (.dat (.bool (!decide (x∈zs)))) m
 | .dat (.bool x),.dat (.tuple ys),m,Q=>∃ zs:List Bool,ys=zs.map .bool/\Q (.dat (.bool (!decide (x∈zs)))) m
 | .dat (.int x),.dat (.list ys),m,Q=>∃ zs:List Int,ys=zs.map .int/\Q (.dat (.bool (!decide (x∈zs)))) m
 | .dat (.int x),.dat (.tuple ys),m,Q=>∃ zs:List Int,ys=zs.map .int/\Q (.dat (.bool (!decide (x∈zs)))) m
 | _,_,_,_=>False
theorem pF(x:Str):∀ zs:List Str,lA (.str x) (zs.map V.str)=decide (x∈zs)
 | []=>rfl
 | z::zs=>by
  have ih:=pF x zs
  unfold lA at ih ⊢;rw[List.map_cons,List.any_cons,ih];show(z==x||decide (x∈zs))=decide (x∈z::zs)
  rw[Bool.eq_iff_iff];simp only[Bool.or_eq_true,beq_iff_eq,decide_eq_true_eq,List.mem_cons];exact⟨fun h=>h.imp Eq.symm id,fun h=>h.imp Eq.symm id⟩
theorem vC(zs:List Str):(zs.map V.str).all gE=true:=by
 rw[List.all_eq_true];intro v hv;obtain⟨z,_,rfl⟩:=List.mem_map.mp hv;rfl
theorem rM(x:Bool):∀ zs:List Bool,lA (.bl x) (zs.map V.bl)=decide (x∈zs)
 | []=>rfl
 | z::zs=>by
  have ih:=rM x zs
  unfold lA at ih ⊢;rw[List.map_cons,List.any_cons,ih];show(z==x||decide (x∈zs))=decide (x∈z::zs)
  rw[Bool.eq_iff_iff];simp only[Bool.or_eq_true,beq_iff_eq,decide_eq_true_eq,List.mem_cons];exact⟨fun h=>h.imp Eq.symm id,fun h=>h.imp Eq.symm id⟩
theorem vR(zs:List Bool):(zs.map V.bl).all gE=true:=by
 rw[List.all_eq_true];intro v hv;obtain⟨z,_,rfl⟩:=List.mem_map.mp hv;rfl
theorem rV{K:PySem.W.Frag}{Z:Addr->Prop}{m:Mu}{H:Hp}:∀ {zs:List Bool} {vs:List V},RPs K Z m H (zs.map PyData.bool) vs->vs=zs.map V.bl
 | [],vs,h=>by simpa[RPs] using h
 | z::zs,vs,h=>by
  simp only[List.map_cons,RPs]at h;obtain⟨v,r,rfl,h1,h2⟩:=h;simp only[RP]at h1;subst h1;rw[rV h2];rfl
theorem rD(x:Int):∀ zs:List Int,lA (.int x) (zs.map V.int)=decide (x∈zs)
 | []=>rfl
 | z::zs=>by
  have ih:=rD x zs
  unfold lA at ih ⊢;rw[List.map_cons,List.any_cons,ih];show(z==x||decide (x∈zs))=decide (x∈z::zs)
  rw[Bool.eq_iff_iff];simp only[Bool.or_eq_true,beq_iff_eq,decide_eq_true_eq,List.mem_cons];exact⟨fun h=>h.imp Eq.symm id,fun h=>h.imp Eq.symm id⟩
theorem vB(zs:List Int):(zs.map V.int).all gE=true:=by
 rw[List.all_eq_true];intro v hv;obtain⟨z,_,rfl⟩:=List.mem_map.mp hv;rfl
theorem rP{K:PySem.W.Frag}{Z:Addr->Prop}{m:Mu}{H:Hp}:∀ {zs:List Int} {vs:List V},RPs K Z m H (zs.map PyData.int) vs->vs=zs.map V.int
 | [],vs,h=>by simpa[RPs] using h
 | z::zs,vs,h=>by
  simp only[List.map_cons,RPs]at h;obtain⟨v,r,rfl,h1,h2⟩:=h;simp only[RP]at h1;subst h1;rw[rP h2];rfl
theorem vA:dO X (compareOp .In) nC:=by
 intro pins s σ H Z m x y dx dy v u R Q I ok rx ry r1 r2 h k;unfold nC at h
 split at h
 ·obtain⟨zs,rfl,q⟩:=h
  cases r1.str
  simp only[RD,RP]at r2;obtain⟨a,vs,rfl,_,h1,h2⟩:=r2
  cases jA h2
  refine oR pins s σ H _ _ v u Q I rx ry ⟨a,_,rfl,.inl h1,rfl,vC zs,?_⟩;rw[if_neg Bool.false_ne_true,pF];exact k _ m _ H q Ext.refl ok .ofBl
 ·obtain⟨zs,rfl,q⟩:=h
  cases r1.str
  simp only[RD,RP]at r2;obtain⟨a,vs,rfl,h1,h2⟩:=r2
  cases jA h2
  refine oR pins s σ H _ _ v u Q I rx ry ⟨a,_,rfl,.inr h1,rfl,vC zs,?_⟩;rw[if_neg Bool.false_ne_true,pF];exact k _ m _ H q Ext.refl ok .ofBl
 ·obtain⟨zs,rfl,q⟩:=h
  cases r1.bl
  simp only[RD,RP]at r2;obtain⟨a,vs,rfl,_,h1,h2⟩:=r2
  cases rV h2
  refine oR pins s σ H _ _ v u Q I rx ry ⟨a,_,rfl,.inl h1,rfl,vR zs,?_⟩;rw[if_neg Bool.false_ne_true,rM];exact k _ m _ H q Ext.refl ok .ofBl
 ·obtain⟨zs,rfl,q⟩:=h
  cases r1.bl
  simp only[RD,RP]at r2;obtain⟨a,vs,rfl,h1,h2⟩:=r2
  cases rV h2
  refine oR pins s σ H _ _ v u Q I rx ry ⟨a,_,rfl,.inr h1,rfl,vR zs,?_⟩;rw[if_neg Bool.false_ne_true,rM];exact k _ m _ H q Ext.refl ok .ofBl
 ·obtain⟨zs,rfl,q⟩:=h
  cases r1.int
  simp only[RD,RP]at r2;obtain⟨a,vs,rfl,_,h1,h2⟩:=r2
  cases rP h2
  refine oR pins s σ H _ _ v u Q I rx ry ⟨a,_,rfl,.inl h1,rfl,vB zs,?_⟩;rw[if_neg Bool.false_ne_true,rD];exact k _ m _ H q Ext.refl ok .ofBl
 ·obtain⟨zs,rfl,q⟩:=h
  cases r1.int
  simp only[RD,RP]at r2;obtain⟨a,vs,rfl,h1,h2⟩:=r2
  cases rP h2
  refine oR pins s σ H _ _ v u Q I rx ry ⟨a,_,rfl,.inr h1,rfl,vB zs,?_⟩;rw[if_neg Bool.false_ne_true,rD];exact k _ m _ H q Ext.refl ok .ofBl
 ·exact h.elim
theorem Gn:dO X (compareOp .NotIn) tV:=by
 intro pins s σ H Z m x y dx dy v u R Q I ok rx ry r1 r2 h k;unfold tV at h
 split at h
 ·obtain⟨zs,rfl,q⟩:=h
  cases r1.str
  simp only[RD,RP]at r2;obtain⟨a,vs,rfl,_,h1,h2⟩:=r2
  cases jA h2
  refine oU pins s σ H _ _ v u Q I rx ry ⟨a,_,rfl,.inl h1,rfl,vC zs,?_⟩;rw[if_pos rfl,pF];exact k _ m _ H q Ext.refl ok .ofBl
 ·obtain⟨zs,rfl,q⟩:=h
  cases r1.str
  simp only[RD,RP]at r2;obtain⟨a,vs,rfl,h1,h2⟩:=r2
  cases jA h2
  refine oU pins s σ H _ _ v u Q I rx ry ⟨a,_,rfl,.inr h1,rfl,vC zs,?_⟩;rw[if_pos rfl,pF];exact k _ m _ H q Ext.refl ok .ofBl
 ·obtain⟨zs,rfl,q⟩:=h
  cases r1.bl
  simp only[RD,RP]at r2;obtain⟨a,vs,rfl,_,h1,h2⟩:=r2
  cases rV h2
  refine oU pins s σ H _ _ v u Q I rx ry ⟨a,_,rfl,.inl h1,rfl,vR zs,?_⟩;rw[if_pos rfl,rM];exact k _ m _ H q Ext.refl ok .ofBl
 ·obtain⟨zs,rfl,q⟩:=h
  cases r1.bl
  simp only[RD,RP]at r2;obtain⟨a,vs,rfl,h1,h2⟩:=r2
  cases rV h2
  refine oU pins s σ H _ _ v u Q I rx ry ⟨a,_,rfl,.inr h1,rfl,vR zs,?_⟩;rw[if_pos rfl,rM];exact k _ m _ H q Ext.refl ok .ofBl
 ·obtain⟨zs,rfl,q⟩:=h
  cases r1.int
  simp only[RD,RP]at r2;obtain⟨a,vs,rfl,_,h1,h2⟩:=r2
  cases rP h2
  refine oU pins s σ H _ _ v u Q I rx ry ⟨a,_,rfl,.inl h1,rfl,vB zs,?_⟩;rw[if_pos rfl,rD];exact k _ m _ H q Ext.refl ok .ofBl
 ·obtain⟨zs,rfl,q⟩:=h
  cases r1.int
  simp only[RD,RP]at r2;obtain⟨a,vs,rfl,h1,h2⟩:=r2
  cases rP h2
  refine oU pins s σ H _ _ v u Q I rx ry ⟨a,_,rfl,.inr h1,rfl,vB zs,?_⟩;rw[if_pos rfl,rD];exact k _ m _ H q Ext.refl ok .ofBl
 ·exact h.elim
@[simp] def dX:DC
 | [.dat (.tuple xs)],m,Q=>Q (.dat (.tuple xs)) m
 | [.dat (.list xs)],m,Q=>Q (.dat (.tuple xs)) m
 | [.cel c],m,Q=>∃ xs,m c=some (.l xs)/\Q (.dat (.tuple xs)) m
 | _,_,_=>False
theorem eF:CallD X (.type "tuple") dX:=by
 intro pins s σ H Z m xs ds us R Q I ok rv rd h k;unfold dX at h
 split at h
 ·obtain⟨v,rfl,r1⟩:=rd.one;have r0:=r1
  simp only[RD,RP]at r1;obtain⟨a,vs,rfl,h1,h2⟩:=r1;exact Au pins s σ H _ us Q I rv ⟨a,vs,rfl,.inr ⟨h1,k _ m _ H h Ext.refl ok r0⟩⟩
 ·obtain⟨v,rfl,r1⟩:=rd.one;simp only[RD,RP]at r1;obtain⟨a,vs,rfl,_,h1,h2⟩:=r1;refine Au pins s σ H _ us Q I rv ⟨a,vs,rfl,.inl ⟨h1,fun l hl=>?_⟩⟩;have sm:Same H (upd H l (.tup vs)):=cU hl
  refine k _ m _ _ h (ok.ext sm) (ok.grow sm) ?_;simp only[RD,RP];exact⟨l,vs,rfl,.inl (.inl cX),RPs.ext (ok.ext sm) _ _ h2⟩
 ·obtain⟨v,rfl,r1⟩:=rd.one;obtain⟨rfl,_⟩:=r1;obtain⟨ys,hm,q⟩:=h;obtain⟨vs,h1,h2⟩:=ok.l hm;refine Au pins s σ H _ us Q I rv ⟨_,vs,rfl,.inl ⟨.inl (.inl h1),fun l hl=>?_⟩⟩;have sm:Same H (upd H l (.tup vs)):=cU hl
  refine k _ m _ _ q (ok.ext sm) (ok.grow sm) ?_;simp only[RD,RP];exact⟨l,vs,rfl,.inl (.inl cX),RPs.ext (ok.ext sm) _ _ h2⟩
 ·exact h.elim
end
end DL
namespace DL
open PySem PySem.Spec PyProof.Rows L2
def chkB(scope:Scope)(env:Env):Bool:=scope.names.all fun y=>(decide (y.2≠.cell))&&(!decide (y.2=.local)||decide (scope.names.lookup y.1=some .local))&&(!decide (y.2=.free)||decide (env.kindOf y.1=some .cell)||decide (env.kindOf y.1=some .free))
def chkS(N:List Str)(scope:Scope)(env:Env):List Str->List (Option Nat)->Bool
 | [],[]=>true
 | x::xs,o::os=>(match o with | none=>true | some j=>decide (N[j]?=some x)&&decide ((x,NameKind.free)∈scope.names)&&(decide ((relabel scope env).names.lookup x=some .cell)||decide ((relabel scope env).names.lookup x=some .free)))&&chkS N scope env xs os
 | _,_=>false
theorem chkB.ok{scope:Scope}{env:Env}(h:chkB scope env=true):(∀ y∈scope.names,y.2≠.cell)/\(∀ y∈scope.names,y.2=.local->scope.names.lookup y.1=some .local)/\∀ x,(x,NameKind.free)∈scope.names->env.kindOf x=some .cell\/env.kindOf x=some .free:=by
 unfold chkB at h;rw[List.all_eq_true]at h;have q:∀ y∈scope.names,y.2≠.cell/\(y.2=.local->scope.names.lookup y.1=some .local)/\(y.2=.free->env.kindOf y.1=some .cell\/env.kindOf y.1=some .free):=fun y hy=>by
  have:=h y hy
  simp only[Bool.and_eq_true,Bool.or_eq_true,Bool.not_eq_true',decide_eq_true_eq,decide_eq_false_iff_not]at this;obtain⟨⟨a,b⟩,c⟩:=this;refine⟨a,fun e=>b.resolve_left (fun n=>n e),fun e=>?_⟩;rcases c with (c | c) | c
  ·exact absurd e c
  ·exact .inl c
  ·exact .inr c
 exact⟨fun y hy=>(q y hy).1,fun y hy=>(q y hy).2.1,fun x hx=>(q _ hx).2.2 rfl⟩
theorem chkS.ok{X:Cx}{scope:Scope}:∀ {NC:List Str} {src:List (Option Nat)},chkS X.N scope X.env NC src=true->mX X scope NC src
 | [],[],_=>⟨rfl,fun i x j h=>by simp at h⟩
 | [],_::_,h=>by simp[chkS]at h
 | _::_,[],h=>by simp[chkS]at h
 | y::ys,o::os,h=>by
  simp only[chkS,Bool.and_eq_true]at h;obtain⟨h1,h2⟩:=h;obtain⟨q1,q2⟩:=chkS.ok h2;refine⟨by rw[List.length_cons,List.length_cons,q1],fun i x j e1 e2=>?_⟩
  cases i with
  | zero =>
   simp at e1 e2;subst e1 e2;simp only[Bool.and_eq_true,Bool.or_eq_true,decide_eq_true_eq]at h1;exact⟨h1.1.1,h1.1.2,h1.2⟩
  | succ i=>exact q2 i x j (by simpa using e1) (by simpa using e2)
section
variable {X:Cx}{tg iter elt:Expr}{ifs:List Expr}{scope:Scope}{fi:DI}{g:DG}{t:DT}{f:DE}{pos:Pos}
theorem Se(NC:List Str)(src:List (Option Nat))(hc:X.calm=true)(hi:PI X tg iter (LI X.K fi))
  (hg:∀ cl C s2 H2 pins fp,PG (bJ X scope cl C NC s2 H2 pins fp) tg (LG X.K g)) (ht:∀ cl C s2 H2 pins fp,PF (bJ X scope cl C NC s2 H2 pins fp) ifs (LT X.K t)) (he:∀ cl C s2 H2 pins fp,PE (bJ X scope cl C NC s2 H2 pins fp) elt (LE X.K f))
  (hkind:scope.kind=.function:=by rfl) (hB:chkB scope X.env=true:=by rfl) (hS:chkS X.N scope X.env NC src=true:=by rfl)
  (hs:∀ x,foldedSetIterable iter X.env x=pure x:=by intro _;rfl):PE X (.ListComp elt [⟨tg,iter,ifs,0⟩] scope pos) (LE X.K (cS src fi g t f)) :=
 Xg (NC:=NC) src hc hi hg ht he hkind (chkB.ok hB).1 (chkB.ok hB).2.1 (chkB.ok hB).2.2 (chkS.ok hS) hs
theorem l5(NC:List Str)(src:List (Option Nat))(hc:X.calm=true)(hi:PI X tg iter (LI X.K fi))
  (hg:∀ cl C s2 H2 pins fp,PG (bJ X scope cl C NC s2 H2 pins fp) tg (LG X.K g)) (ht:∀ cl C s2 H2 pins fp,PF (bJ X scope cl C NC s2 H2 pins fp) ifs (LT X.K t)) (he:∀ cl C s2 H2 pins fp,PE (bJ X scope cl C NC s2 H2 pins fp) elt (LE X.K f))
  (hkind:scope.kind=.function:=by rfl) (hB:chkB scope X.env=true:=by rfl) (hS:chkS X.N scope X.env NC src=true:=by rfl)
  (hs:∀ x,foldedSetIterable iter X.env x=pure x:=by intro _;rfl):PE X (.ListComp elt [⟨tg,iter,ifs,0⟩] scope pos) (LE X.K (jW src fi g t f)) :=
 P5 (NC:=NC) src hc hi hg ht he hkind (chkB.ok hB).1 (chkB.ok hB).2.1 (chkB.ok hB).2.2 (chkS.ok hS) hs
theorem FX(i:Nat){y:Str}{py spos:Pos}(NC:List Str)(src:List (Option Nat))(hc:X.calm=true)(hN:X.N.Nodup)(hi:PI X tg iter (LI X.K fi))
  (hg:∀ cl C s2 H2 pins fp,PG (bJ X scope cl C NC s2 H2 pins fp) tg (LG X.K g)) (ht:∀ cl C s2 H2 pins fp,PF (bJ X scope cl C NC s2 H2 pins fp) ifs (LT X.K t)) (he:∀ cl C s2 H2 pins fp,PE (bJ X scope cl C NC s2 H2 pins fp) elt (LE X.K f))
  (hkind:scope.kind=.function:=by rfl) (hB:chkB scope X.env=true:=by rfl) (hS:chkS X.N scope X.env NC src=true:=by rfl)
  (hi2:X.N[i]?=some y:=by rfl) (hx:gG X.env.scope y:=by first | exact Or.inl rfl | exact Or.inr rfl) (hf:X.fn y=true\/X.env.scope.names.lookup y=some .local:=by first | exact .inl rfl | exact .inr rfl)
  (hsw:swapsWith (.ListComp elt [⟨tg,iter,ifs,0⟩] scope pos) (some (.Name y py)) spos.line X.env=pure true:=by rfl)
  (hs:∀ x,foldedSetIterable iter X.env x=pure x:=by intro _;rfl):PS X (.Assign [.Name y py] (.ListComp elt [⟨tg,iter,ifs,0⟩] scope pos) spos) (LS X.K (aO i (cS src fi g t f))) :=
 j9 (NC:=NC) i src hc hi hg ht he hkind (chkB.ok hB).1 (chkB.ok hB).2.1 (chkB.ok hB).2.2 (chkS.ok hS) hN hi2 hx hf hsw hs
end
end DL
namespace DL
open PySem PySem.Spec PyProof.Rows L2
structure ExtW (K:PySem.W.Frag) (Z:Addr->Prop) (D:Addr) (m:Mu) (H:Hp) (m':Mu) (H':Hp):Prop where
 t:∀ a vs,SqT K H a vs->SqT K H' a vs
 l:∀ a vs,(m a=none/\¬ bU Z D a)->SqL K H a vs->m' a=none/\SqL K H' a vs
 z:∀ a,Z a->H' a=H a
 c:∀ a,(m a).isSome=true->(m' a).isSome=true
 fz:∀ a o u,H a=some (.frz o u)->H' a=some (.frz o u)
 fm:∀ a,rJ (m a)=true->m' a=m a
section
variable {K:PySem.W.Frag}{Z:Addr->Prop}{m m1 m' m2:Mu}{H H1 H' H2:Hp}{D:Addr}{ys zs:List V}
theorem ExtW.refl:ExtW K Z D m H m H:=⟨fun _ _ h=>h,fun _ _ h1 h2=>⟨h1.1,h2⟩,fun _ _=>rfl,fun _ h=>h,fun _ _ _ h=>h,fun _ _=>rfl⟩
theorem ExtW.y(e:ExtW K Z D m H m' H'):ExtY K (bU Z D) m H m' H':=⟨e.t,e.l,e.fz⟩
theorem ExtW.trans(a:ExtW K Z D m H m' H')(b:ExtW K Z D m' H' m2 H2):ExtW K Z D m H m2 H2 :=
 ⟨fun x vs h=>b.t x vs (a.t x vs h),fun x vs h1 h2=>let ⟨q1,q2⟩:=a.l x vs h1 h2;b.l x vs ⟨q1,h1.2⟩ q2,fun x h=>(b.z x h).trans (a.z x h),fun x h=>b.c x (a.c x h),fun x o u h=>b.fz x o u (a.fz x o u h),fun x h=>by
  have q:=a.fm x h
  rw[b.fm x (by rw[q];exact h),q]⟩
theorem Ext.w(e:Ext K (bU Z D) m H m' H'):ExtW K Z D m H m' H':=⟨e.t,e.l,fun a h=>e.z a (.inl h),e.c,e.fz,e.fm⟩
theorem ExtW.put(hz:¬ Z D)(hD:H D=some (.lst ys)):ExtW K Z D m H m (upd H D (.lst zs)) :=
 ⟨pG hD,fun a vs h1 h2=>⟨h1.1,Dp (fun e=>h1.2 (.inr e)) h2⟩,fun a h=>by
  have ne:a≠D:=by rintro rfl;exact hz h
  rw[bR ne],fun _ h=>h,fun a o u h=>by
  rw[bR (by rintro rfl;rw[hD]at h;cases h)]
  exact h,fun _ _=>rfl⟩
theorem ExtW.rd{x:DL.D}{v:V}(e:ExtW K Z D m H m' H')(h:RD K (bU Z D) m H x v):RD K (bU Z D) m' H' x v:=by
 cases x with
 | dat p=>exact RP.tr e.t (fun a vs h1 h2=>let ⟨q1,q2⟩:=e.l a vs h1 h2;⟨⟨q1,h1.2⟩,q2⟩) p v h e.fz
 | cel a=>exact⟨h.1,e.c a h.2⟩
end
end DL
namespace DL
open PySem PySem.Spec PyProof.Rows L2
section
variable {X:Cx}{pins:List (Addr×Obj)}{σ:L2.St}{H:Hp}{s:Shared}{h':Heap}
theorem Jp{t':Nat}{ch:List Addr}(I:Inv X pins σ H s)(k:∀ b o,b∉ch->s.heap.get? b=some o->h'.get? b=some o)(hf:∀ b∈ch,eL X pins H b):Inv X pins σ H {s with heap:=h',toks:=t'}:=by
 have nit:∀ b u,H b=some u->b∉ch:=fun b u e z=>by rw[(hf b z).1]at e;cases e
 refine I.step (g':=s.gens) (d':=s.drawn) (ch:=ch) (fun b hb=>?_) (fun b o _ _ hc e _=>k b o hc e) (fun b o _ _ hc e _=>⟨o.slots,k b o hc e⟩) (fun _ _ _ _ n=>n) (fun b o hc e=>⟨o,k b o hc e⟩) (fun _ _ e=>e) (fun _ _ _ e=>e) (fun b ps e=>⟨#[],by rw[e];simp⟩) (fun m hm=>?_) (fun b u e=>?_) I.bare
 ·obtain⟨_,f1,_,f3,f4,f5⟩:=hf b hb;exact⟨f3,f1,f4,f5⟩
 ·obtain⟨o,es,ep,ho,r⟩:=hm;exact⟨o,es,ep,k _ o (fun z=>(hf _ z).2.1 rfl) ho,r⟩
 ·refine(I.hok b u e).stay (fun c v hc q=>k c v ?_ q) (fun _ q=>q) (fun _ _ q=>q) fun _ _ _ q=>q;rcases hc with z | z
  ·rw[z];exact nit b u e
  ·exact nit c _ z
end
theorem c7(n a1 a2:Nat)(h1:a1<n)(h2:a2<n):ZipApart (n+4) (n+2) (n+3) n (n+1) a1 a2:=by
 constructor<;>exact fun e=>absurd (show(_:Nat)=_ from e) (by omega)
theorem Ti:bootBuiltins "zip"=some (.type "zip"):=by decide +kernel
end DL
namespace DL
open PySem PySem.Spec PyProof.Rows L2
section
variable {X:Cx}{a e o:Expr}{es:List Expr}{f g:DE}{ga:DA}{pos p p1 p2:Pos}
theorem Kt:∀ {zs:List Str} {us:List Value},Vals (zs.map V.str) us->StrsAre us zs
 | [],_,.nil=>.nil
 | z::zs,_,.cons ⟨t,e⟩ r=>by
  rw[e];exact .cons z t (Kt r)
theorem Nn:∀ {zs:List Str} {us:List Value},StrsAre us zs->Vals (zs.map V.str) us
 | _,_,.nil=>.nil
 | _,_,.cons z t r=>.cons ⟨t,rfl⟩ (Nn r)
theorem Jt:bootBuiltins "sorted"=some (.builtin "sorted"):=by decide +kernel
@[simp] def Ai:DC
 | [.dat (.list ps)],m,Q=>∃ zs:List Str,ps=zs.map .str/\zs.length<64/\∀ ys:List Str,ys.Perm zs->PyProof.Rows.sortedS ys=true->Q (.dat (.list (ys.map .str))) m
 | _,_,_=>False
theorem Wh:CallD X (.builtin "sorted") Ai:=by
 intro pins s σ H Z m xs ds us R Q I ok rv rd h k;unfold Ai at h
 split at h
 ·obtain⟨v,rfl,r1⟩:=rd.one;obtain⟨zs,rfl,hl,hh⟩:=h;simp only[RD,RP]at r1;obtain⟨a,vs,rfl,_,h1,h2⟩:=r1
  cases jA h2
  obtain⟨u,rfl,ru⟩:=fP rv
  cases ru
  obtain⟨its,r',pl,hz⟩:=I.list h1;have hlen:=r'.length
  rw[List.length_map]at hlen;refine sorted_strs pl.isList (Kt r') (by omega) fun out ys hS hp hs=>?_
  obtain⟨e',he⟩:=sortedAll_at s.heap its out;have hv:=Nn hS
  have hvl:=hv.length
  have hpl:=hp.length_eq
  rw[List.length_map]at hvl;have hle:s.heap.objs.size<=s.heap.objs.size+1:=Nat.le_succ _
  have I2:=I.laid (t':=s.toks) (a:=s.heap.objs.size+1) (o:=.lst (ys.map V.str)) (fun b u q=>sortedAll_old (out:=out) (vs:=its) q) hle ⟨by rw[List.length_map];have:=lB;rw[sizeLine_eq];omega,out.toList,e',hv,he⟩
  have hf:H (s.heap.objs.size+1)=none:=I.hok.fresh hle
  have sm:Same H (upd H (s.heap.objs.size+1) (.lst (ys.map V.str))):=cU hf
  refine⟨.ref _,_,I2,rfl,k _ m _ _ (hh ys hp hs) (ok.ext sm) (ok.grow sm) ?_⟩;simp only[RD,RP];exact⟨_,_,rfl,fJ ok hf,.inl (.inl cX),Dk ys⟩
 ·exact h.elim
theorem BQ(x:Str)(l u:Option (Int×Tok)):(slicePicked x l u none).length<=x.length:=by
 unfold slicePicked Builtin.Str.strSliceIndices sliceRange;simp only[List.length_map,List.length_range,Option.map_none,Option.getD_none];have h1:(1:Int) > 0:=by decide
 simp only[h1,if_true]
 cases l<;>cases u<;>simp only[Option.map_none,Option.map_some]<;>repeat' split<;>omega
theorem Ff{α β:Type}(f:α->Option β):∀ xs:List α,(xs.filterMap f).length<=xs.length
 | []=>Nat.le_refl _
 | x::xs=>by
  rw[List.filterMap_cons];have:=Ff f xs
  cases f x with
  | none=>exact Nat.le_succ_of_le this
  | some y=>exact Nat.succ_le_succ this
def B0:V->Option Int->Option Int->Hp->VK->Prop:=fun x lo hi H Q=>∃ z:Str,x=.str z/\z.length<=sizeLine/\∀ y:Str,y.length<=z.length->Q (.str y) H
theorem Oq{v:Value}{lo:Option Int}(h:IsPart v lo):∃ l,v=partValue l:=by
 cases h with
 | none=>exact⟨none,rfl⟩
 | int i t=>exact⟨some (i,t),rfl⟩
theorem E5:SlR X B0:=by
 intro pins s σ H x v vl vu lo hi sl Q I rx hs pl pu h;obtain⟨z,rfl,hz,q⟩:=h;obtain⟨t,rfl⟩:=rx;obtain⟨l,rfl⟩:=Oq pl;obtain⟨u,rfl⟩:=Oq pu;refine⟨"str",_,PySem.F.slot_str_getitem.lookup,typeIs_str s z t,?_⟩;refine wpAny_getItem_str_slice (l:=l) (u:=u) (st:=none) hs rfl ?_;unfold sliceMade
 split
 ·exact⟨.str z,H,I,⟨_,rfl⟩,q z (Nat.le_refl _)⟩
 ·have hl:(⟨((slicePicked z l u none).filterMap (z.cps[·]?)).toArray⟩:Str).length<=z.length:=by
   show((slicePicked z l u none).filterMap (z.cps[·]?)).toArray.size<=z.length
   rw[List.size_toArray];exact Nat.le_trans (Ff _ _) (BQ z l u)
  exact⟨Nat.le_trans hl hz,.str _,H,I.tok _,⟨_,rfl⟩,q _ hl⟩
@[simp] def mV(fo g:DE):DE:=fun d m Q=>fo d m fun o m1=>∃ c,o=.cel c/\(∃ ys,m1 c=some (.l ys))/\g d m1 fun x m2=>∃ xs p,x=.dat p/\m2 c=some (.l xs)/\xs.length<sizeLine/\Q (.dat .none) (aY m2 c (.l (xs++[p])))
theorem U0{apos cpos:Pos}(ho:PE X o (LE X.K f))(he:PE X e (LE X.K g))(hbase:attributeBase o "append" X.env (eval o X.env)=eval o X.env:=by rfl)
  (hfew:((backTo cpos (starEach [e] X.env)).all (fun x=>!x.1)&&(backToKw cpos (keywordEach [] X.env)).all (fun x=>x.1.isSome)&&decide ([e].length+([]:List Keyword).length+(if ([]:List Keyword).isEmpty then 0 else 1)<30))=true:=by rfl)
  (hline:(apos.endLine==cpos.line)=true:=by rfl) (hs:starEach [e] X.env=(false,eval e X.env)::starEach [] X.env:=by rfl):PE X (.Call (.Attribute o "append" apos) [e] [] cpos) (LE X.K (mV f g)) :=
 PE.imp (uY (T:="list") (id:="list.append") (name:="append") PySem.F.plainAttrs_list PySem.F.slot_list_append PySem.F.type_list_append Ga ho (gZ he iH hs) hbase hfew hline hs rfl) fun s H Q h=>by
  obtain⟨Z,d,m,R,ok,rs,h,k⟩:=h;refine⟨Z,d,m,_,ok,rs,h,fun x m1 v H1 ⟨c,ex,⟨xs0,hx0⟩,q⟩ e1 ok1 rd=>?_⟩;subst ex;obtain⟨rfl,hc⟩:=rd;obtain⟨vs0,g0,_⟩:=ok1.l hx0;refine⟨.inl ⟨rfl,vs0,.inl (.inl g0)⟩,Z,d,m1,_,ok1,rs.ext e1,q,fun y m2 w H2 ⟨xs,pp,ey,hm,hz,q2⟩ e2 ok2 rd2=>?_⟩;subst ey;obtain⟨vs,g1,g2⟩:=ok2.l hm;refine⟨c,vs,w,rfl,rfl,g1,by rw[g2.length];exact hz,?_⟩
  refine k _ _ _ _ q2 (e1.trans (e2.trans (Ext.put ok2 hm g1))) (ok2.put hm g1 (show RPs _ _ _ _ _ _ from g2.append ?_)) (by simp only[RD,RP])
  simp only[RPs];exact⟨w,[],rfl,rd2,rfl⟩
@[simp] def fI(f:DE)(lo hi:DO):DE:=fun d m Q=>f d m fun x m1=>lo d m1 fun l m2=>hi d m2 fun u m3 =>
 (∃ xs,x=.dat (.tuple xs)/\Q (.dat (.tuple (cV xs l u))) m3)\/(∃ xs,x=.dat (.list xs)/\Q (.dat (.list (cV xs l u))) m3)\/(∃ z:Str,x=.dat (.str z)/\z.length<=sizeLine/\∀ y:Str,y.length<=z.length->Q (.dat (.str y)) m3)
theorem Xu{lo hi:Option Expr}{tl th:DO}(ha:PE X a (LE X.K f))(hl:PO X lo (LO X.K tl))(hu:PO X hi (LO X.K th)):PE X (.Subscript a (.Slice lo hi none p2) pos) (LE X.K (fI f tl th)) :=
 PE.imp (U4 (Z3.or (Z4.or (FW.or E5))) ha hl hu) fun s H Q h=>by
  obtain⟨Z,d,m,R,ok,rs,h,k⟩:=h;refine⟨Z,d,m,_,ok,rs,h,fun x m1 v H1 q e1 ok1 rx=>⟨Z,d,m1,_,ok1,rs.ext e1,q,fun l m2 H2 q2 e2 ok2=>⟨Z,d,m2,_,ok2,(rs.ext e1).ext e2,q2,fun u m3 H3 q3 e3 ok3=>?_⟩⟩⟩;have e13:=e1.trans (e2.trans e3)
  have rx3:=rx.ext (e2.trans e3)
  rcases q3 with⟨xs,rfl,q4⟩ | ⟨xs,rfl,q4⟩ | ⟨z,rfl,hz,q4⟩
  ·simp only[RD,RP]at rx3;obtain⟨a,vs,rfl,h1,h2⟩:=rx3
   by_cases hw:HT.sIx vs.length 0 l=0/\HT.sIx vs.length vs.length u=vs.length
   ·refine .inr (.inl ⟨a,vs,rfl,h1,hw,k _ m3 _ H3 q4 e13 ok3 ?_⟩);rw[h2.length]at hw;rw[Om xs hw];simp only[RD,RP];exact⟨a,vs,rfl,h1,h2⟩
   ·refine .inl ⟨a,vs,rfl,h1,hw,fun p hp=>?_⟩;have sm:Same H3 (upd H3 p (.tup (iS vs l u))):=cU hp
    refine k _ m3 _ _ q4 (e13.trans (ok3.ext sm)) (ok3.grow sm) ?_;simp only[RD,RP];exact⟨p,_,rfl,.inl (.inl cX),RPs.ext (ok3.ext sm) _ _ h2.cut⟩
  ·simp only[RD,RP]at rx3;obtain⟨a,vs,rfl,h0,h1,h2⟩:=rx3;refine .inr (.inr (.inl ⟨a,vs,rfl,h1,fun p hp=>?_⟩));have sm:Same H3 (upd H3 p (.lst (iS vs l u))):=cU hp
   refine k _ m3 _ _ q4 (e13.trans (ok3.ext sm)) (ok3.grow sm) ?_;simp only[RD,RP];exact⟨p,_,rfl,fJ ok3 hp,.inl (.inl cX),RPs.ext (ok3.ext sm) _ _ h2.cut⟩
  ·cases rx3.str
   exact .inr (.inr (.inr ⟨z,rfl,hz,fun y hy=>k _ m3 _ H3 (q4 y hy) e13 ok3 .ofStr⟩))
end
end DL
namespace DL
open PySem PySem.Spec PyProof.Rows L2
def cG{κ:Type}[DecidableEq κ](kvs:List (κ×PyData))(k:κ):Option PyData:=(kvs.find? fun kv=>decide (kv.1=k)).map (·.2)
def fA{κ:Type}[DecidableEq κ](kvs:List (κ×PyData))(k:κ)(p:PyData):List (κ×PyData) :=
 if (kvs.any fun kv=>decide (kv.1=k))=true then kvs.map (fun kv=>if kv.1=k then (kv.1,p) else kv) else kvs++[(k,p)]
section
variable {κ:Type}[DecidableEq κ]{K:PySem.W.Frag}{Z:Addr->Prop}{m:Mu}{H:Hp}
theorem RKV.length:∀ {kvs:List (κ×PyData)} {vs:List (κ×V)},RKV K Z m H kvs vs->vs.length=kvs.length
 | [],_,h=>by cases (show _=[] from h);rfl
 | _::_,_,⟨v,r,h1,_,h3⟩=>by subst h1;rw[List.length_cons,List.length_cons,RKV.length h3]
theorem RKV.val{k:κ}{p:PyData}:∀ {kvs:List (κ×PyData)} {vs:List (κ×V)},RKV K Z m H kvs vs->cG kvs k=some p->∃ v,cN vs k=some v/\RP K Z m H p v
 | [],_,_,e=>by simp[cG]at e
 | (j,q)::xs,_,⟨v,r,h1,h2,h3⟩,e=>by
  subst h1;unfold cG at e;unfold cN
  by_cases c:j=k
  ·simp[List.find?_cons,c]at e ⊢;exact e▸h2
  ·simp[List.find?_cons,c]at e ⊢;have:=RKV.val (k:=k) (p:=p) h3 (by unfold cG;simpa using e)
   unfold cN at this;simpa using this
theorem RKV.any{k:κ}:∀ {kvs:List (κ×PyData)} {vs:List (κ×V)},RKV K Z m H kvs vs->(vs.any fun kv=>decide (kv.1=k))=(kvs.any fun kv=>decide (kv.1=k))
 | [],_,h=>by cases (show _=[] from h);rfl
 | _::_,_,⟨v,r,h1,_,h3⟩=>by subst h1;rw[List.any_cons,List.any_cons,RKV.any h3]
theorem RKV.repl{k:κ}{p:PyData}{v:V}(hp:RP K Z m H p v):∀ {kvs:List (κ×PyData)} {vs:List (κ×V)},RKV K Z m H kvs vs->RKV K Z m H (kvs.map fun kv=>if kv.1=k then (kv.1,p) else kv) (vs.map fun kv=>if kv.1=k then (kv.1,v) else kv)
 | [],_,h=>by cases (show _=[] from h);exact(rfl:([]:List (κ×V))=[])
 | (j,q)::xs,_,⟨w,r,h1,h2,h3⟩=>by
  subst h1;rw[List.map_cons,List.map_cons]
  by_cases c:j=k
  ·rw[if_pos c,if_pos c];exact⟨v,_,rfl,hp,RKV.repl hp h3⟩
  ·rw[if_neg c,if_neg c];exact⟨w,_,rfl,h2,RKV.repl hp h3⟩
theorem RKV.snoc{k:κ}{p:PyData}{v:V}(hp:RP K Z m H p v):∀ {kvs:List (κ×PyData)} {vs:List (κ×V)},RKV K Z m H kvs vs->RKV K Z m H (kvs++[(k,p)]) (vs++[(k,v)])
 | [],_,h=>by cases (show _=[] from h);exact⟨v,[],rfl,hp,rfl⟩
 | _::_,_,⟨w,r,h1,h2,h3⟩=>by subst h1;exact⟨w,_,rfl,h2,RKV.snoc hp h3⟩
theorem RKV.put{k:κ}{p:PyData}{v:V}{kvs:List (κ×PyData)}{vs:List (κ×V)}(h:RKV K Z m H kvs vs)(hp:RP K Z m H p v):RKV K Z m H (fA kvs k p) (cI vs k v):=by
 unfold fA cI;rw[h.any]
 split
 ·exact h.repl hp
 ·exact h.snoc hp
end
@[simp] def jT:D->Option aN
 | .dat (.str z)=>some (.inr z)
 | .dat (.int i)=>some (.inl i)
 | _=>none
theorem RD.key{K:PySem.W.Frag}{Z:Addr->Prop}{m:Mu}{H:Hp}{x:D}{v:V}{k:aN}(h:RD K Z m H x v)(e:jT x=some k):v=kV k:=by
 unfold jT at e
 split at e
 ·cases e;cases h.str;rfl
 ·cases e;cases h.int;rfl
 ·cases e
section
variable {X:Cx}{o i e:Expr}{fo fi f:DE}{pos tpos:Pos}
@[simp] def Cn:DE:=fun _ m Q=>∀ a,m a=none->Q (.cel a) (aY m a (.d []))
theorem u4:PE X (.Dict [] [] pos) (LE X.K Cn):=by
 intro pins s σ H Q I h;obtain⟨Z,d,m,R,ok,rs,h,k⟩:=h;have hp:H s.heap.objs.size=none:=I.hok.fresh (Nat.le_refl _)
 have hk:X.K.lookup s.heap.objs.size=none:=by
  cases e:X.K.lookup s.heap.objs.size with
  | none=>rfl
  | some o=>exact absurd (Heap.lt_size (I.kIn _ o e)) (Nat.lt_irrefl _)
 refine wpAny_Dict_empty ⟨.ref s.heap.objs.size,_,I.laid (a:=s.heap.objs.size) (o:=.dK []) (t':=s.toks) (fun _ _ q=>Heap.get?_push_of_some _ q) (Nat.le_refl _) (Nf s.heap I.big),rfl,?_⟩;exact k _ _ _ _ (h _ (fJ ok hp).1) (Ext.cell ok hp hk) (ok.cell hp hk (show RKV _ _ _ _ _ _ from rfl)) ⟨rfl,by rw[bF];rfl⟩
@[simp] def Ay(fo fi f:DE):DS:=fun E d m=>f d m fun x m1=>fo d m1 fun o m2=>fi d m2 fun y m3=>∃ c k kvs p,o=.cel c/\jT y=some k/\x=.dat p/\m3 c=some (.d kvs)/\kvs.length<sizeLine/\E.nx d (aY m3 c (.d (fA kvs k p)))
theorem J7(hu:X.A.units+100<cLine)(he:PE X e (LE X.K f))(ho:PE X o (LE X.K fo))(hi:PE X i (LE X.K fi))(hs:swapsWith e (some (.Subscript o i tpos)) pos.line X.env=pure false:=by rfl) :
  PS X (.Assign [.Subscript o i tpos] e pos) (LS X.K (Ay fo fi f)):=PS.imp (Wc (by omega) ho hi he hs) fun E s H h=>by
 obtain⟨Z,d,m,R,ok,rs,h,k,_⟩:=h;refine⟨Z,d,m,_,ok,rs,h,fun x m1 v H1 q e1 ok1 r1=>⟨Z,d,m1,_,ok1,rs.ext e1,q,fun o m2 w H2 q2 e2 ok2 r2=>⟨Z,d,m2,_,ok2,(rs.ext e1).ext e2,q2,fun y m3 z H3 q3 e3 ok3 r3=>?_⟩⟩⟩;obtain⟨c,ky,kvs,p,rfl,hk,rfl,hm,hl,q⟩:=q3
 cases r3.key hk
 obtain⟨rfl,_⟩:=r2.ext e3;obtain⟨vs,g1,g2⟩:=ok3.d hm;have r1':=r1.ext (e2.trans e3)
 refine⟨c,_,rfl,.inl ⟨vs,ky,g1,rfl,by rw[g2.length];exact hl,rfl⟩,?_⟩
 have e4:Ext X.K Z m3 H3 (aY m3 c (.d (fA kvs ky p))) (upd H3 c (.dK (cI vs ky v))):=Ext.put ok3 hm g1
 exact k d _ s _ q (e1.trans (e2.trans (e3.trans e4))) (ok3.put hm g1 (show RKV _ _ _ _ _ _ from g2.put r1')) ((rs.ext e1).ext (e2.trans (e3.trans e4)))
@[simp] def tE(fo fi:DE):DE:=fun d m Q=>fo d m fun o m1=>fi d m1 fun y m2=>∃ c k kvs p,o=.cel c/\jT y=some k/\m2 c=some (.d kvs)/\cG kvs k=some p/\Q (.dat p) m2
theorem B6(hu:X.A.units+100<cLine)(ho:PE X o (LE X.K fo))(hi:PE X i (LE X.K fi))(hs:nH i:=by exact fun _ _=>rfl):PE X (.Subscript o i pos) (LE X.K (tE fo fi)) :=
 PE.imp (n4 (by omega) ho hi hs) fun s H Q h=>by
  obtain⟨Z,d,m,R,ok,rs,h,k⟩:=h;refine⟨Z,d,m,_,ok,rs,h,fun o m1 v H1 q e1 ok1 r1=>⟨Z,d,m1,_,ok1,rs.ext e1,q,fun y m2 w H2 q2 e2 ok2 r2=>?_⟩⟩;obtain⟨c,ky,kvs,p,rfl,hk,hm,hv,q⟩:=q2
  cases r2.key hk
  obtain⟨rfl,_⟩:=r1.ext e2;obtain⟨vs,g1,g2⟩:=ok2.d hm;obtain⟨v,hv',rv⟩:=g2.val hv;exact⟨c,v,rfl,.inl ⟨vs,ky,.inl g1,rfl,hv'.symm⟩,k _ m2 _ H2 q (e1.trans e2) ok2 rv⟩
end
end DL
namespace DL
open PySem PySem.Spec PyProof.Rows L2
open AutoSeq1 (wpAny_loadPart')
theorem AE{acc:Array Value}{n:Nat}(h:ItemsOf (fun i v=>∃ t,v=.int ((0:Int)+i*1) t) acc n):Vals ((List.range n).map fun i:Nat=>V.int (i:Int)) acc.toList:=by
 obtain⟨h1,h2⟩:=h;have key:∀ (k:Nat) (us:List Value) (o:Nat),us.length=k->(∀ j v,us[j]?=some v->∃ t,v=Value.int ((0:Int)+((o+j:Nat):Int)*1) t)->Vals ((List.range' o k).map fun i:Nat=>V.int (i:Int)) us:=by
  intro k
  induction k with
  | zero =>
   intro us o hl _
   cases us with
   | nil=>exact .nil
   | cons _ _=>simp at hl
  | succ k ih =>
   intro us o hl hv
   cases us with
   | nil=>simp at hl
   | cons u us =>
    rw[List.range'_succ,List.map_cons];obtain⟨t,e⟩:=hv 0 u rfl;refine .cons ⟨t,by rw[e];congr 1;simp⟩ (ih us (o+1) (by simpa using hl) fun j v hj=>?_)
    obtain⟨t',e'⟩:=hv (j+1) v (by simpa using hj)
    exact⟨t',by rw[e'];congr 3;omega⟩
 have:=key n acc.toList 0 (by simpa using h1) fun j v hj=>by
  obtain⟨t,e⟩:=h2 j v (by simpa using hj)
  exact⟨t,by rw[e];simp⟩
 rwa [<- List.range_eq_range']at this
section
variable {X:Cx}{e:Expr}{f:DE}{pos p p2 pos2:Pos}
theorem Ey{K:PySem.W.Frag}{Z:Addr->Prop}{m:Mu}{H:Hp}:∀ l:List Nat,RPs K Z m H (l.map fun i:Nat=>PyData.int (i:Int)) (l.map fun i:Nat=>V.int (i:Int))
 | []=>by simp[RPs]
 | i::l=>by
  simp only[List.map_cons,RPs];exact⟨_,_,rfl,by simp only[RP],Ey l⟩
end
end DL
namespace DL
open PySem PySem.Spec PyProof.Rows L2
def KEnt(w:World):List DictEntry->List (Str×V)->Prop
 | [],[]=>True
 | e::es,(z,v)::kvs=>e.hash=PyData.keyHash w.params z/\(∃ t,e.key=.str z t)/\RelV v e.val/\KEnt w es kvs
 | _,_=>False
def KDt(K:PySem.W.Frag)(w:World)(a:Addr)(kvs:List (Str×V)):Prop :=
 ∃ (o:Obj) (es:Array DictEntry) (ep:Nat),K.lookup a=some o/\o.cls=.type "dict"/\o.dict=none/\o.slots=#[]/\o.data=.dict es ep/\KEnt w es.toList kvs/\(kvs.map (·.1)).Nodup/\(a==sysModules)=false
def KD(K:PySem.W.Frag)(w:World)(a:Addr)(kvs:List (Str×PyData)):Prop:=∃ vs:List (Str×V),KDt K w a vs/\∀ (Z:Addr->Prop) (m:Mu) (H:Hp),RKV K Z m H kvs vs
def lC{α:Type}(kvs:List (Str×α)):List (aN×α):=kvs.map fun kv=>(.inr kv.1,kv.2)
theorem KEnt.out{P:Program}{w:World}:∀ {es:List DictEntry} {kvs:List (Str×V)},KEnt w es kvs->∃ vs:List (Str×Value),KV (lC kvs) (lC vs)/\Pairs (bZ P w) es (lC vs)/\(∀ e∈es,∃ k,(bZ P w).is k e.key=true/\e.hash=(bZ P w).hash k)/\vs.map (·.1)=kvs.map (·.1)
 | [],[],_=>⟨[],.nil,.nil,by simp,rfl⟩
 | e::es,(z,v)::kvs,⟨h1,⟨t,h2⟩,h3,h4⟩=>by
  obtain⟨vs,q1,q2,q3,q4⟩:=KEnt.out (P:=P) h4;have hk:(bZ P w).is (.inr z) e.key=true:=by
   rw[h2];exact decide_eq_true (rfl:z=z)
  refine⟨(z,e.val)::vs,.cons ⟨rfl,h3⟩ q1,.cons hk rfl q2,fun x hx=>?_,by simp[q4]⟩
  rcases List.mem_cons.mp hx with rfl | hx
  ·exact⟨_,hk,h1⟩
  ·exact q3 x hx
 | [],_::_,h=>h.elim
 | _::_,[],h=>h.elim
theorem KDt.dictOf{K:PySem.W.Frag}{P:Program}{w:World}{a:Addr}{kvs:List (Str×V)}{h:Heap}(q:KDt K w a kvs)(hK:K.In h):∃ vs:List (aN×Value),KV (lC kvs) vs/\h.DictOf (bZ P w) a vs:=by
 obtain⟨o,es,ep,h1,h2,h3,h4,h5,h6,h7,_⟩:=q;obtain⟨vs,q1,q2,q3,q4⟩:=KEnt.out (P:=P) h6;refine⟨_,q1,o,es,ep,hK _ _ h1,⟨h2,h3,h4⟩,h5,fun e he=>q3 e (by simpa using he),q2,?_⟩
 have e:(lC vs).map (·.1)=(kvs.map (·.1)).map Sum.inr:=by
  rw[<- q4];simp[lC,Function.comp_def]
 rw[e];exact List.Pairwise.map _ (fun a b hab h=>hab (Sum.inr.inj h)) h7
theorem KDt.sys{K:PySem.W.Frag}{w:World}{a:Addr}{kvs:List (Str×V)}(q:KDt K w a kvs):(a==sysModules)=false:=by
 obtain⟨_,_,_,_,_,_,_,_,_,_,h⟩:=q;exact h
theorem Mz{z:Str}:∀ kvs:List (Str×V),cN (lC kvs) (.inr z)=cN kvs z
 | []=>rfl
 | (y,v)::kvs=>by
  have ih:=Mz (z:=z) kvs
  unfold cN lC at *
  by_cases c:y=z
  ·simp[List.find?_cons,c]
  ·simp only[List.map_cons,List.find?_cons,c,decide_false,Sum.inr.injEq];exact ih
theorem RKV.val_none{κ:Type}[DecidableEq κ]{K:PySem.W.Frag}{Z:Addr->Prop}{m:Mu}{H:Hp}{k:κ}:∀ {kvs:List (κ×PyData)} {vs:List (κ×V)},RKV K Z m H kvs vs->cG kvs k=none->cN vs k=none
 | [],_,h,_=>by cases (show _=[] from h);rfl
 | (j,q)::xs,_,⟨v,r,h1,h2,h3⟩,e=>by
  subst h1;unfold cG at e;unfold cN
  by_cases c:j=k
  ·simp[List.find?_cons,c]at e
  ·simp[List.find?_cons,c]at e ⊢;have:=RKV.val_none (k:=k) h3 (by unfold cG;simpa using e)
   unfold cN at this;simpa using this
section
variable {X:Cx}{i e g:Expr}{fi f fg:DE}{p pos apos cpos:Pos}
@[simp] def xP(kvs:List (Str×PyData))(fi fg:DE):DE:=fun d m Q=>fi d m fun y m1=>∃ z:Str,y=.dat (.str z)/\fg d m1 fun x m2=>Q (match cG kvs z with | some q=>.dat q | none=>x) m2
theorem W1{x:Str}{c:Addr}{kvs:List (Str×PyData)}(hg:Gl X x)(hm:X.mg x=some (.ref c))(hk:KD X.K X.w c kvs)(he:PE X e (LE X.K fi))(hf:PE X g (LE X.K fg))(hd:(x==("__debug__" : Str))=false:=by decide)
  (hbase:attributeBase (.Name x p) "get" X.env (eval (.Name x p) X.env)=eval (.Name x p) X.env:=by rfl)
  (hfew:((backTo cpos (starEach [e,g] X.env)).all (fun x=>!x.1)&&(backToKw cpos (keywordEach [] X.env)).all (fun x=>x.1.isSome)&&decide (([e,g]:List Expr).length+([]:List Keyword).length+(if ([]:List Keyword).isEmpty then 0 else 1)<30))=true:=by rfl)
  (hline:(apos.endLine==cpos.line)=true:=by rfl) (hs:backTo cpos (starEach [e,g] X.env)=[(false,eval e X.env),(false,eval g X.env)]:=by rfl) :
  PE X (.Call (.Attribute (.Name x p) "get" apos) [e,g] [] cpos) (LE X.K (xP kvs fi fg)):=by
 intro pins s σ H Q I h;obtain⟨Z,d,m,R,ok,rs,h,k⟩:=h;obtain⟨vs,kd,rk⟩:=hk;refine wpAny_Call_method hbase hfew hline PySem.F.plainAttrs_dict PySem.F.slot_dict_get PySem.F.type_dict_get (bA (GK (v:=.ref c) hg hm rfl hd pins s σ H (fun x H1=>x=.ref c/\H1=H) I ⟨rfl,rfl⟩) fun u s1 ⟨x,H1,I1,rx,ex,eH⟩=>?_);subst ex;subst eH;obtain rfl:u=Value.ref c:=rx;obtain⟨ws1,_,dd1⟩:=kd.dictOf (P:=X.prog) I1.kIn;refine⟨dd1.typeIs,fun b q=>?_,?_⟩
 ·cases q
  obtain⟨ob,_,_,h1,h2,_⟩:=dd1;exact⟨ob,h1,h2.2.1⟩
 rw[hs];refine Calls.callWith_builtin rfl (Calls.evalArgs_plain (Calls.spliced_cons (bA (he pins s1 σ _ (fun v H2=>∃ (z:Str) (d:bO) (m1:Mu),v=.str z/\LE X.K fg σ H2 fun v2 H3=>Q ((cN vs z).getD v2) H3) I1 ⟨Z,d,m,_,ok,rs,h,fun y m1 v H1 ⟨z,ey,hq⟩ e1 ok1 r1=>?_⟩) fun iv s2 ⟨y,H2,I2,ry,z,_,_,ey,q2⟩ =>
  Calls.spliced_cons (bA (hf pins s2 σ H2 _ I2 q2) fun fv s3 ⟨v2,H3,I3,rz,q3⟩=>Calls.spliced_nil ?_))))
 ·subst ey
  cases r1.str
  refine⟨z,d,m1,rfl,Z,d,m1,_,ok1,rs.ext e1,hq,fun x m2 v2 H2 hq2 e2 ok2 r2=>?_⟩
  cases hv:cG kvs z with
  | none =>
   rw[hv]at hq2;rw[(rk Z m2 H2).val_none hv];exact k _ m2 _ H2 hq2 (e1.trans e2) ok2 r2
  | some q =>
   rw[hv]at hq2;obtain⟨w,hw,rw'⟩:=(rk Z m2 H2).val hv;rw[hw];exact k _ m2 _ H2 hq2 (e1.trans e2) ok2 rw'
 ·subst ey;obtain⟨ws,rel,dd⟩:=kd.dictOf (P:=X.prog) I3.kIn;refine call_meetsIn PySem.F.slot_dict_get dd.typeIs PySem.F.entry_dict_get (PySem.F.args_dict_get_3 _ _ _) (meets_dict_get_default (bZ X.prog X.w) c (kP (k:=.inr z) ry) kd.sys fv) ⟨_,dd.mapOf,⟨_,H3,I3.tok _,?_,q3⟩⟩;have:=(rel.val (.inr z)).getD rz
  rw[Mz]at this;exact this
end
end DL
namespace DL
open PySem PySem.Spec PyProof.Rows L2
section
variable {X:Cx}{e g:Expr}{f fg:DE}{tg:Expr}{pos:Pos}
@[simp] def yZ(f fg:DE):DI:=fun d m Q=>f d m fun x m1=>fg d m1 fun y m2=>∃ i j:Int,x=.dat (.int i)/\y=.dat (.int j)/\(-(2^62)<=i/\i<2^62/\-(2^62)<=j/\j<2^62)/\Q (dC i (j-i).toNat) m2
theorem CH{p:Pos}(hg:Gl X "range")(hm:X.mg "range"=none)(ha:PE X e (LE X.K f))(hb:PE X g (LE X.K fg))(hs:starEach [e,g] X.env=[(false,eval e X.env),(false,eval g X.env)]:=by rfl)(hs2:starEach [g] X.env=[(false,eval g X.env)]:=by rfl) :
  PI X tg (.Call (.Name "range" p) [e,g] [] pos) (LI X.K (yZ f fg)) :=
 PI.imp (BC hg hm (gZ ha (gZ hb iH (by rw[hs2];rfl)) (by rw[hs,hs2])) hs hs2) fun s H R h=>by
  obtain⟨Z,d,m,ZZ,ok,rs,h,k⟩:=h;refine⟨Z,d,m,_,ok,rs,h,fun x m1 v H1 q e1 ok1 rd=>⟨Z,d,m1,_,ok1,rs.ext e1,q,fun y m2 v2 H2 ⟨i0,j,ex,ey,hb,q2⟩ e2 ok2 rd2=>?_⟩⟩;subst ex;subst ey
  cases rd.int
  cases rd2.int
  show ∃ i' j':Int,[V.int i0,V.int j]=[V.int i',V.int j']/\_
  refine⟨i0,j,rfl,hb,k _ m2 H2 _ q2 (e1.trans e2) ok2 fun m3 H3 e3=>⟨fun i x hx=>?_,?_⟩⟩
  ·unfold dC at hx;rw[List.getElem?_map]at hx
   cases ei:(List.range (j-i0).toNat)[i]? with
   | none=>rw[ei]at hx;cases hx
   | some i' =>
    rw[ei]at hx
    cases hx
    have hl:=(List.getElem?_eq_some_iff.mp ei).1
    have hi:i'=i:=by
     obtain⟨_,z⟩:=List.getElem?_eq_some_iff.mp ei;rw[List.getElem_range]at z;exact z.symm
    subst hi;rw[List.length_range]at hl;refine⟨hl,fun v' H3 y=>.inl ⟨y.1,?_⟩⟩;rw[y.2];exact .ofInt
  ·show(j-i0).toNat<=(dC i0 (j-i0).toNat).length
   unfold dC;rw[List.length_map,List.length_range];exact Nat.le_refl _
end
end DL
namespace DL
open PySem PySem.Spec PyProof.Rows L2
theorem Rn:typeLookup (.type "tuple") "keys"=pure none:=by rw[typeLookup_type,builtinLookup_eq_fast];kernel_rfl
theorem lD:plainId "dict.update.loop"=true:=by decide +kernel
theorem tJ:entryFor table "dict.update.loop"=some Builtin.«dict.update.loop»:=entryFor_of_fast (by kernel_rfl)
section
variable {prog:Program}{w:World}{A:Around}{E:Value->Shared->Prop}{s:Shared}
theorem Rl{a:Addr}{o:Obj}{xs:Array Value}{k:Nat}{Q:Option Value->Shared->Prop}
  (hx:s.heap.get? a=some o) (hc:o.cls=.type "tuple") (hdat:o.data=.seq xs k) (hd:o.dict=none) (hA:A.handled=none)
  (h:∀ h' tk,(∀ b ob,s.heap.get? b=some ob->h'.get? b=some ob)->Q none {s with heap:=h',toks:=tk}) :
  wpAny (model prog w) A (getAttr? (.ref a) "keys") Q E s:=by
 obtain⟨c,dct,dat,sl⟩:=o;simp only at hc hdat hd;subst hc hdat hd;obtain⟨hp,g,d,tk,os⟩:=s;have hT:∀ tk',(⟨hp,g,d,tk',os⟩:Shared).TypeIs (.ref a) "tuple":=fun _=>⟨_,hx,rfl⟩
 have f1:=sub_AttributeError
 have f3:=F.slot_tuple_getattribute.lookup
 have f4:=F.slot_tuple_getattribute.bind (.ref a)
 have f5:=am_tuple_getattr_none
 have hsz:(Str.ofString "keys").length+100<=sizeLine:=by rw[sizeLine_eq];decide
 have hname:(["__module__","__name__","__qualname__","__doc__","__annotations__"]:List Str).contains (Str.ofString "keys")=false:=by decide
 unfold getAttr? getAttrBy? getAttrBy
 repeat (any_goals (first | assumption | exact hT _ | ((with_reducible show wpAny _ _ (call (Value.builtin "tuple.__getattribute__") _ _) _ _ _);refine call_meets F.slot_tuple_getattribute (hT _) am_entry_tuple_getattribute (F.args_tuple_getattribute_2 _ _) (meets_getattribute_miss_tuple a xs k sl (Str.ofString "keys") _ Rn hname hsz) ⟨hx,hA,fun h' tk' e hx'=>?_⟩) | wp_step))
 obtain⟨t',u',he⟩:=hx'.there;show wpAny _ _ (getattributeRaised _ _ _ _ _ _ _) _ _ _
 unfold getattributeRaised
 repeat (any_goals (first | assumption | wp_step))
 exact h h' tk' hx'.keeps
end
section
variable {prog:Program}{w:World}{κ:Type}[DecidableEq κ]{knd:KeyKind prog w κ}{A:Around}{E:Value->Shared->Prop}{s:Shared}
def uJ(knd:KeyKind prog w κ)(h:Heap):List Value->List (κ×Value)->Prop
 | [],[]=>True
 | x::xs,(k,v)::r=>(∃ b key,x=.ref b/\h.IsTuple b #[key,v]/\knd.is k key=true)/\uJ knd h xs r
 | _,_=>False
def tT(acc:List (κ×Value))(r:List (κ×Value)):List (κ×Value):=r.foldl (fun acc kv=>stored acc kv.1 kv.2) acc
theorem t6(acc:List (κ×Value))(k:κ)(v:Value):(stored acc k v).length<=acc.length+1:=by
 unfold stored
 split
 ·simp
 ·simp
theorem Ei{R:Result->Shared->Prop}{hb:Heap}{d it tq:Addr}{items:Array Value}(hh:A.handled=none)(hd:hb.get? d=none)(hi:hb.get? it=none)(hne:d≠it)(ht:hb.IsTuple tq items) :
  ∀ (rest:List (κ×Value)) (i:Nat) (s:Shared) (acc:List (κ×Value)) (tk0:Tok),(∀ b o,hb.get? b=some o->s.heap.get? b=some o)->s.heap.IsTupleIter it tq i->s.heap.DictOf knd d acc->uJ knd hb (items.toList.drop i) rest->acc.length+rest.length<=sizeLine ->
  (∀ h' tk,(∀ b o,hb.get? b=some o->h'.get? b=some o)->h'.DictOf knd d (tT acc rest)->R (.ok (.ret .none)) {s with heap:=h',toks:=tk}) ->
  codeAny (model prog w) A (.builtin "dict.update.loop" ⟨[.ref d,.ref it,.int i tk0,.none],[]⟩) R s
 | [],i,s,acc,tk0,keeps,hit,hdo,hp,hsz,hR=>by
  have hx:items[i]?=none:=by
   cases e:items.toList.drop i with
   | nil =>
    have:=List.drop_eq_nil_iff.mp e
    rw[Array.getElem?_eq_none_iff];simpa using this
   | cons x xs=>rw[e]at hp;exact hp.elim
  have ht':s.heap.IsTuple tq items:=by
   obtain⟨o,ho,r⟩:=ht;exact⟨o,keeps _ _ ho,r⟩
  refine codeAny_builtin tJ ?_;rw[Around.under_plainId lD _];show wpAny _ A.in1 (pyNext (.ref it)>>=_) _ _ s
  refine wpAny_bind (wpAny_pyNext_tuple_end hh hit ht' hx fun h' hs=>?_);show wpAny _ A.in1 (Builtin.Dict.addKeywords d []>>=_) _ _ _
  refine wpAny_bind (wpAny_pure (wpAny_pure ?_));refine hR h' s.toks (fun b o e=>hs b o (fun q=>by rw[q,hi]at e;cases e) (keeps b o e)) (hdo.extBut hs hne)
 | (k,v)::rest,i,s,acc,tk0,keeps,hit,hdo,hp,hsz,hR=>by
  cases e:items.toList.drop i with
  | nil=>rw[e]at hp;exact hp.elim
  | cons x xs =>
   rw[e]at hp;obtain⟨⟨b,key,rfl,hb2,hk⟩,hp2⟩:=hp;have hx:items[i]?=some (.ref b):=by
    have:=congrArg List.head? e
    rw[List.head?_drop]at this;simpa using this
   have e2:items.toList.drop (i+1)=xs:=by
    have:=congrArg List.tail e
    rw[List.tail_drop]at this;simpa using this
   have ht':s.heap.IsTuple tq items:=by
    obtain⟨o,ho,r⟩:=ht;exact⟨o,keeps _ _ ho,r⟩
   refine codeAny_builtin tJ ?_;rw[Around.under_plainId lD _];show wpAny _ A.in1 (pyNext (.ref it)>>=_) _ _ s
   refine wpAny_bind (wpAny_pyNext_tuple_item hit ht' hx fun h1 hit1 hs1=>?_);have k1:∀ b o,hb.get? b=some o->h1.get? b=some o:=fun b o e=>hs1.extBut b o (fun q=>by rw[q,hi]at e;cases e) (keeps b o e)
   have ht1:({s with heap:=h1}:Shared).heap.IsTuple b #[key,v]:=by
    obtain⟨o,ho,r⟩:=hb2;exact⟨o,k1 _ _ ho,r⟩
   have hdo1:({s with heap:=h1}:Shared).heap.DictOf knd d acc:=hdo.sameBut hs1 hne
   obtain⟨o,ho,hoc,no,hod⟩:=id ht1;refine wpAny_bind (wpAny_holding (wpAny_bind (wpAny_tryCatch ?_)));unfold Builtin.Dict.pairItems;refine wpAny_bind (wpAny_typeOf ht1.typeIs ?_);rw[if_pos (by decide)]
   refine wpAny_bind (wpAny_seqItems ho hod (wpAny_pure ?_));show wpAny _ A.in1 (holding [key,v] (dictSet d key v)) _ _ _
   refine wpAny_holding (wpAny_dictSet_pairs (hsz:=by simp at hsz;omega) hk hdo1 fun h2 hdo2 hs2=>?_)
   refine wpAny_pure ⟨plainId_quiet lD _,?_⟩;have ih:=Ei (R:=R) hh hd hi hne ht rest (i+1) {s with heap:=h2,toks:=s.toks+1} (stored acc k v) 0
    (fun b o e=>hs2.extBut b o (fun q=>by rw[q,hd]at e;cases e) (k1 b o e)) (hit1.extBut hs2.extBut (Ne.symm hne)) hdo2 (by rw[e2];exact hp2)
    (by have:=t6 acc k v;simp at hsz;omega) (fun h' tk q1 q2=>hR h' tk q1 q2)
   exact ih
theorem AN{Q:Value->Shared->Prop}{tq:Addr}{o:Obj}{items:Array Value}{n:Nat}{kvs:List (κ×Value)}(hh:A.handled=none)(ho:s.heap.get? tq=some o)(hc:o.cls=.type "tuple")(hdn:o.dict=none)(hdat:o.data=.seq items n)
  (hp:uJ knd s.heap items.toList kvs) (hsz:kvs.length<=sizeLine)
  (hQ:∀ h' tk,(∀ b o,s.heap.get? b=some o->h'.get? b=some o)->h'.DictOf knd s.heap.objs.size (tT [] kvs)->Q (.ref s.heap.objs.size) {s with heap:=h',toks:=tk}) :
  wpAny (model prog w) A (call (.type "dict") [.ref tq]) Q E s:=by
 refine callType_codes (Q₁:=fun obj s₁=>obj=.ref s.heap.objs.size/\s₁={s with heap:=s.heap.push {cls:=.type "dict",data:=.dict #[]}}) F.kt_called_dict (F.kt_typeCall_dict_1 _) F.entry_dict_init (kt_code_dict_new _ ⟨rfl,rfl⟩) ?_;rintro obj s₁ ⟨rfl,rfl⟩;have hnew:(s.heap.push {cls:=.type "dict",data:=.dict #[]}).DictOf knd s.heap.objs.size []:=Heap.DictOf.new s.heap
 refine⟨hnew.typeIs,F.args_dict_init_2 _ _,?_⟩;unfold Builtin.«dict.__init__»;refine wpAny_bind ?_;unfold Builtin.Dict.selfAndRest;refine wpAny_bind (wpAny_notOrdered_dict hnew.typeIs ?_);show wpAny _ _ (pure (s.heap.objs.size,[Value.ref tq])) _ _ _
 refine wpAny_pure ?_;show wpAny _ _ (Builtin.Dict.updateFrom "dict.__init__" s.heap.objs.size (.ref tq) [] .none) _ _ _
 unfold Builtin.Dict.updateFrom;have ho1:(s.heap.push {cls:=.type "dict",data:=.dict #[]}).get? tq=some o:=Heap.get?_push_of_some _ ho
 refine wpAny_bind (wpAny_typeOf (T:="tuple") ⟨_,ho1,hc⟩ ?_);rw[if_pos (by decide)]
 refine wpAny_bind (Rl ho1 hc hdat hdn hh fun h1 tk1 k1=>?_);rw[if_pos (show(none:Option Value).isNone=true from rfl)]
 have g0:s.heap.get? s.heap.objs.size=none:=by
  cases e:s.heap.get? s.heap.objs.size with
  | none=>rfl
  | some ob=>exact absurd (Heap.lt_size e) (Nat.lt_irrefl _)
 have g1:s.heap.get? h1.objs.size=none:=by
  cases e:s.heap.get? h1.objs.size with
  | none=>rfl
  | some ob=>exact absurd (Heap.lt_size (k1 _ _ (Heap.get?_push_of_some _ e))) (Nat.lt_irrefl _)
 have hd1:h1.DictOf knd s.heap.objs.size []:=by
  obtain⟨ob,es,ep,q,r⟩:=hnew;exact⟨ob,es,ep,k1 _ _ q,r⟩
 have hne:s.heap.objs.size≠h1.objs.size:=by
  obtain⟨ob,es,ep,q,r⟩:=hd1;exact Nat.ne_of_lt (Heap.lt_size q)
 have ht:s.heap.IsTuple tq items:=⟨o,ho,hc,n,hdat⟩
 refine wpAny_bind (wpAny_rule (wpAny_bind (wpAny_pyIter_tuple (t:=tq) (items:=items) ⟨o,k1 _ _ ho1,hc,n,hdat⟩ ?_)));refine wpAny_pure ⟨plainId_quiet lD _,?_⟩;refine Ei (A:=A.in1) (knd:=knd) (hb:=s.heap) (show A.in1.handled=none from hh) g0 g1 hne ht kvs 0 {s with heap:=h1.push {cls:=.type "tuple_iterator",data:=.fields #[.ref tq,.int 0 0]},toks:=tk1} [] 0 (fun b ob e=>Heap.get?_push_of_some _ (k1 _ _ (Heap.get?_push_of_some _ e))) ⟨_,Heap.get?_push_size _ rfl,rfl,rfl⟩ (hd1.push _) (by simpa using hp) (by simpa using hsz) fun h' tk q1 q2=>?_
 exact⟨rfl,hQ h' tk q1 q2⟩
end
end DL
namespace DL
open PySem PySem.Spec PyProof.Rows L2
@[simp] def tO:List D->Option (List aN)
 | []=>some []
 | x::xs=>match jT x,tO xs with
  | some k,some ks=>some (k::ks)
  | _,_=>none
theorem RDs.keys{K:PySem.W.Frag}{Z:Addr->Prop}{m:Mu}{H:Hp}:∀ {xs:List D} {vs:List V} {ks:List aN},RDs K Z m H xs vs->tO xs=some ks->vs=ks.map kV
 | [],vs,ks,h,e=>by
  cases e
  exact h
 | x::xs,vs,ks,h,e=>by
  obtain⟨v,r,rfl,h1,h2⟩:=h;unfold tO at e
  cases e1:jT x with
  | none=>rw[e1]at e;cases e
  | some k =>
   cases e2:tO xs with
   | none=>rw[e1,e2]at e;cases e
   | some ks' =>
    rw[e1,e2]at e
    cases e
    rw[h1.key e1,RDs.keys h2 e2];rfl
end DL
namespace DL
open PySem PySem.Spec PyProof.Rows L2
def lZ:aN->PyData
 | .inl i=>.int i
 | .inr z=>.str z
theorem Inv.noD{X:Cx}{pins:List (Addr×Obj)}{σ:L2.St}{H:Hp}{s:Shared}{a:Addr}{xs:List V}(I:Inv X pins σ H s)(h:SqT X.K H a xs):NoD s.heap a:=by
 rcases h with h | ⟨o,its,n,hk,hc,hs,hz,r⟩
 ·obtain⟨z,its,r,p⟩:=h.ok I.hok;exact z.2
 ·exact⟨o,I.kIn a o hk,hc.2⟩
theorem Jg{X:Cx}{pins:List (Addr×Obj)}{σ:L2.St}{H:Hp}{s:Shared}{Z:Addr->Prop}{m:Mu}(I:Inv X pins σ H s):∀ {kvs:List (aN×PyData)} {vs:List V} {us:List Value},RPs X.K Z m H (kvs.map fun kv=>PyData.tuple [lZ kv.1,kv.2]) vs->Vals vs us ->
  ∃ ws:List (aN×V),∃ xs:List (aN×Value),RKV X.K Z m H kvs ws/\KV ws xs/\uJ (bZ X.prog X.w) s.heap us xs/\xs.length=kvs.length
 | [],vs,us,h,r=>by
  simp only[List.map_nil,RPs]at h;subst h
  cases r
  exact⟨[],[],rfl,.nil,trivial,rfl⟩
 | (k,p)::kvs,vs,us,h,r=>by
  simp only[List.map_cons,RPs]at h;obtain⟨v,vs',rfl,h1,h2⟩:=h
  cases r with
  | cons r1 r2 =>
   obtain⟨ws,xs,q1,q2,q3,q4⟩:=Jg I h2 r2;simp only[RP]at h1;obtain⟨a,ps,rfl,hs,hp⟩:=h1;obtain⟨its,rv,it,_⟩:=I.tuple hs;simp only[RPs]at hp;obtain⟨v1,r',rfl,g1,v2,r'',rfl,g2,rfl⟩:=hp
   cases rv with
   | cons w1 rv =>
    cases rv with
    | cons w2 rv =>
     cases rv
     have ev:v1=kV k:=by
      cases k with
      | inl i =>
       simp only[lZ,RP]at g1;exact g1
      | inr z =>
       simp only[lZ,RP]at g1;exact g1
     subst ev;refine⟨(k,v2)::ws,(k,_)::xs,⟨_,_,rfl,g2,q1⟩,.cons ⟨rfl,w2⟩ q2,⟨⟨a,_,r1,it,kP w1⟩,q3⟩,by simp[q4]⟩
def eC(acc:List (aN×PyData))(r:List (aN×PyData)):List (aN×PyData):=r.foldl (fun acc kv=>fA acc kv.1 kv.2) acc
def mZ(acc:List (aN×V))(r:List (aN×V)):List (aN×V):=r.foldl (fun acc kv=>cI acc kv.1 kv.2) acc
theorem RKV.puts{K:PySem.W.Frag}{Z:Addr->Prop}{m:Mu}{H:Hp}:∀ {r:List (aN×PyData)} {ws:List (aN×V)} {acc:List (aN×PyData)} {aw:List (aN×V)},RKV K Z m H acc aw->RKV K Z m H r ws->RKV K Z m H (eC acc r) (mZ aw ws)
 | [],ws,acc,aw,ha,hr=>by
  cases (show ws=[] from hr)
  exact ha
 | (k,p)::r,vs,acc,aw,ha,h=>by
  obtain⟨v,ws,rfl,h1,h2⟩:=h;exact RKV.puts (r:=r) (ws:=ws) (acc:=fA acc k p) (aw:=cI aw k v) (ha.put h1) h2
theorem KV.puts{ws:List (aN×V)}{xs:List (aN×Value)}(t:KV ws xs):∀ {aw:List (aN×V)} {ax:List (aN×Value)},KV aw ax->KV (mZ aw ws) (tT ax xs):=by
 unfold KV at t
 induction t with
 | nil=>exact fun ha=>ha
 | @cons p q ps qs h t ih =>
  intro aw ax ha;obtain⟨e,h⟩:=h;have:=ih (KV.put ha p.1 h)
  show KV (mZ (cI aw p.1 p.2) ps) (tT (stored ax q.1 q.2) qs)
  rw[<- e];exact this
theorem sZ:∀ (r acc:List (aN×PyData)),(eC acc r).length<=acc.length+r.length
 | [],acc=>by simp[eC]
 | kv::r,acc=>by
  have:=sZ r (fA acc kv.1 kv.2)
  have h2:(fA acc kv.1 kv.2).length<=acc.length+1:=by
   unfold fA
   split
   ·rw[List.length_map];omega
   ·simp
  unfold eC at *;simp only[List.foldl_cons,List.length_cons];omega
section
variable {X:Cx}{e:Expr}{f:DE}{pos p:Pos}
@[simp] def yI(f:DE):DE:=fun d m Q=>f d m fun x m1=>∃ kvs:List (aN×PyData),x=.dat (.tuple (kvs.map fun kv=>.tuple [lZ kv.1,kv.2]))/\kvs.length<=sizeLine/\∀ a,m1 a=none->Q (.cel a) (aY m1 a (.d (eC [] kvs)))
theorem U9(hc:X.calm=true)(hg:Gl X "dict")(hm:X.mg "dict"=none)(he:PE X e (LE X.K f))(hs:starEach [e] X.env=[(false,eval e X.env)]:=by rfl):PE X (.Call (.Name "dict" p) [e] [] pos) (LE X.K (yI f)):=by
 intro pins s σ H Q I h;obtain⟨Z,d,m,R,ok,rs,h,k⟩:=h;have hA:=gZ (X:=X) he iH (by rw[hs];rfl) pos pins s σ H (fun vs H1=>∃ (v:V) (kvs:List (aN×PyData)) (m1:Mu),vs=[v]/\RD X.K Z m1 H1 (.dat (.tuple (kvs.map fun kv=>.tuple [lZ kv.1,kv.2]))) v/\kvs.length<=sizeLine/\(∀ a,m1 a=none->R (.cel a) (aY m1 a (.d (eC [] kvs))))/\Ext X.K Z m H m1 H1/\Ok X.K Z m1 H1) I ⟨Z,d,m,_,ok,rs,h,fun x m1 v H1 ⟨kvs,ex,hn,q⟩ e1 ok1 rd=>by
  subst ex;exact⟨v,kvs,m1,rfl,rd,hn,q,e1,ok1⟩⟩
 refine Call_ (gQ I hg hm boot_dict (PyProof.Rows.callWith_type1 (bA hA fun us s1 ⟨vs,H1,I1,r1,q1⟩=>?_) hs rfl));obtain⟨v,kvs,m1,ev,rd,hn,q,e1,ok1⟩:=q1;subst ev;simp only[RD,RP]at rd;obtain⟨a,ps,rfl,hsq,hp⟩:=rd;obtain⟨u,rfl,hu⟩:=fP r1
 cases (show u=Value.ref a from hu)
 obtain⟨its,rv,⟨o,ho,hoc,n,hod⟩,_⟩:=I1.tuple hsq;obtain⟨o',ho',hdn⟩:=Inv.noD I1 hsq;rw[ho]at ho'
 cases ho'
 obtain⟨ws,xs,q1,q2,q3,q4⟩:=Jg (Z:=Z) (m:=m1) I1 hp rv;have hp0:H1 s1.heap.objs.size=none:=I1.hok.fresh (Nat.le_refl _)
 have hk0:X.K.lookup s1.heap.objs.size=none:=by
  cases e:X.K.lookup s1.heap.objs.size with
  | none=>rfl
  | some o=>exact absurd (Heap.lt_size (I1.kIn _ o e)) (Nat.lt_irrefl _)
 refine AN (knd:=bZ X.prog X.w) (I1.ok.hd hc) ho hoc hdn hod (by simpa using q3) (by rw[q4];exact hn) fun h' tk kp dd=>?_
 have rk:RKV X.K Z m1 H1 (eC [] kvs) (mZ [] ws):=RKV.puts (show RKV _ _ _ _ _ _ from rfl) q1
 have ob:ObjOk X.prog X.w (upd H1 s1.heap.objs.size (.dK (mZ [] ws))) h' s1.heap.objs.size (.dK (mZ [] ws)):=by
  refine⟨?_,beq_eq_false_iff_ne.mpr (Ne.symm (Nat.ne_of_lt I1.big)),_,KV.puts q2 .nil,dd⟩;rw[rk.length];exact Nat.le_trans (sZ kvs []) (by simpa using hn)
 exact⟨.ref s1.heap.objs.size,_,I1.laid (t':=tk) kp (Nat.le_refl _) ob,rfl,k _ _ _ _ (q _ (fJ ok1 hp0).1) (e1.trans (Ext.cell ok1 hp0 hk0)) (ok1.cell hp0 hk0 (show RKV _ _ _ _ _ _ from rk)) ⟨rfl,by rw[bF];rfl⟩⟩
end
end DL
namespace DL
open PySem PySem.Spec PyProof.Rows L2
def KTEnt(K:PySem.W.Frag)(w:World):List DictEntry->List (List Str×Addr×V)->Prop
 | [],[]=>True
 | e::es,(zs,a,v)::xs=>e.hash=reduceHash (Builtin.Tuple.tupleHashOf (zs.map (PyData.keyHash w.params)))/\e.key=.ref a/\RelV v e.val/\KT K a zs/\KTEnt K w es xs
 | _,_=>False
def KTDt(K:PySem.W.Frag)(w:World)(c:Addr)(xs:List (List Str×Addr×V)):Prop :=
 ∃ (o:Obj) (es:Array DictEntry) (ep:Nat),K.lookup c=some o/\o.cls=.type "dict"/\o.dict=none/\o.slots=#[]/\o.data=.dict es ep/\KTEnt K w es.toList xs/\(xs.map (·.1)).Nodup/\(c==sysModules)=false
theorem Z8(zs:List Str):(zs.map (Sum.inr:Str->aN)).map kV=zs.map V.str:=by
 rw[List.map_map];rfl
section
variable {X:Cx}{pins:List (Addr×Obj)}{σ:L2.St}{H:Hp}{s:Shared}
theorem i6{a:Addr}{zs:List Str}(I:Inv X pins σ H s)(h:SqT X.K H a (zs.map V.str)):(tupleKind (bZ X.prog X.w)).is s.heap (zs.map Sum.inr) a:=by
 obtain⟨its,r,⟨o,h1,h2,n,h3⟩,_⟩:=I.tuple h;rw[<- Z8]at r;exact⟨o,its.toArray,n,h1,h2,h3,by simpa using vW r⟩
theorem KTEnt.out(I:Inv X pins σ H s):∀ {es:List DictEntry} {xs:List (List Str×Addr×V)},KTEnt X.K X.w es xs->∃ ys:List (List aN×Addr×Value),es=ys.map (entryOfKey (tupleKind (bZ X.prog X.w)))/\(∀ y∈ys,(tupleKind (bZ X.prog X.w)).is s.heap y.1 y.2.1)/\ys.map (·.1)=xs.map (fun x=>x.1.map Sum.inr) /\
  ∀ zs:List Str,RelO (cN (xs.map fun x=>(x.1,x.2.2)) zs) ((atKey ys (zs.map Sum.inr)).map (·.2))
 | [],[],_=>⟨[],rfl,by simp,rfl,fun _=>True.intro⟩
 | e::es,(zs,a,v)::xs,⟨h1,h2,h3,h4,h5⟩=>by
  obtain⟨ys,q1,q2,q3,q4⟩:=KTEnt.out I h5;refine⟨(zs.map Sum.inr,a,e.val)::ys,?_,fun y hy=>?_,by simp[q3],fun z=>?_⟩
  ·rw[List.map_cons,<- q1]
   congr 1
   obtain⟨eh,ek,ev⟩:=e;simp only at h1 h2;subst h1 h2;unfold entryOfKey
   congr 1
   show _=reduceHash (Builtin.Tuple.tupleHashOf ((zs.map Sum.inr).map (bZ X.prog X.w).hash))
   rw[List.map_map];rfl
  ·rcases List.mem_cons.mp hy with rfl | hy
   ·exact i6 I h4.sq
   ·exact q2 y hy
  ·by_cases c:zs=z
   ·subst c;unfold cN atKey;simp only[List.map_cons,List.find?_cons,decide_true,Option.map_some];exact h3
   ·have c':¬ zs.map (Sum.inr:Str->aN)=z.map Sum.inr:=fun h=>c ((List.map_inj_right (fun _ _ q=>Sum.inr.inj q)).mp h)
    have:=q4 z
    unfold cN atKey at this ⊢;simp only[List.map_cons,List.find?_cons,decide_eq_false c,decide_eq_false c'];exact this
 | [],_::_,h=>h.elim
 | _::_,[],h=>h.elim
theorem KTDt.out{c:Addr}{xs:List (List Str×Addr×V)}(I:Inv X pins σ H s)(q:KTDt X.K X.w c xs):(c==sysModules)=false/\∃ ys:List (List aN×Addr×Value),s.heap.DictOfH (tupleKind (bZ X.prog X.w)) c ys /\
  ∀ zs:List Str,RelO (cN (xs.map fun x=>(x.1,x.2.2)) zs) ((atKey ys (zs.map Sum.inr)).map (·.2)):=by
 obtain⟨o,es,ep,h1,h2,h3,h4,h5,h6,h7,h8⟩:=q;obtain⟨ys,q1,q2,q3,q4⟩:=KTEnt.out I h6;refine⟨h8,ys,⟨o,es,ep,I.kIn _ _ h1,⟨h2,h3,h4⟩,h5,q1,q2,?_⟩,q4⟩;rw[q3];have e:xs.map (fun x=>x.1.map (Sum.inr:Str->aN))=(xs.map (·.1)).map (fun z=>z.map Sum.inr):=by simp
 rw[e];exact List.Pairwise.map _ (fun a b hab h=>hab ((List.map_inj_right (fun _ _ q=>Sum.inr.inj q)).mp h)) h7
end
theorem KT.rp{K:PySem.W.Frag}{a:Addr}{zs:List Str}{Z:Addr->Prop}{m:Mu}{H:Hp}(h:KT K a zs):RP K Z m H (.tuple (zs.map PyData.str)) (.ref a):=by
 simp only[RP];exact⟨a,_,rfl,h.sq,Dk zs⟩
end DL
namespace DL
open PySem PySem.Spec PyProof.Rows L2
section
variable {X:Cx}{o e:Expr}{f g:DE}{apos cpos:Pos}
def L3(K:PySem.W.Frag):V->List V->Hp->VK->Prop:=fun x xs H Q=>∃ (a:Addr) (y:Str) (zs:List Str),x=.ref a/\xs=[.str y]/\SqL K H a (zs.map V.str)/\y∈zs/\Q (.int (zs.idxOf y:Nat)) H
theorem F2:MtR X "list.index" (L3 X.K):=by
 intro pins s σ H x xs v us Q I rx rs ⟨a,y,zs,e1,e2,hq,hk,q⟩;subst e1 e2
 cases rx
 obtain⟨u,rfl,ru⟩:=fP rs;obtain⟨tk,rfl⟩:=id ru;obtain⟨its,rv,p,hz⟩:=I.list hq;have hl:=rv.length
 rw[List.length_map]at hl hz;have hj:zs.idxOf y<zs.length:=List.idxOf_lt_length_iff.mpr hk
 have hsz:(zs.length:Int)<=1000000000:=by
  rw[sizeLine_eq]at hz;omega
 have hit:∀ m (hm:m<its.toArray.size) (hm2:m<zs.length),eU (.str y) its.toArray[m]=(zs[m]==y):=fun m hm hm2=>by
  obtain⟨t,e⟩:=yQ rv m (by simpa using hm) hm2
  have e':its.toArray[m]=.str zs[m] t:=by simpa using e
  rw[e'];rfl
 have hfl:(zs.map V.str).all gE=true:=by
  rw[List.all_eq_true];intro v hv;obtain⟨z,_,rfl⟩:=List.mem_map.mp hv;rfl
 obtain⟨⟨cl,dd,dt,sl⟩,n,p1,p2,p3,p4⟩:=id p;simp only at p2 p4;subst p2 p4;refine call_meets PySem.F.slot_list_index p.isList.typeIs PySem.F.entry_list_index (PySem.F.args_list_index_2 _ _) (SeqAt.list_indexAt a its.toArray n dd sl (.str y tk) (eU (.str y)) (zs.idxOf y) (by rw[List.size_toArray];omega) (by omega) ?_ ?_) ⟨p1,?_,?_⟩
 ·rw[hit _ _ hj,List.getElem_idxOf hj];simp
 ·intro m hm hlt;have hm2:m<zs.length:=by omega
  rw[hit m hm hm2];simp only[beq_eq_false_iff_ne];exact Al _ _ hm2 hlt
 ·exact fun w hw=>mS (x:=.str y) ⟨tk,rfl⟩ rfl rv hfl w (by simpa using hw)
 ·exact⟨.int _,H,I.tok _,⟨_,rfl⟩,q⟩
def Gj(t:Bool)(K:PySem.W.Frag)(H:Hp)(a:Addr)(zs:List Str):Prop:=if t then SqT K H a (zs.map V.str) else SqL K H a (zs.map V.str)
@[simp] def zG(f g:DE):DE:=fun d m Q=>f d m fun x m1=>∃ zs:List Str,(x=.dat (.tuple (zs.map .str))\/x=.dat (.list (zs.map .str)))/\g d m1 fun y m2=>∃ z:Str,y=.dat (.str z)/\z∈zs/\Q (.dat (.int (zs.idxOf z:Nat))) m2
theorem V1(ho:PE X o (LE X.K f))(he:PE X e (LE X.K g))(hbase:attributeBase o "index" X.env (eval o X.env)=eval o X.env:=by rfl)
  (hfew:((backTo cpos (starEach [e] X.env)).all (fun x=>!x.1)&&(backToKw cpos (keywordEach [] X.env)).all (fun x=>x.1.isSome)&&decide ([e].length+([]:List Keyword).length+(if ([]:List Keyword).isEmpty then 0 else 1)<30))=true:=by rfl)
  (hline:(apos.endLine==cpos.line)=true:=by rfl) (hs:backTo cpos (starEach [e] X.env)=[(false,eval e X.env)]:=by rfl):PE X (.Call (.Attribute o "index" apos) [e] [] cpos) (LE X.K (zG f g)):=by
 intro pins s σ H Q I h;obtain⟨Z,d,m,R,ok,rs,h,k⟩:=h;refine wpAny_Call_method_late hbase hfew hline rfl (bA (ho pins s σ H (fun v H1=>∃ (t:Bool) (a:Addr) (zs:List Str),v=.ref a/\Gj t X.K H1 a zs/\LE X.K g σ H1 fun v2 H2=>∃ z:Str,v2=.str z/\z∈zs/\Gj t X.K H2 a zs/\Q (.int (zs.idxOf z:Nat)) H2) I ⟨Z,d,m,_,ok,rs,h,fun x m1 v H1 ⟨zs,ex,hq⟩ e1 ok1 r1=>?_⟩) fun v s1 ⟨x,H1,I1,rx,t,a,zs,ex,sq,q1⟩=>?_)
 ·rcases ex with rfl | rfl
  ·have r1':=r1
   simp only[RD,RP]at r1';obtain⟨a,vs,rfl,h1,h2⟩:=r1'
   cases jA h2
   refine⟨true,a,zs,rfl,h1,Z,d,m1,_,ok1,rs.ext e1,hq,fun y m2 v2 H2 ⟨z,ey,hz,q⟩ e2 ok2 r2=>?_⟩;subst ey
   cases r2.str
   have r3:=r1.ext e2
   simp only[RD,RP]at r3;obtain⟨a',vs',e',h1',h2'⟩:=r3
   cases e'
   cases jA h2'
   exact⟨z,rfl,hz,h1',k _ m2 _ H2 q (e1.trans e2) ok2 .ofInt⟩
  ·have r1':=r1
   simp only[RD,RP]at r1';obtain⟨a,vs,rfl,_,h1,h2⟩:=r1'
   cases jA h2
   refine⟨false,a,zs,rfl,h1,Z,d,m1,_,ok1,rs.ext e1,hq,fun y m2 v2 H2 ⟨z,ey,hz,q⟩ e2 ok2 r2=>?_⟩;subst ey
   cases r2.str
   have r3:=r1.ext e2
   simp only[RD,RP]at r3;obtain⟨a',vs',e',_,h1',h2'⟩:=r3
   cases e'
   cases jA h2'
   exact⟨z,rfl,hz,h1',k _ m2 _ H2 q (e1.trans e2) ok2 .ofInt⟩
 ·subst ex;obtain rfl:v=Value.ref a:=rx
  cases t with
  | true =>
   obtain⟨its,_,p,_⟩:=I1.tuple (show SqT _ _ _ _ from sq)
   refine⟨"tuple","tuple.index",PySem.F.plainAttrs_tuple,PySem.F.slot_tuple_index,PySem.F.type_tuple_index,p.typeIs,fun b e=>by cases e;exact Inv.noD I1 (show SqT _ _ _ _ from sq),?_⟩
   rw[hs];refine Calls.callWith_builtin rfl (Calls.evalArgs_plain (Calls.spliced_cons (bA (he pins s1 σ H1 _ I1 q1) fun iv s2 ⟨v2,H2,I2,ry,z,ez,hz,sq2,q2⟩=>Calls.spliced_nil ?_)));subst ez;exact Y3 pins s2 σ H2 (.ref a) [.str z] _ [iv] Q I2 rfl (.cons ry .nil) ⟨a,z,zs,rfl,rfl,sq2,hz,q2⟩
  | false =>
   obtain⟨its,_,p,_⟩:=I1.list (show SqL _ _ _ _ from sq)
   refine⟨"list","list.index",PySem.F.plainAttrs_list,PySem.F.slot_list_index,PySem.F.type_list_index,p.isList.typeIs,fun b e=>by cases e;obtain⟨ob,n,e,c,hd,_⟩:=p;exact⟨ob,e,hd⟩,?_⟩
   rw[hs];refine Calls.callWith_builtin rfl (Calls.evalArgs_plain (Calls.spliced_cons (bA (he pins s1 σ H1 _ I1 q1) fun iv s2 ⟨v2,H2,I2,ry,z,ez,hz,sq2,q2⟩=>Calls.spliced_nil ?_)));subst ez;exact F2 pins s2 σ H2 (.ref a) [.str z] _ [iv] Q I2 rfl (.cons ry .nil) ⟨a,z,zs,rfl,rfl,sq2,hz,q2⟩
end
end DL
namespace DL
open PySem PySem.Spec PyProof.Rows L2
def Itl(K:PySem.W.Frag)(t1 t2:Addr)(n:Nat):It :=
 ⟨fun i H=>i<n/\∃ xs ys,SqL K H t1 xs/\SqT K H t2 ys/\n=min xs.length ys.length,fun i H v H'=>∃ p x y,v=.ref p/\H p=none/\H'=upd H p (.tup [x,y])/\∀ xs ys,SqL K H t1 xs->SqT K H t2 ys->xs[i]?=some x/\ys[i]?=some y,
  fun i H=>i=n/\∃ xs ys,SqL K H t1 xs/\SqT K H t2 ys/\n=min xs.length ys.length⟩
end DL
namespace DL
open PySem PySem.Spec PyProof.Rows L2
section
variable {K:PySem.W.Frag}{Z:Addr->Prop}{m m':Mu}{H:Hp}
def dL(m:Mu)(a:Addr):Mu:=fun b=>if b=a then none else m b
theorem oK{a b:Addr}(h:m b=none):dL m a b=none:=by unfold dL;split<;>first | rfl | exact h
theorem DV{a:Addr}{xs:List PyData}{v:V}(ok:Ok K Z m H)(hm:m a=some (.l xs))(r:RD K Z m H (.cel a) v):RP K Z (dL m a) H (.list xs) v:=by
 obtain⟨rfl,_⟩:=r;obtain⟨vs,h1,h2⟩:=ok.l hm;simp only[RP];refine⟨a,vs,rfl,⟨by unfold dL;rw[if_pos rfl],fun z=>by have:=(ok.z a z).1;rw[hm]at this;cases this⟩,.inl (.inl h1),RPs.tr (fun _ _ q=>q) (fun b ws q1 q2=>⟨⟨oK q1.1,q1.2⟩,q2⟩) _ _ h2⟩
end
end DL
namespace DL
open PySem PySem.Spec PyProof.Rows L2
theorem Xz:typeLookup (.type "list") "keys"=pure none:=by rw[typeLookup_type,builtinLookup_eq_fast];kernel_rfl
section
variable {prog:Program}{w:World}{A:Around}{E:Value->Shared->Prop}{s:Shared}
theorem A6{a:Addr}{o:Obj}{xs:Array Value}{k:Nat}{Q:Option Value->Shared->Prop}
  (hx:s.heap.get? a=some o) (hc:o.cls=.type "list") (hdat:o.data=.seq xs k) (hd:o.dict=none) (hA:A.handled=none)
  (h:∀ h' tk,(∀ b ob,s.heap.get? b=some ob->h'.get? b=some ob)->Q none {s with heap:=h',toks:=tk}) :
  wpAny (model prog w) A (getAttr? (.ref a) "keys") Q E s:=by
 obtain⟨c,dct,dat,sl⟩:=o;simp only at hc hdat hd;subst hc hdat hd;obtain⟨hp,g,d,tk,os⟩:=s;have hT:∀ tk',(⟨hp,g,d,tk',os⟩:Shared).TypeIs (.ref a) "list":=fun _=>⟨_,hx,rfl⟩
 have f1:=sub_AttributeError
 have f3:=F.slot_list_getattribute.lookup
 have f4:=F.slot_list_getattribute.bind (.ref a)
 have f5:=am_list_getattr_none
 have hsz:(Str.ofString "keys").length+100<=sizeLine:=by rw[sizeLine_eq];decide
 have hname:(["__module__","__name__","__qualname__","__doc__","__annotations__"]:List Str).contains (Str.ofString "keys")=false:=by decide
 unfold getAttr? getAttrBy? getAttrBy
 repeat (any_goals (first | assumption | exact hT _ | ((with_reducible show wpAny _ _ (call (Value.builtin "list.__getattribute__") _ _) _ _ _);refine call_meets F.slot_list_getattribute (hT _) am_entry_list_getattribute (F.args_list_getattribute_2 _ _) (meets_getattribute_miss_list a xs k sl (Str.ofString "keys") _ Xz hname hsz) ⟨hx,hA,fun h' tk' e hx'=>?_⟩) | wp_step))
 obtain⟨t',u',he⟩:=hx'.there;show wpAny _ _ (getattributeRaised _ _ _ _ _ _ _) _ _ _
 unfold getattributeRaised
 repeat (any_goals (first | assumption | wp_step))
 exact h h' tk' hx'.keeps
end
end DL
namespace DL
open PySem PySem.Spec PyProof.Rows L2
theorem P6:typeLookup (.type "zip") (Str.ofString "__len__")=pure none:=by rw[typeLookup_type,builtinLookup_eq_fast];kernel_rfl
theorem Yx:typeLookup (.type "zip") (Str.ofString "__length_hint__")=pure none:=by rw[typeLookup_type,builtinLookup_eq_fast];kernel_rfl
section
variable {prog:Program}{w:World}{A:Around}{E:Value->Shared->Prop}{s:Shared}
theorem Ny{x:Value}{T:String}{name:Str}{Q:Option Value->Shared->Prop}(hT:s.TypeIs x T)(hl:typeLookup (.type T) name=pure none)(h:Q none s):wpAny (model prog w) A (specialOf x name) Q E s:=by
 unfold specialOf;refine wpAny_bind (wpAny_typeOf hT ?_);rw[hl];exact wpAny_pure h
theorem c9{z:Addr}{Q:Bool->Shared->Prop}(hT:s.TypeIs (.ref z) "zip")(h:Q true s):wpAny (model prog w) A (Builtin.List.listLengthHint (.ref z)) Q E s:=by
 unfold Builtin.List.listLengthHint;refine wpAny_bind (Ny hT P6 ?_);have e:∀ o:Option Value,o=none->(if o.isSome=true then False else True):=fun o h=>by subst h;trivial
 show wpAny _ _ (specialOf (.ref z) (Str.ofString "__length_hint__")>>=_) _ _ _
 refine wpAny_bind (Ny hT Yx ?_);exact wpAny_pure h
theorem d6{a:Addr}{o:Obj}{Q:Option Obj->Shared->Prop}(ho:s.heap.get? a=some o)(h:Q (some o) s):wpAny (model prog w) A (loadIfAlive a) Q E s:=by
 intro Γ p hin;unfold loadIfAlive;rw[Sem.wp_loadIfAlive];simp only[ho];exact wpAny_pure h Γ p hin
abbrev ZH(h:Heap)(z TI TO:Addr)(T:Nat)(b:Bool):Prop:=h.get? z=some {cls:=.type "zip",data:=.fields #[rawInt T,.bool b,.bool false,.ref TI,.ref TO]}
theorem Gr{z TI TO:Addr}{T:Nat}{b:Bool}{Q:Bool->Shared->Prop}(hz:ZH s.heap z TI TO T b)(ht:∃ o,s.heap.get? T=some o)(h:∀ h',ZH h' z TI TO T true->Heap.SameBut z s.heap h'->Q false {s with heap:=h'}) :
  wpAny (model prog w) A (Builtin.SmallTypes.ownedTupleIsFree (.ref z)) Q E s:=by
 obtain⟨o,ho⟩:=ht;unfold Builtin.SmallTypes.ownedTupleIsFree;refine wpAny_bind (wpAny_field hz rfl (x:=rawInt T) rfl ?_);show wpAny _ _ (loadIfAlive ((T:Int).toNat)>>=_) _ _ _
 rw[Int.toNat_natCast];refine wpAny_bind (d6 ho ?_);show wpAny _ _ (field (.ref z) 1>>=_) _ _ _
 refine wpAny_bind (wpAny_field hz rfl (x:=.bool b) rfl ?_)
 cases b with
 | true=>exact wpAny_pure (h s.heap hz (Heap.SameBut.refl _ _))
 | false =>
  show wpAny _ _ (setField (.ref z) 1 (.bool true)>>=_) _ _ _
  exact wpAny_bind (wpAny_setField_rec hz (by simp) fun h' e c=>wpAny_pure (h h' e c))
theorem DZ{z TI TO i1 i2 l1 l2:Addr}{T k:Nat}{b:Bool}{xs ys:Array Value}{x y:Value}{Q:Value->Shared->Prop}(D:ZipApart z TI TO i1 i2 l1 l2)(hz:ZH s.heap z TI TO T b)(ht:∃ o,s.heap.get? T=some o)
  (hTI:IsPair s.heap TI (.ref i1) (.ref i2)) (h1:s.heap.IsListIter i1 l1 k) (h2:s.heap.IsListIter i2 l2 k) (g1:s.heap.IsList l1 xs) (g2:s.heap.IsList l2 ys) (hx:xs[k]?=some x) (hy:ys[k]?=some y)
  (hQ:∀ h',ZH h' z TI TO T true->IsPair h' TI (.ref i1) (.ref i2)->h'.IsListIter i1 l1 (k+1)->h'.IsListIter i2 l2 (k+1)->IsPair h' s.heap.objs.size x y ->
   (∀ c o,c≠z->c≠i1->c≠i2->s.heap.get? c=some o->h'.get? c=some o)->Q (.ref s.heap.objs.size) {s with heap:=h'}) :
  wpAny (model prog w) A (Builtin.«zip.__next__» ⟨[.ref z],[]⟩) (fun fin s'=>∃ v,fin=.done (.ret v)/\Q v s') E s:=by
 show wpAny _ _ (field (.ref z) 2>>=_) _ _ _;refine wpAny_bind (wpAny_field hz rfl (x:=.bool false) rfl ?_)
 show wpAny _ _ (field (.ref z) 3>>=_) _ _ _;refine wpAny_bind (wpAny_field hz rfl (x:=.ref TI) rfl (wpAny_bind (wpAny_seqItems hTI rfl ?_)))
 show wpAny _ _ (Builtin.SmallTypes.ownedTupleIsFree (.ref z)>>=_) _ _ _
 refine wpAny_bind (Gr hz ht fun n1 z1 c1=>?_);rw[if_neg Bool.false_ne_true];simp only[List.forIn_toArray,List.forIn_cons,List.forIn_nil];refine wpAny_bind (wpAny_bind (wpAny_bind (wpAny_holding ?_)));show wpAny _ _ (Builtin.SmallTypes.nextOf (.ref i1)>>=_) _ _ _
 refine wpAny_bind (wpAny_nextOf_list_item (h1.at fun o e=>c1.extBut _ o D.i1z e) (g1.extBut c1.extBut D.l1z) hx fun n2 b2 c2=>wpAny_pure ?_);refine wpAny_pure ?_;refine wpAny_bind (wpAny_bind (wpAny_holding ?_));show wpAny _ _ (Builtin.SmallTypes.nextOf (.ref i2)>>=_) _ _ _
 have up2:∀ c o,c≠z->c≠i1->s.heap.get? c=some o->n2.get? c=some o:=fun c o q1 q3 e=>c2.extBut _ _ q3 (c1.extBut _ _ q1 e)
 have g22:n2.IsList l2 ys:=by
  obtain⟨o,ho,r⟩:=g2;exact⟨o,up2 _ _ D.l2z D.l2i1 ho,r⟩
 refine wpAny_bind (wpAny_nextOf_list_item (h2.at fun o e=>up2 _ o D.i2z D.i12.symm e) g22 hy fun n3 b3 c3=>wpAny_pure ?_);refine wpAny_pure (wpAny_pure ?_);show wpAny _ _ (newTuple [x,y]>>=_) _ _ _
 refine wpAny_bind (wpAny_newTuple ?_);have size3:n3.objs.size=s.heap.objs.size:=by rw[c3.1,c2.1,c1.1]
 have up3:∀ c o,c≠z->c≠i1->c≠i2->s.heap.get? c=some o->n3.get? c=some o:=fun c o q1 q3 q4 e=>c3.extBut _ _ q4 (up2 c o q1 q3 e)
 have z3:ZH n3 z TI TO T true:=c3.extBut _ _ D.i2z.symm (c2.extBut _ _ D.i1z.symm z1)
 refine wpAny_pure ⟨_,rfl,?_⟩;show Q (.ref n3.objs.size) _
 rw[size3];have new:IsPair (n3.push {cls:=.type "tuple",data:=.seq #[x,y]}) n3.objs.size x y:=Heap.get?_push_size _ rfl
 rw[size3]at new;exact hQ _ (Heap.get?_push_of_some _ z3) (Heap.get?_push_of_some _ (up3 _ _ D.TIz D.TIi1 D.TIi2 hTI)) (b2.at fun o e=>Heap.get?_push_of_some _ (c3.extBut _ _ D.i12 e)) (b3.at fun o e=>Heap.get?_push_of_some _ e) new fun c o q1 q2 q3 e=>Heap.get?_push_of_some _ (up3 c o q1 q2 q3 e)
theorem Ym{z TI TO i1 i2 l1 l2:Addr}{T k:Nat}{b:Bool}{xs ys:Array Value}{Q:Fin->Shared->Prop}(hh:A.handled=none)(D:ZipApart z TI TO i1 i2 l1 l2)(hz:ZH s.heap z TI TO T b)(ht:∃ o,s.heap.get? T=some o)
  (hTI:IsPair s.heap TI (.ref i1) (.ref i2)) (h1:s.heap.IsListIter i1 l1 k) (g1:s.heap.IsList l1 xs) (hx:xs[k]?=none)
  (hE:∀ h' e,(∀ c o,c≠z->c≠i1->c≠i2->s.heap.get? c=some o->h'.get? c=some o)->(∃ o,h'.get? e=some o/\o.cls=.type "StopIteration")->E (.ref e) {s with heap:=h'}) :
  wpAny (model prog w) A (Builtin.«zip.__next__» ⟨[.ref z],[]⟩) Q E s:=by
 show wpAny _ _ (field (.ref z) 2>>=_) _ _ _;refine wpAny_bind (wpAny_field hz rfl (x:=.bool false) rfl ?_)
 show wpAny _ _ (field (.ref z) 3>>=_) _ _ _;refine wpAny_bind (wpAny_field hz rfl (x:=.ref TI) rfl (wpAny_bind (wpAny_seqItems hTI rfl ?_)))
 show wpAny _ _ (Builtin.SmallTypes.ownedTupleIsFree (.ref z)>>=_) _ _ _
 refine wpAny_bind (Gr hz ht fun n1 z1 c1=>?_);rw[if_neg Bool.false_ne_true];simp only[List.forIn_toArray,List.forIn_cons,List.forIn_nil];refine wpAny_bind (wpAny_bind (wpAny_bind (wpAny_holding ?_)));show wpAny _ _ (Builtin.SmallTypes.nextOf (.ref i1)>>=_) _ _ _
 refine wpAny_bind (wpAny_nextOf_list_end hh (h1.at fun o e=>c1.extBut _ o D.i1z e) (g1.extBut c1.extBut D.l1z) hx fun n2 e c2 he=>?_);exact hE n2 e (fun c o q1 q2 q3 q=>c2 _ _ q2 (c1.extBut _ _ q1 q)) he
end
end DL
namespace DL
open PySem PySem.Spec PyProof.Rows L2
section
variable {prog:Program}{w:World}{A:Around}{E:Value->Shared->Prop}{s:Shared}
theorem P2{z TI TO i1 i2 l1 l2:Addr}{T k:Nat}{b:Bool}{xs ys:Array Value}{x y:Value}{Q:Option Value->Shared->Prop}(D:ZipApart z TI TO i1 i2 l1 l2)(hz:ZH s.heap z TI TO T b)(ht:∃ o,s.heap.get? T=some o)
  (hTI:IsPair s.heap TI (.ref i1) (.ref i2)) (h1:s.heap.IsListIter i1 l1 k) (h2:s.heap.IsListIter i2 l2 k) (g1:s.heap.IsList l1 xs) (g2:s.heap.IsList l2 ys) (hx:xs[k]?=some x) (hy:ys[k]?=some y)
  (hQ:∀ h',ZH h' z TI TO T true->IsPair h' TI (.ref i1) (.ref i2)->h'.IsListIter i1 l1 (k+1)->h'.IsListIter i2 l2 (k+1)->IsPair h' s.heap.objs.size x y ->
   (∀ c o,c≠z->c≠i1->c≠i2->s.heap.get? c=some o->h'.get? c=some o)->Q (some (.ref s.heap.objs.size)) {s with heap:=h'}) :
  wpAny (model prog w) A (pyNext (.ref z)) Q E s:=by
 have hT:s.TypeIs (.ref z) "zip":=⟨_,hz,rfl⟩
 unfold pyNext;exact wpAny_bind (wpAny_attempt (wpAny_callSpecial?_slot (name:=Str.ofString "__next__") hT F.slot_zip_next (wpAny_call_entry F.slot_zip_next hT F.entry_zip_next (DZ D hz ht hTI h1 h2 g1 g2 hx hy fun h' a1 a2 a3 a4 a5 a6=>wpAny_pure (hQ h' a1 a2 a3 a4 a5 a6)) (F.args_zip_next_1 _))))
theorem X7{z TI TO i1 i2 l1 l2:Addr}{T k:Nat}{b:Bool}{xs:Array Value}{Q:Option Value->Shared->Prop}(hh:A.handled=none)(D:ZipApart z TI TO i1 i2 l1 l2)(hz:ZH s.heap z TI TO T b)(ht:∃ o,s.heap.get? T=some o)
  (hTI:IsPair s.heap TI (.ref i1) (.ref i2)) (h1:s.heap.IsListIter i1 l1 k) (g1:s.heap.IsList l1 xs) (hx:xs[k]?=none)
  (hQ:∀ h',(∀ c o,c≠z->c≠i1->c≠i2->s.heap.get? c=some o->h'.get? c=some o)->Q none {s with heap:=h'}) :
  wpAny (model prog w) A (pyNext (.ref z)) Q E s:=by
 have hT:s.TypeIs (.ref z) "zip":=⟨_,hz,rfl⟩
 unfold pyNext;refine wpAny_bind (wpAny_attempt (wpAny_callSpecial?_slot (name:=Str.ofString "__next__") hT F.slot_zip_next (wpAny_call_entry F.slot_zip_next hT F.entry_zip_next (Ym (l2:=l2) (ys:=#[]) hh D hz ht hTI h1 g1 hx fun h' e k he=>?_) (F.args_zip_next_1 _))));obtain⟨o,ho,hce⟩:=he;refine wpAny_bind (wpAny_isInstance (T:="StopIteration") (b:=true) ⟨o,ho,hce⟩ isSubtype_stop ?_);exact wpAny_pure (hQ h' k)
end
section
variable {X:Cx}{pins:List (Addr×Obj)}{σ:L2.St}
theorem Kk{H:Hp}{s:Shared}{h':Heap}{ch:List Addr}{x y:V}{u1 u2:Value}{t':Nat}(I:Inv X pins σ H s)(hf:∀ b∈ch,eL X pins H b)(hin:∀ b∈ch,∃ o,s.heap.get? b=some o)(rx:RelV x u1)(ry:RelV y u2)
  (np:IsPair h' s.heap.objs.size u1 u2) (k:∀ b o,b∉ch->s.heap.get? b=some o->h'.get? b=some o) :
  Inv X pins σ (upd H s.heap.objs.size (.tup [x,y])) {s with heap:=h',toks:=t'}/\∀ b∈ch,eL X pins (upd H s.heap.objs.size (.tup [x,y])) b:=by
 have I1:Inv X pins σ (upd H s.heap.objs.size (.tup [x,y])) {s with heap:=s.heap.push {cls:=.type "tuple",data:=.seq #[u1,u2]}} :=
  I.laid (t':=s.toks) (fun b o e=>Heap.get?_push_of_some _ e) (Nat.le_refl _) (show ObjOk X.prog X.w _ _ _ (.tup [x,y]) from⟨⟨by show 2<=sizeLine;rw[sizeLine_eq];decide,NoD.new _ _ _⟩,[u1,u2],.cons rx (.cons ry .nil),IsTup.new _ _⟩)
 have hf':∀ b∈ch,eL X pins (upd H s.heap.objs.size (.tup [x,y])) b:=fun b hb=>by
  obtain⟨f0,f1,f2,f3,f4,f5⟩:=hf b hb;obtain⟨o,ho⟩:=hin b hb;exact⟨by rw[bR (Nat.ne_of_lt (Heap.lt_size ho))];exact f0,f1,f2,f3,f4,f5⟩
 refine⟨Jp (s:={s with heap:=s.heap.push {cls:=.type "tuple",data:=.seq #[u1,u2]}}) (h':=h') (t':=t') (ch:=ch) I1 (fun b o hb e=>?_) hf',hf'⟩;rcases Heap.get?_push_cases e with⟨rfl,rfl⟩ | e
 ·exact np
 ·exact k b o hb e
def PairsH(H:Hp)(xs ys:List V)(ps:List Addr):Prop:=∀ (j:Nat) (p:Addr),ps[j]?=some p->∃ x y,xs[j]?=some x/\ys[j]?=some y/\H p=some (.tup [x,y])
theorem PairsH.same{H H':Hp}{xs ys:List V}{ps:List Addr}(h:PairsH H xs ys ps)(e:Same H H'):PairsH H' xs ys ps:=fun j p q=>let ⟨x,y,h1,h2,h3⟩:=h j p q;⟨x,y,h1,h2,e _ _ h3⟩
theorem PairsH.snoc{H:Hp}{xs ys:List V}{ps:List Addr}{a:Addr}{x y:V}(h:PairsH H xs ys ps)(hx:xs[ps.length]?=some x)(hy:ys[ps.length]?=some y)(ha:H a=some (.tup [x,y])):PairsH H xs ys (ps++[a]):=fun j p q=>by
 rcases Nat.lt_or_ge j ps.length with c | c
 ·rw[List.getElem?_append_left c]at q;exact h j p q
 ·rw[List.getElem?_append_right c]at q;have:j-ps.length=0:=by
   rcases Nat.eq_zero_or_pos (j-ps.length) with z | z
   ·exact z
   ·rw[List.getElem?_eq_none (by simp;omega)]at q;cases q
  rw[this]at q
  cases q
  have e:j=ps.length:=by omega
  subst e;exact⟨x,y,hx,hy,ha⟩
theorem Ia{prog:Program}{w:World}{A:Around}{R:Result->Shared->Prop}{z TI TO i1 i2 l1 l2 S:Addr}{res:Value}{xs ys:List V}(hh:A.handled=none)(D:ZipApart z TI TO i1 i2 l1 l2)(Sz:S≠z)(S1:S≠i1)(S2:S≠i2)(S3:S≠TI)(S4:S≠TO)(hl:ys.length=xs.length)(hsz:xs.length<=1000) :
  ∀ (n k:Nat) (s:Shared) (H:Hp) (acc:Array Value) (c:Nat) (ps:List Addr) (T:Nat) (b:Bool),n+k=xs.length->Inv X pins σ H s->(∀ b∈[z,TI,TO,i1,i2,S],eL X pins H b)->(∀ b∈[z,TI,TO,i1,i2,S],∃ o,s.heap.get? b=some o) ->
   ZH s.heap z TI TO T b->(∃ o,s.heap.get? T=some o)->T≠z->T≠i1->T≠i2->T≠S->IsPair s.heap TI (.ref i1) (.ref i2)->s.heap.IsListIter i1 l1 k->s.heap.IsListIter i2 l2 k->SqL X.K H l1 xs->SqL X.K H l2 ys ->
   s.heap.get? S=some {cls:=.type "list",data:=.seq acc c}->acc.toList=ps.map .ref->ps.length=k->PairsH H xs ys ps ->
   (∀ s' H' acc' c' ps',Inv X pins σ H' s'->Same H H'->s'.heap.get? S=some {cls:=.type "list",data:=.seq acc' c'}->acc'.toList=ps'.map .ref->ps'.length=xs.length->PairsH H' xs ys ps'->R (.ok (.ret res)) s') ->
   codeAny (model prog w) A (.builtin "list.extend.loop" ⟨[.ref S,.ref z,res],[]⟩) R s
 | 0,k,s,H,acc,c,ps,T,b,hn,I,hf,hin,hz,ht,tz,t1,t2,tS,hTI,h1,h2,g1,g2,hS,ha,hk,hp,hR=>by
  obtain⟨its1,r1,p1,_⟩:=I.list g1;have m1:=r1.length
  refine codeAny_builtin F.entry_extend_loop ?_;rw[Around.under_plainId F.plain_extend_loop _];show wpAny _ A.in1 (pyNext (.ref z)>>=_) _ _ s
  refine wpAny_bind (X7 (xs:=its1.toArray) hh D hz ht hTI h1 p1.isList (by simp;omega) fun h' kp=>?_)
  refine wpAny_pure ?_;have I2:Inv X pins σ H {s with heap:=h'}:=Jp (t':=s.toks) (ch:=[z,TI,TO,i1,i2,S]) I (fun b o hb e=>by
   simp only[List.mem_cons,List.not_mem_nil,or_false,not_or]at hb;exact kp b o hb.1 hb.2.2.2.1 hb.2.2.2.2.1 e) hf
  exact hR _ H acc c ps I2 (fun _ _ e=>e) (kp _ _ Sz S1 S2 hS) ha (by omega) hp
 | n+1,k,s,H,acc,c,ps,T,b,hn,I,hf,hin,hz,ht,tz,t1,t2,tS,hTI,h1,h2,g1,g2,hS,ha,hk,hp,hR=>by
  obtain⟨its1,r1,p1,_⟩:=I.list g1;obtain⟨its2,r2,p2,_⟩:=I.list g2;have e1:xs[k]?=some (xs[k]'(by omega)):=List.getElem?_eq_getElem (by omega)
  have e2:ys[k]?=some (ys[k]'(by omega)):=List.getElem?_eq_getElem (by omega)
  obtain⟨u1,hu1,ru1⟩:=r1.get e1;obtain⟨u2,hu2,ru2⟩:=r2.get e2;refine codeAny_builtin F.entry_extend_loop ?_;rw[Around.under_plainId F.plain_extend_loop _];show wpAny _ A.in1 (pyNext (.ref z)>>=_) _ _ s
  refine wpAny_bind (P2 D hz ht hTI h1 h2 p1.isList p2.isList (by simpa using hu1) (by simpa using hu2) fun h' b1 b2 b3 b4 np kp=>?_)
  have hS':=kp _ _ Sz S1 S2 hS
  have asz:acc.size=k:=by
   have:=congrArg List.length ha
   rw[List.length_map]at this;simpa[hk] using this
  refine wpAny_bind (listUpdate_at hS' rfl ?_ (by rw[asz,sizeLine_eq];omega) (by simp;rw[asz,sizeLine_eq];omega))
  refine wpAny_pure ⟨plainId_quiet F.plain_extend_loop _,?_⟩
  -- behind the update
  obtain⟨h2',eh2⟩:∃ h2',h2'=h'.update S (Obj.mapSeq fun x=>x.push (.ref s.heap.objs.size)):=⟨_,rfl⟩;have hS2:h2'.get? S=some {cls:=.type "list",data:=.seq (acc.push (.ref s.heap.objs.size)) (c+1)}:=by
   rw[eh2,Heap.get?_update_self _ hS' rfl];simp[Obj.mapSeq]
  have sb:Heap.SameBut S h' h2':=by rw[eh2];exact Heap.SameBut.update ..
  rw[<- eh2];have lt:∀ b∈[z,TI,TO,i1,i2,S],b≠s.heap.objs.size:=fun b hb=>by
   obtain⟨o,ho⟩:=hin b hb;exact Nat.ne_of_lt (Heap.lt_size ho)
  have nz:=lt z (by simp)
  have nS:=lt S (by simp)
  have kp2:∀ b o,b∉[z,TI,TO,i1,i2,S]->s.heap.get? b=some o->h2'.get? b=some o:=fun b o hb e=>by
   simp only[List.mem_cons,List.not_mem_nil,or_false,not_or]at hb;exact sb.extBut _ _ hb.2.2.2.2.2 (kp b o hb.1 hb.2.2.2.1 hb.2.2.2.2.1 e)
  obtain⟨I2,hf2⟩:=Kk (t':=s.toks) I hf hin ru1 ru2 (sb.extBut _ _ (Ne.symm nS) np) kp2;have sm:Same H (upd H s.heap.objs.size (.tup [xs[k]'(by omega),ys[k]'(by omega)])):=cU (I.hok.fresh (Nat.le_refl _))
  refine Ia hh D Sz S1 S2 S3 S4 hl hsz n (k+1) {s with heap:=h2'} _ (acc.push (.ref s.heap.objs.size)) (c+1) (ps++[s.heap.objs.size]) T true (by omega) I2 hf2 (fun b hb=>?_) ?_ ?_ tz t1 t2 tS ?_ ?_ ?_ (sm.seq g1) (sm.seq g2) hS2 ?_ (by simp[hk]) ((hp.same sm).snoc (by rw[hk];exact e1) (by rw[hk];exact e2) cX) fun s' H' acc' c' ps' a1 a2 a3 a4 a5 a6=>hR s' H' acc' c' ps' a1 (fun b o e=>a2 _ _ (sm b o e)) a3 a4 a5 a6
  ·simp only[List.mem_cons,List.not_mem_nil,or_false]at hb;rcases hb with rfl | rfl | rfl | rfl | rfl | rfl
   ·exact⟨_,sb.extBut _ _ (Ne.symm Sz) b1⟩
   ·exact⟨_,sb.extBut _ _ (Ne.symm S3) b2⟩
   ·obtain⟨o,ho⟩:=hin b (by simp)
    exact⟨o,sb.extBut _ _ (Ne.symm S4) (kp _ _ D.TOz D.TOi1 D.TOi2 ho)⟩
   ·obtain⟨o,ho,_⟩:=b3;exact⟨o,sb.extBut _ _ (Ne.symm S1) ho⟩
   ·obtain⟨o,ho,_⟩:=b4;exact⟨o,sb.extBut _ _ (Ne.symm S2) ho⟩
   ·exact⟨_,hS2⟩
  ·exact sb.extBut _ _ (Ne.symm Sz) b1
  ·obtain⟨o,ho⟩:=ht;exact⟨o,sb.extBut _ _ tS (kp _ _ tz t1 t2 ho)⟩
  ·exact sb.extBut _ _ (Ne.symm S3) b2
  ·exact b3.at fun o e=>sb.extBut _ _ (Ne.symm S1) e
  ·exact b4.at fun o e=>sb.extBut _ _ (Ne.symm S2) e
  ·simp[ha]
end
end DL
namespace DL
open PySem PySem.Spec PyProof.Rows L2
open AutoSeq1 (wpAny_loadPart')
section
variable {X:Cx}{pins:List (Addr×Obj)}{σ:L2.St}
theorem Rf{prog:Program}{w:World}{A:Around}{R:Result->Shared->Prop}{z TI TO i1 i2 l1 l2 S:Addr}{res:Value}{xs ys:List V}(hh:A.handled=none)(D:ZipApart z TI TO i1 i2 l1 l2)(Sz:S≠z)(S1:S≠i1)(S2:S≠i2)(S3:S≠TI)(S4:S≠TO)(hl:ys.length=xs.length)(hsz:xs.length<=1000)(h0:0<xs.length)
  {s:Shared} {H:Hp} {c:Nat} (I:Inv X pins σ H s) (hf:∀ b∈[z,TI,TO,i1,i2,S],eL X pins H b)
  (hz:IsZip s.heap z TI TO .none) (hTI:IsPair s.heap TI (.ref i1) (.ref i2)) (hTO:IsPair s.heap TO .none .none) (h1:s.heap.IsListIter i1 l1 0) (h2:s.heap.IsListIter i2 l2 0) (g1:SqL X.K H l1 xs) (g2:SqL X.K H l2 ys)
  (hS:s.heap.get? S=some {cls:=.type "list",data:=.seq #[] c})
  (hR:∀ s' H' acc' c' ps',Inv X pins σ H' s'->Same H H'->s'.heap.get? S=some {cls:=.type "list",data:=.seq acc' c'}->acc'.toList=ps'.map .ref->ps'.length=xs.length->PairsH H' xs ys ps'->R (.ok (.ret res)) s') :
  codeAny (model prog w) A (.builtin "list.extend.loop" ⟨[.ref S,.ref z,res],[]⟩) R s:=by
 have hin:∀ b∈[z,TI,TO,i1,i2,S],∃ o,s.heap.get? b=some o:=fun b hb=>by
  obtain⟨o4,e4,_⟩:=h1;obtain⟨o5,e5,_⟩:=h2;simp only[List.mem_cons,List.not_mem_nil,or_false]at hb;rcases hb with rfl | rfl | rfl | rfl | rfl | rfl
  ·exact⟨_,hz⟩
  ·exact⟨_,hTI⟩
  ·exact⟨_,hTO⟩
  ·exact⟨_,e4⟩
  ·exact⟨_,e5⟩
  ·exact⟨_,hS⟩
 obtain⟨its1,r1,p1,_⟩:=I.list g1;obtain⟨its2,r2,p2,_⟩:=I.list g2;have e1:xs[0]?=some (xs[0]'(by omega)):=List.getElem?_eq_getElem (by omega)
 have e2:ys[0]?=some (ys[0]'(by omega)):=List.getElem?_eq_getElem (by omega)
 obtain⟨u1,hu1,ru1⟩:=r1.get e1;obtain⟨u2,hu2,ru2⟩:=r2.get e2;refine codeAny_builtin F.entry_extend_loop ?_;rw[Around.under_plainId F.plain_extend_loop _];show wpAny _ A.in1 (pyNext (.ref z)>>=_) _ _ s
 refine wpAny_bind (wpAny_pyNext_zip_item D hz hTI hTO h1 h2 p1.isList p2.isList (by simpa using hu1) (by simpa using hu2) fun h' b1 bTO b3 b4 np hsize kp=>?_)
 have hS':=kp _ _ Sz S4 S1 S2 hS
 refine wpAny_bind (listUpdate_at hS' rfl ?_ (by simp) (by simp))
 refine wpAny_pure ⟨plainId_quiet F.plain_extend_loop _,?_⟩;obtain⟨h2',eh2⟩:∃ h2',h2'=h'.update S (Obj.mapSeq fun x=>x.push (.ref s.heap.objs.size)):=⟨_,rfl⟩;have hS2:h2'.get? S=some {cls:=.type "list",data:=.seq #[.ref s.heap.objs.size] (c+1)}:=by
  rw[eh2,Heap.get?_update_self _ hS' rfl];simp[Obj.mapSeq]
 have sb:Heap.SameBut S h' h2':=by rw[eh2];exact Heap.SameBut.update ..
 rw[<- eh2];have lt:∀ b∈[z,TI,TO,i1,i2,S],b≠s.heap.objs.size:=fun b hb=>by
  obtain⟨o,ho⟩:=hin b hb;exact Nat.ne_of_lt (Heap.lt_size ho)
 have nS:=lt S (by simp)
 have kp2:∀ b o,b∉[z,TI,TO,i1,i2,S]->s.heap.get? b=some o->h2'.get? b=some o:=fun b o hb e=>by
  simp only[List.mem_cons,List.not_mem_nil,or_false,not_or]at hb;exact sb.extBut _ _ hb.2.2.2.2.2 (kp b o hb.1 hb.2.2.1 hb.2.2.2.1 hb.2.2.2.2.1 e)
 have np2:=sb.extBut _ _ (Ne.symm nS) np
 obtain⟨I2,hf2⟩:=Kk (t':=s.toks) I hf hin ru1 ru2 np2 kp2;have sm:Same H (upd H s.heap.objs.size (.tup [xs[0]'(by omega),ys[0]'(by omega)])):=cU (I.hok.fresh (Nat.le_refl _))
 have bz:ZH h2' z TI TO s.heap.objs.size false:=sb.extBut _ _ (Ne.symm Sz) b1
 have bTI:=sb.extBut _ _ (Ne.symm S3) (kp _ _ D.TIz D.TITO D.TIi1 D.TIi2 hTI)
 refine Ia hh D Sz S1 S2 S3 S4 hl hsz (xs.length-1) 1 {s with heap:=h2'} _ #[.ref s.heap.objs.size] (c+1) [s.heap.objs.size] s.heap.objs.size false (by omega) I2 hf2 (fun b hb=>?_) bz ⟨_,np2⟩ (Ne.symm (lt z (by simp))) (Ne.symm (lt i1 (by simp))) (Ne.symm (lt i2 (by simp))) (Ne.symm nS) bTI (b3.at fun o e=>sb.extBut _ _ (Ne.symm S1) e) (b4.at fun o e=>sb.extBut _ _ (Ne.symm S2) e) (sm.seq g1) (sm.seq g2) hS2 rfl rfl ?_ fun s' H' acc' c' ps' a1 a2 a3 a4 a5 a6=>hR s' H' acc' c' ps' a1 (fun b o e=>a2 _ _ (sm b o e)) a3 a4 a5 a6
 ·simp only[List.mem_cons,List.not_mem_nil,or_false]at hb;rcases hb with rfl | rfl | rfl | rfl | rfl | rfl
  ·exact⟨_,bz⟩
  ·exact⟨_,bTI⟩
  ·exact⟨_,sb.extBut _ _ (Ne.symm S4) bTO⟩
  ·obtain⟨o,ho,_⟩:=b3;exact⟨o,sb.extBut _ _ (Ne.symm S1) ho⟩
  ·obtain⟨o,ho,_⟩:=b4;exact⟨o,sb.extBut _ _ (Ne.symm S2) ho⟩
  ·exact⟨_,hS2⟩
 ·exact PairsH.snoc (ps:=[]) (fun j p q=>by simp at q) e1 e2 cX
structure ZNew (X:Cx) (pins:List (Addr×Obj)) (σ:L2.St) (H:Hp) (s:Shared) (z TI TO i1 i2 l1 l2:Addr) (xs ys:List V):Prop where
 D:ZipApart z TI TO i1 i2 l1 l2
 hl:ys.length=xs.length
 hsz:xs.length<=1000
 h0:0<xs.length
 I:Inv X pins σ H s
 hf:∀ b∈[z,TI,TO,i1,i2],eL X pins H b
 hz:IsZip s.heap z TI TO .none
 hTI:IsPair s.heap TI (.ref i1) (.ref i2)
 hTO:IsPair s.heap TO .none .none
 h1:s.heap.IsListIter i1 l1 0
 h2:s.heap.IsListIter i2 l2 0
 g1:SqL X.K H l1 xs
 g2:SqL X.K H l2 ys
theorem J1{prog:Program}{w:World}{A:Around}{E:Value->Shared->Prop}{Q:List Value->Shared->Prop}{H:Hp}{s:Shared}{z TI TO i1 i2 l1 l2:Addr}{xs ys:List V}(hh:A.handled=none)(N:ZNew X pins σ H s z TI TO i1 i2 l1 l2 xs ys)
  (hQ:∀ s' H' (acc:Array Value) ps',Inv X pins σ H' s'->Same H H'->acc.toList=ps'.map .ref->ps'.length=xs.length->PairsH H' xs ys ps'->Q acc.toList s'):wpAny (model prog w) A (collect (.ref z)) Q E s:=by
 obtain⟨D,hl,hsz,h0,I,hf,hz,hTI,hTO,h1,hb2,g1,g2⟩:=N;unfold collect;refine wpAny_bind (wpAny_runValue (codeAny_builtin F.entry_proto_collect ?_));rw[Around.under_plainId F.plain_proto_collect _];show wpAny _ A.in1 (newList []>>=fun l=>again (.builtin "list.__iadd__" ⟨[l,.ref z],[]⟩)) _ _ s
 refine wpAny_bind (wpAny_newObj_type (wpAny_pure ⟨plainId_quiet F.plain_list_iadd _,codeAny_builtin F.entry_list_iadd ?_⟩));rw[Around.under_plainId F.plain_list_iadd _];show wpAny _ A.in1 (Builtin.List.listExtendWith (.ref s.heap.objs.size) (.ref z) (.ref s.heap.objs.size)) _ _ _
 have hS:(s.heap.push {cls:=.type "list",data:=.seq ([]:List Value).toArray}).get? s.heap.objs.size=some {cls:=.type "list",data:=.seq #[] 0}:=Heap.get?_push_size _ rfl
 have lt:∀ {c o},s.heap.get? c=some o->s.heap.objs.size≠c:=fun e=>Ne.symm (Nat.ne_of_lt (Heap.lt_size e))
 have hz':IsZip (s.heap.push {cls:=.type "list",data:=.seq ([]:List Value).toArray}) z TI TO .none:=Heap.get?_push_of_some _ hz
 unfold Builtin.List.listExtendWith;refine wpAny_bind (wpAny_typeOf (T:="zip") ⟨_,hz',rfl⟩ ?_);have nz:s.heap.objs.size≠z:=lt hz
 rw[if_neg (by simp[Builtin.List.listSameRef,nz])]
 refine wpAny_bind (wpAny_pyIter_zip hz' ?_);refine wpAny_bind (wpAny_holding (c9 ⟨_,hz',rfl⟩ ?_));rw[Bool.true_or,if_pos rfl];refine wpAny_bind (wpAny_rule (wpAny_bind ?_));unfold Builtin.List.listTouch;refine wpAny_bind (listUpdate_at hS rfl ?_ (by simp) (by simp))
 have hS1:((s.heap.push {cls:=.type "list",data:=.seq ([]:List Value).toArray}).update s.heap.objs.size (Obj.mapSeq fun x=>x.push .none)).get? s.heap.objs.size=some {cls:=.type "list",data:=.seq #[.none] 1}:=by
  rw[Heap.get?_update_self _ hS rfl];simp[Obj.mapSeq]
 refine listUpdate_at hS1 rfl ?_ (by simp;rw[sizeLine_eq];decide) (by simp)
 obtain⟨h2,eh2⟩:∃ h2,h2=((s.heap.push {cls:=.type "list",data:=.seq ([]:List Value).toArray}).update s.heap.objs.size (Obj.mapSeq fun x=>x.push .none)).update s.heap.objs.size (Obj.mapSeq fun x=>x.pop):=⟨_,rfl⟩;have hS2:h2.get? s.heap.objs.size=some {cls:=.type "list",data:=.seq #[] 2}:=by
  rw[eh2,Heap.get?_update_self _ hS1 rfl];simp[Obj.mapSeq]
 have kp:∀ b o,s.heap.get? b=some o->h2.get? b=some o:=fun b o e=>by
  rw[eh2];exact(Heap.SameBut.update ..).extBut _ _ (Ne.symm (lt e)) ((Heap.SameBut.update ..).extBut _ _ (Ne.symm (lt e)) (Heap.get?_push_of_some _ e))
 show wpAny _ A.in1 (again _) _ _ {s with heap:=_}
 rw[<- eh2];refine wpAny_pure ⟨plainId_quiet F.plain_extend_loop _,?_⟩;obtain⟨o4,e4,_⟩:=id h1;obtain⟨o5,e5,_⟩:=id hb2;refine Rf (X:=X) (pins:=pins) (σ:=σ) (s:={s with heap:=h2}) hh D nz (lt e4) (lt e5) (lt hTI) (lt hTO) hl hsz h0 (I.kept (t':=s.toks) kp) (fun b hb=>?_) (kp _ _ hz) (kp _ _ hTI) (kp _ _ hTO) (h1.at fun o e=>kp _ _ e) (hb2.at fun o e=>kp _ _ e) g1 g2 hS2 fun s' H' acc' c' ps' a1 a2 a3 a4 a5 a6=>?_
 ·rcases List.mem_append.mp (show b∈[z,TI,TO,i1,i2]++[s.heap.objs.size] from hb) with q | q
  ·exact hf b q
  ·rw[List.mem_singleton.mp q];exact I.fpOk (Nat.le_refl _) (I.hok.fresh (Nat.le_refl _))
 ·show wpAny _ A (load s.heap.objs.size>>=_) _ _ _
  exact wpAny_bind (wpAny_load a3 (wpAny_pure (hQ s' H' acc' ps' a1 a2 a4 a5 a6)))
end
end DL
namespace DL
open PySem PySem.Spec PyProof.Rows L2
open AutoSeq1 (wpAny_loadPart')
section
variable {X:Cx}{pins:List (Addr×Obj)}{σ:L2.St}
theorem w8(H:Hp)(z TI TO i1 i2 l1 l2:Addr)(xs ys:List V):Meets (Builtin.«tuple.__new__» ⟨[.type "tuple",.ref z],[]⟩)
  (fun A R s=>A.handled=none/\ZNew X pins σ H s z TI TO i1 i2 l1 l2 xs ys/\∀ (s':Shared) (H':Hp) (acc:Array Value) (ps':List Addr),Inv X pins σ H' s'->Same H H'->acc.toList=ps'.map .ref->ps'.length=xs.length->PairsH H' xs ys ps' ->
   R (.ok (.ret (.ref s'.heap.objs.size))) {s' with heap:=s'.heap.push {cls:=.type "tuple",data:=.seq acc}}) :=
 .of_wp fun prog w A R s hs=>by
  obtain⟨hh,N,h⟩:=hs;have hr:=N.hz
  have hT:s.TypeIs (.ref z) "zip":=⟨_,hr,rfl⟩
  have h10:=N.hsz
  obtain⟨hp,g,d,tk,os⟩:=s;have hsub:=sub_tuple_self
  have hinit:=init_tuple_lookup
  have hmh:=madeHere_tuple
  wp_walk using wpAny_loadPart' hr,wpAny_typeOf hT,J1 (A:=A.in1) hh N
  intro s' H' acc ps' a1 a2 a3 a4 a5;show wpAny _ _ (Builtin.Tuple.tupleExact acc.toList.toArray>>=fun v=>ret v) _ _ _
  unfold Builtin.Tuple.tupleExact;have e:acc.toList.toArray=acc:=by simp
  rw[e];have hs:acc.size=xs.length:=by
   have:=congrArg List.length a3
   rw[List.length_map,a4]at this;simpa using this
  exact wpAny_bind (wpAny_newObj_type (wpAny_pure ⟨_,rfl,h s' H' acc ps' a1 a2 a3 a4 a5⟩) (show acc.size<=sizeLine by rw[hs,sizeLine_eq];omega))
theorem z9{A:Around}{E:Value->Shared->Prop}{prog:Program}{w:World}{H:Hp}{s:Shared}{z TI TO i1 i2 l1 l2:Addr}{xs ys:List V}{Q:Value->Shared->Prop}(hh:A.handled=none)(N:ZNew X pins σ H s z TI TO i1 i2 l1 l2 xs ys)
  (h:∀ (s':Shared) (H':Hp) (acc:Array Value) (ps':List Addr),Inv X pins σ H' s'->Same H H'->acc.toList=ps'.map .ref->ps'.length=xs.length->PairsH H' xs ys ps'->Q (.ref s'.heap.objs.size) {s' with heap:=s'.heap.push {cls:=.type "tuple",data:=.seq acc}}) :
  wpAny (model prog w) A (call (.type "tuple") [.ref z]) Q E s :=
 callType_new F.called_tuple (by decide) (F.typeCall_tuple_1 _) (F.newCall_tuple_1 _) (fun obj=>F.args_object_init_2 obj _) F.entry_tuple_new (w8 (X:=X) (pins:=pins) (σ:=σ) H z TI TO i1 i2 l1 l2 xs ys) ⟨hh,N,fun s' H' acc ps' a1 a2 a3 a4 a5=>⟨⟨_,Heap.get?_push_size _ rfl,rfl⟩,h s' H' acc ps' a1 a2 a3 a4 a5⟩⟩
end
theorem Jj{K:PySem.W.Frag}{Z:Addr->Prop}{m:Mu}{H H':Hp}(e:Ext K Z m H m H'):∀ {qs rs:List PyData} {xs ys:List V} {ps:List Addr},RPs K Z m H qs xs->RPs K Z m H rs ys->rs.length=qs.length->ps.length=qs.length->PairsH H' xs ys ps->RPs K Z m H' ((qs.zip rs).map fun z=>.tuple [z.1,z.2]) (ps.map V.ref)
 | [],[],_,_,ps,h,g,_,hl,_=>by
  have:ps=[]:=List.length_eq_zero_iff.mp hl
  subst this;simp[RPs]
 | q::qs,r::rs,xs,ys,p::ps,h,g,h1,h2,hp=>by
  simp only[RPs]at h g;obtain⟨x,xs',rfl,a1,a2⟩:=h;obtain⟨y,ys',rfl,b1,b2⟩:=g;obtain⟨x0,y0,c1,c2,c3⟩:=hp 0 p rfl
  cases c1
  cases c2
  simp only[List.zip_cons_cons,List.map_cons,RPs];refine⟨_,_,rfl,?_,Jj e a2 b2 (by simpa using h1) (by simpa using h2) fun j a q=>?_⟩
  ·simp only[RP,RPs];exact⟨p,[x,y],rfl,.inl (.inl c3),_,_,rfl,RP.ext e _ _ a1,_,_,rfl,RP.ext e _ _ b1,rfl⟩
  ·have:=hp (j+1) a (by simpa using q)
   simpa using this
 | [],_::_,_,_,_,_,_,h1,_,_=>by simp at h1
 | _::_,[],_,_,_,_,_,h1,_,_=>by simp at h1
 | _::_,_::_,_,_,[],_,_,_,h2,_=>by simp at h2
section
variable {X:Cx}{a b:Expr}{f g:DE}{pos p p2 pos2:Pos}
@[simp] def xD(f g:DE):DE:=fun d m Q=>f d m fun x m1=>g d m1 fun y m2=>∃ qs rs,x=.dat (.list qs)/\y=.dat (.list rs)/\rs.length=qs.length/\0<qs.length/\qs.length<=1000/\Q (.dat (.tuple ((qs.zip rs).map fun z=>.tuple [z.1,z.2]))) m2
theorem F9(hc:X.calm=true)(hg:Gl X "tuple")(hm:X.mg "tuple"=none)(hg2:Gl X "zip")(hm2:X.mg "zip"=none)(ha:PE X a (LE X.K f))(hb:PE X b (LE X.K g))(hs:starEach [a,b] X.env=[(false,eval a X.env),(false,eval b X.env)]:=by rfl)(hs2:starEach [b] X.env=[(false,eval b X.env)]:=by rfl)
  (hs3:starEach [.Call (.Name "zip" p2) [a,b] [] pos2] X.env=[(false,eval (.Call (.Name "zip" p2) [a,b] [] pos2) X.env)]:=by rfl):PE X (.Call (.Name "tuple" p) [.Call (.Name "zip" p2) [a,b] [] pos2] [] pos) (LE X.K (xD f g)):=by
 intro pins s σ H Q I h;obtain⟨Z,d,m,R,ok,rs,h,k⟩:=h;have hA:=Bj (X:=X) ha (Bj hb Hs (by rw[hs2];rfl)) (by rw[hs,hs2]) pos2 pins s σ H (fun vs H1=>∃ a1 a2 xs ys qs rs m1,vs=[.ref a1,.ref a2]/\SqL X.K H1 a1 xs/\SqL X.K H1 a2 ys/\RPs X.K Z m1 H1 qs xs/\RPs X.K Z m1 H1 rs ys/\rs.length=qs.length/\0<qs.length/\qs.length<=1000 /\
   R (.dat (.tuple ((qs.zip rs).map fun z=>.tuple [z.1,z.2]))) m1/\Ext X.K Z m H m1 H1/\Ok X.K Z m1 H1) I ⟨Z,d,m,fun ds m1=>match ds with | [x,y]=>∃ qs rs,x=.dat (.list qs)/\y=.dat (.list rs)/\rs.length=qs.length/\0<qs.length/\qs.length<=1000/\R (.dat (.tuple ((qs.zip rs).map fun z=>.tuple [z.1,z.2]))) m1 | _=>False,ok,rs,h,fun xs m1 vs H1 q e1 ok1 rd=>?_⟩
 ·refine Call_ (gQ I hg hm dY (PyProof.Rows.callWith_type1 ?_ hs3 rfl));rw[hs3];show wpAny _ _ (spliced ((false,eval (.Call (.Name "zip" p2) [a,b] [] pos2) X.env)::[])) _ _ s
  refine Calls.spliced_cons (Call_ (gQ I hg2 hm2 Ti (PyProof.Rows.callWith_type1 (bA hA fun us s1 ⟨vs,H1,I1,r1,q1⟩=>?_) (by rw[hs,hs2]) (by rw[hs2];rfl))))
  obtain⟨a1,a2,xs,ys,qs,rs,m1,e,h1,h2,rp,rq,n1,n2,n3,q,e1,ok1⟩:=q1;subst e;obtain⟨u1,u2,rfl,ru1,ru2⟩:=Np r1
  cases ru1
  cases ru2
  obtain⟨its1,rv1,pt1,l1⟩:=I1.list h1;obtain⟨its2,rv2,pt2,l2⟩:=I1.list h2;refine call_zip_2 pt1.isList pt2.isList fun h' b1 b2 b3 b4 b5 hsize kp=>?_;refine Calls.spliced_nil ?_;obtain⟨n,hn⟩:∃ n,n=s1.heap.objs.size:=⟨_,rfl⟩;rw[<- hn]at b1 b2 b3 b4 b5 ⊢;have D:ZipApart (n+4) (n+2) (n+3) n (n+1) a1 a2:=c7 n a1 a2 (by obtain⟨o,ho,_⟩:=pt1.isList;rw[hn];exact Heap.lt_size ho) (by obtain⟨o,ho,_⟩:=pt2.isList;rw[hn];exact Heap.lt_size ho)
  have lx:=rp.length
  have ly:=rq.length
  have N:ZNew X pins σ H1 {s1 with heap:=h'} (n+4) (n+2) (n+3) n (n+1) a1 a2 xs ys:=by
   refine⟨D,by omega,by omega,by omega,I1.kept (t':=s1.toks) kp,fun c hc=>?_,b1,b2,b3,b4,b5,h1,h2⟩
   have hle:s1.heap.objs.size<=c:=by
    simp only[List.mem_cons,List.not_mem_nil,or_false]at hc;subst hn;rcases hc with rfl | rfl | rfl | rfl | rfl
    ·exact Nat.le_add_right _ 4
    ·exact Nat.le_add_right _ 2
    ·exact Nat.le_add_right _ 3
    ·exact Nat.le_refl _
    ·exact Nat.le_add_right _ 1
   exact I1.fpOk hle (I1.hok.fresh hle)
  refine z9 (I1.ok.hd hc) N fun s' H' acc ps' c1 c2 c3 c4 c5=>?_;have hp:H' s'.heap.objs.size=none:=c1.hok.fresh (Nat.le_refl _)
  have sm:Same H' (upd H' s'.heap.objs.size (.tup (ps'.map V.ref))):=cU hp
  have sm1:Same H1 (upd H' s'.heap.objs.size (.tup (ps'.map V.ref))):=fun b o e=>sm _ _ (c2 b o e)
  have hv:Vals (ps'.map V.ref) acc.toList:=by
   rw[c3];clear c3 c4 c5 sm sm1
   induction ps' with
   | nil=>exact .nil
   | cons p ps ih=>exact .cons rfl ih
  refine⟨.ref s'.heap.objs.size,_,c1.laid (t':=s'.toks) (o:=.tup (ps'.map V.ref)) (fun b o q=>Heap.get?_push_of_some _ q) (Nat.le_refl _) ⟨⟨by rw[List.length_map,c4,sizeLine_eq];omega,NoD.new _ _ _⟩,acc.toList,hv,by simpa using IsTup.new _ _⟩,rfl,k _ m1 _ _ q (e1.trans (ok1.ext sm1)) (ok1.grow sm1) ?_⟩
  simp only[RD,RP];exact⟨_,_,rfl,.inl (.inl cX),Jj (ok1.ext sm1) rp rq n1 (by omega) (c5.same sm)⟩
 ·match xs,q,rd with
  | [],q,_=>exact q.elim
  | [_],q,_=>exact q.elim
  | _::_::_::_,q,_=>exact q.elim
  | [x,y],q,rd =>
  obtain⟨qs,rs,rfl,rfl,n1,n2,n3,q⟩:=q;obtain⟨v,w,rfl,g1,g2⟩:=rd.two;simp only[RD,RP]at g1 g2;obtain⟨a1,xs,rfl,_,h1,h2⟩:=g1;obtain⟨a2,ys,rfl,_,h3,h4⟩:=g2;exact⟨a1,a2,xs,ys,qs,rs,m1,rfl,h1,h3,h2,h4,n1,n2,n3,q,e1,ok1⟩
end
end DL
namespace DL
open PySem PySem.Spec PyProof.Rows L2
section
variable {X:Cx}{o e:Expr}{f g:DE}
@[simp] def Ln:PyData->Bool
 | .none=>true
 | _=>false
@[simp] def Dc:D2
 | .dat p,.dat .none,m,Q=>Q (.dat (.bool (Ln p))) m
 | _,_,_,_=>False
theorem BO{K:PySem.W.Frag}{Z:Addr->Prop}{m:Mu}{H:Hp}{p:PyData}{x:V}(h:RP K Z m H p x):decide (x=.non)=Ln p:=by
 cases p with
 | none=>simp only[RP]at h;subst h;rfl
 | bool b=>simp only[RP]at h;subst h;rfl
 | int i=>simp only[RP]at h;subst h;rfl
 | str z=>simp only[RP]at h;subst h;rfl
 | tuple xs=>simp only[RP]at h;obtain⟨a,vs,rfl,_⟩:=h;rfl
 | list xs=>simp only[RP]at h;obtain⟨a,vs,rfl,_⟩:=h;rfl
 | dict _=>simp only[RP]at h;obtain⟨a,_,_,_,rfl,_⟩:=h;rfl
theorem Qd:dO X (compareOp .Is) Dc:=by
 intro pins s σ H Z m x y dx dy v u R Q I ok rx ry r1 r2 h k;unfold Dc at h
 split at h
 ·have e:y=.non:=by simpa only[RD,RP] using r2
  refine Ry pins s σ H _ _ v u Q I rx ry ⟨e,?_⟩;rw[BO r1];exact k _ m _ H h Ext.refl ok .ofBl
 ·exact h.elim
@[simp] def Be:D2
 | .cel c,.dat (.int k),m,Q=>∃ xs,m c=some (.l xs)/\0<=k/\k<=1000/\xs.length*k.toNat<=sizeLine/\Q (.dat (.list (List.replicate k.toNat xs).flatten)) m
 | _,_,_,_=>False
theorem Ky{K:PySem.W.Frag}{Z:Addr->Prop}{m:Mu}{H:Hp}{xs:List PyData}{vs:List V}(h:RPs K Z m H xs vs):∀ n:Nat,RPs K Z m H (List.replicate n xs).flatten (List.replicate n vs).flatten
 | 0=>by simp[RPs]
 | n+1=>by
  rw[List.replicate_succ,List.replicate_succ,List.flatten_cons,List.flatten_cons];exact h.append (Ky h n)
theorem ER:dO X (binaryOp .Mult) Be:=by
 intro pins s σ H Z m x y dx dy v u R Q I ok rx ry r1 r2 h k;unfold Be at h
 split at h
 ·rename_i c kk;obtain⟨xs,hm,k0,k1,hz,q⟩:=h;obtain⟨rfl,_⟩:=r1
  cases r2.int
  obtain⟨vs,h1,h2⟩:=ok.l hm;refine R4 pins s σ H _ _ v u Q I rx ry ⟨_,_,vs,rfl,rfl,h1,by omega,by omega,by rw[h2.length];exact hz,fun p hp=>?_⟩
  have sm:Same H (upd H p (.lst (List.replicate kk.toNat vs).flatten)):=cU hp
  refine k _ m _ _ q (ok.ext sm) (ok.grow sm) ?_;simp only[RD,RP];exact⟨p,_,rfl,fJ ok hp,.inl (.inl cX),RPs.ext (ok.ext sm) _ _ (Ky h2 _)⟩
 ·exact h.elim
@[simp] def sV(fo g:DE):DE:=fun d m Q=>fo d m fun o m1=>∃ c,o=.cel c/\(∃ ys,m1 c=some (.l ys))/\g d m1 fun x m2=>∃ xs ys b,x=.cel b/\m2 c=some (.l xs)/\m2 b=some (.l ys)/\xs.length+ys.length<=sizeLine/\Q (.dat .none) (aY m2 c (.l (xs++ys)))
theorem L1{apos cpos:Pos}(ho:PE X o (LE X.K f))(he:PE X e (LE X.K g))(hbase:attributeBase o "extend" X.env (eval o X.env)=eval o X.env:=by rfl)
  (hfew:((backTo cpos (starEach [e] X.env)).all (fun x=>!x.1)&&(backToKw cpos (keywordEach [] X.env)).all (fun x=>x.1.isSome)&&decide ([e].length+([]:List Keyword).length+(if ([]:List Keyword).isEmpty then 0 else 1)<30))=true:=by rfl)
  (hline:(apos.endLine==cpos.line)=true:=by rfl) (hs:starEach [e] X.env=(false,eval e X.env)::starEach [] X.env:=by rfl):PE X (.Call (.Attribute o "extend" apos) [e] [] cpos) (LE X.K (sV f g)) :=
 PE.imp (uY (T:="list") (id:="list.extend") (name:="extend") PySem.F.plainAttrs_list PySem.F.slot_list_extend PySem.F.type_list_extend M5 ho (gZ he iH hs) hbase hfew hline hs rfl) fun s H Q h=>by
  obtain⟨Z,d,m,R,ok,rs,h,k⟩:=h;refine⟨Z,d,m,_,ok,rs,h,fun x m1 v H1 ⟨c,ex,⟨xs0,hx0⟩,q⟩ e1 ok1 rd=>?_⟩;subst ex;obtain⟨rfl,hc⟩:=rd;obtain⟨vs0,g0,_⟩:=ok1.l hx0;refine⟨.inl ⟨rfl,vs0,.inl (.inl g0)⟩,Z,d,m1,_,ok1,rs.ext e1,q,fun y m2 w H2 ⟨xs,ys,b,ey,hm,hm2,hz,q2⟩ e2 ok2 rd2=>?_⟩;subst ey;obtain⟨rfl,_⟩:=rd2;obtain⟨vs,g1,g2⟩:=ok2.l hm;obtain⟨ws,g3,g4⟩:=ok2.l hm2;refine⟨c,b,vs,ws,rfl,rfl,g1,g3,by rw[g2.length,g4.length];exact hz,?_⟩
  exact k _ _ _ _ q2 (e1.trans (e2.trans (Ext.put ok2 hm g1))) (ok2.put hm g1 (show RPs _ _ _ _ _ _ from g2.append g4)) (by simp only[RD,RP])
@[simp] def rZ(fo g:DE):DE:=fun d m Q=>fo d m fun o m1=>∃ c,o=.cel c/\(∃ ys,m1 c=some (.l ys))/\g d m1 fun x m2=>∃ (xs:List PyData) (i:Nat) (p:PyData),x=.dat (.int i)/\m2 c=some (.l xs)/\i<1000000/\xs[i]?=some p/\Q (.dat p) (aY m2 c (.l (xs.eraseIdx i)))
theorem RPs.eraseIdx{K:PySem.W.Frag}{Z:Addr->Prop}{m:Mu}{H:Hp}{xs:List PyData}{vs:List V}(h:RPs K Z m H xs vs)(i:Nat):RPs K Z m H (xs.eraseIdx i) (vs.eraseIdx i):=by
 rw[List.eraseIdx_eq_take_drop_succ,List.eraseIdx_eq_take_drop_succ];exact(h.take _).append (h.drop _)
theorem AV{apos cpos:Pos}(ho:PE X o (LE X.K f))(he:PE X e (LE X.K g))(hbase:attributeBase o "pop" X.env (eval o X.env)=eval o X.env:=by rfl)
  (hfew:((backTo cpos (starEach [e] X.env)).all (fun x=>!x.1)&&(backToKw cpos (keywordEach [] X.env)).all (fun x=>x.1.isSome)&&decide ([e].length+([]:List Keyword).length+(if ([]:List Keyword).isEmpty then 0 else 1)<30))=true:=by rfl)
  (hline:(apos.endLine==cpos.line)=true:=by rfl) (hs:starEach [e] X.env=(false,eval e X.env)::starEach [] X.env:=by rfl):PE X (.Call (.Attribute o "pop" apos) [e] [] cpos) (LE X.K (rZ f g)) :=
 PE.imp (uY (T:="list") (id:="list.pop") (name:="pop") PySem.F.plainAttrs_list PySem.F.slot_list_pop PySem.F.type_list_pop DU ho (gZ he iH hs) hbase hfew hline hs rfl) fun s H Q h=>by
  obtain⟨Z,d,m,R,ok,rs,h,k⟩:=h;refine⟨Z,d,m,_,ok,rs,h,fun x m1 v H1 ⟨c,ex,⟨xs0,hx0⟩,q⟩ e1 ok1 rd=>?_⟩;subst ex;obtain⟨rfl,hc⟩:=rd;obtain⟨vs0,g0,_⟩:=ok1.l hx0;refine⟨.inl ⟨rfl,vs0,.inl (.inl g0)⟩,Z,d,m1,_,ok1,rs.ext e1,q,fun y m2 w H2 ⟨xs,i,p,ey,hm,hi,hx,q2⟩ e2 ok2 rd2=>?_⟩;subst ey
  cases rd2.int
  obtain⟨vs,g1,g2⟩:=ok2.l hm;obtain⟨y,hy,ry⟩:=g2.get hx;have hlt:i<vs.length:=(List.getElem?_eq_some_iff.mp hy).1
  refine⟨c,vs,_,i,y,rfl,rfl,g1,by omega,by omega,?_,hy,?_⟩
  ·unfold seqIndex?;have q1:¬ ((i:Int)<0):=by omega
   simp[q1];omega
  ·have e3:Ext X.K Z m2 H2 (aY m2 c (.l (xs.eraseIdx i))) (upd H2 c (.lst (vs.eraseIdx i))):=Ext.put ok2 hm g1
   exact k _ _ _ _ q2 (e1.trans (e2.trans e3)) (ok2.put hm g1 (show RPs _ _ _ _ _ _ from g2.eraseIdx i)) (RD.ext e3 (d:=.dat p) ry)
end
end DL
namespace DL
open PySem PySem.Spec PyProof.Rows L2
section
variable {K:PySem.W.Frag}{Z:Addr->Prop}{m m1:Mu}{H H1:Hp}
theorem Ok.off{a:Addr}(ok:Ok K Z m H):Ok K Z (dL m a) H :=
 ⟨fun b c h=>by
  unfold dL at h
  split at h
  ·cases h
  ·obtain⟨o,h1,h2⟩:=ok.g b c h;exact⟨o,h1,h2.lift fun p v q=>RP.tr (fun _ _ q=>q) (fun b ws q1 q2=>⟨⟨oK q1.1,q1.2⟩,q2⟩) p v q⟩,fun b hz=>⟨oK (ok.z b hz).1,(ok.z b hz).2⟩⟩
theorem Ext.off{a:Addr}(e:Ext K Z m H m1 H1)(h:m a=none):Ext K Z m H (dL m1 a) H1 :=
 ⟨e.t,fun b vs h1 h2=>let ⟨q1,q2⟩:=e.l b vs h1 h2;⟨oK q1,q2⟩,e.z,fun b hb=>by
  unfold dL
  split
  ·rename_i q;rw[q,h]at hb;cases hb
  ·exact e.c b hb,e.fz,fun b hb=>by
  unfold dL
  split
  ·rename_i q;rw[q,h]at hb;cases hb
  ·exact e.fm b hb⟩
end
end DL
namespace DL
open PySem PySem.Spec PyProof.Rows L2
section
variable {X:Cx}{pos:Pos}
@[simp] def Az:List (DE×DE)->bO->Mu->(List (aN×PyData)->Mu->Prop)->Prop
 | [],_,m,Q=>Q [] m
 | (fk,fv)::r,d,m,Q=>fk d m fun x m1=>∃ k,jT x=some k/\fv d m1 fun y m2=>∃ p,y=.dat p/\Az r d m2 fun kvs m3=>Q ((k,p)::kvs) m3
theorem Og{K:PySem.W.Frag}{Z:Addr->Prop}:∀ {ps:List (DE×DE)} {d:bO} {m:Mu} {s:L2.St} {H:Hp} {R:List (aN×PyData)->Mu->Prop} {Q:List (V×V)->Hp->Prop},Ok K Z m H->RS K Z m H d s->Az ps d m R ->
  (∀ kvs m' vs H',R kvs m'->Ext K Z m H m' H'->Ok K Z m' H'->RKV K Z m' H' kvs vs->Q (vs.map fun kv=>(kV kv.1,kv.2)) H')->vL (ps.map fun z=>(LE K z.1,LE K z.2)) s H Q
 | [],d,m,s,H,R,Q,ok,rs,h,k=>k [] m [] H h Ext.refl ok rfl
 | (fk,fv)::r,d,m,s,H,R,Q,ok,rs,h,k=>by
  refine⟨Z,d,m,_,ok,rs,h,fun x m1 v H1 q e1 ok1 r1=>?_⟩;obtain⟨ky,hk,q⟩:=q
  cases r1.key hk
  refine⟨Z,d,m1,_,ok1,rs.ext e1,q,fun y m2 w H2 q2 e2 ok2 r2=>?_⟩;obtain⟨p,rfl,q2⟩:=q2;refine Og ok2 ((rs.ext e1).ext e2) q2 fun kvs m3 vs H3 q3 e3 ok3 rk=>?_;exact k ((ky,p)::kvs) m3 ((ky,w)::vs) H3 q3 (e1.trans (e2.trans e3)) ok3 ⟨w,vs,rfl,RP.ext e3 _ _ r2,rk⟩
@[simp] def uX(ps:List (DE×DE)):DE:=fun d m Q=>∀ p,m p=none->Az ps d (aY m p (.d [])) fun kvs m2=>m2 p=some (.d [])/\kvs.length<=15/\Q (.cel p) (aY m2 p (.d (eC [] kvs)))
def PD(X:Cx)(pos:Pos)(keys:List (Option Expr))(values:List Expr)(ps:List (DE×DE)):Prop:=uU X pos keys values (ps.map fun z=>(LE X.K z.1,LE X.K z.2))
theorem Qy:PD X pos [] [] []:=CY
theorem CQ{k v:Expr}{ks:List (Option Expr)}{vs:List Expr}{fk fv:DE}{ps:List (DE×DE)}(hk:PE X k (LE X.K fk))(hv:PE X v (LE X.K fv))(hr:PD X pos ks vs ps):PD X pos (some k::ks) (v::vs) ((fk,fv)::ps):=M6 hk hv hr
theorem A5{keys:List (Option Expr)}{values:List Expr}{ps:List (DE×DE)}(h:PD X pos keys values ps)(hall:keys.all (·.isSome)=true:=by rfl)(hl:keys.length=values.length:=by rfl)(h0:keys≠[]:=by exact List.cons_ne_nil _ _)
  (h15:keys.length<=15:=by decide):PE X (.Dict keys values pos) (LE X.K (uX ps)):=by
 intro pins s σ H Q I q;obtain⟨Z,d,m,R,ok,rs,hd,k⟩:=q;have hn:=I.hok.fresh (Nat.le_refl s.heap.objs.size)
 have hk:X.K.lookup s.heap.objs.size=none:=by
  cases e:X.K.lookup s.heap.objs.size with
  | none=>rfl
  | some o=>exact absurd (Heap.lt_size (I.kIn _ o e)) (Nat.lt_irrefl _)
 have e0:=Ext.cell (c:=.d []) (o:=.dK []) ok hn hk
 have I1:=I.laid (a:=s.heap.objs.size) (o:=.dK []) (h':=s.heap.push {cls:=.type "dict",data:=.dict #[]}) (t':=s.toks) (fun _ _ q=>Heap.get?_push_of_some _ q) (Nat.le_refl _) (Nf s.heap I.big)
 have run:vL (ps.map fun z=>(LE X.K z.1,LE X.K z.2)) σ (upd H s.heap.objs.size (.dK [])) fun ps H2=>H2 s.heap.objs.size=some (.dK [])/\∃ kvs:List (aN×V),ps=kvs.map (fun kv=>(kV kv.1,kv.2))/\kvs.length<=15/\Q (.ref s.heap.objs.size) (upd H2 s.heap.objs.size (.dK (kO [] kvs))):=by
  refine Og (ok.cell (c:=.d []) (o:=.dK []) hn hk (show RKV (κ:=aN) X.K Z m H [] [] from rfl)) (rs.ext e0) (hd _ (fJ ok hn).1) fun kvs m2 vs H2 q2 e2 ok2 rk=>?_
  obtain⟨hm,hlen,q⟩:=q2;obtain⟨ws,g1,g2⟩:=ok2.d hm
  cases (show ws=[] from g2)
  exact⟨g1,vs,rfl,by rw[rk.length];exact hlen,k _ _ _ _ q (e0.trans (e2.trans (Ext.put ok2 hm g1))) (ok2.put hm g1 (show RKV _ _ _ _ _ _ from RKV.puts (acc:=[]) (aw:=[]) rfl rk)) ⟨rfl,by rw[bF];rfl⟩⟩
 refine wpAny_Dict_walk (knd:=bZ X.prog X.w) hall hl h0 h15 (bA (h pins _ σ _ _ I1 run) fun ws s2 ⟨ps,H2,I2,rel,e,kvs,ep,lk,q2⟩=>?_);subst ep;obtain⟨rs,c,rk⟩:=Ls (P:=X.prog) (w:=X.w) rel;obtain⟨z,hd,vs0,r0,dd⟩:=vH I2.hok e
 cases r0
 refine⟨rs,c,dd,fun h' dd' hs=>⟨.ref s.heap.objs.size,_,?_,rfl,q2⟩⟩;have hz:(kO [] kvs).length<=sizeLine:=by
  have h1:=At kvs []
  rw[List.length_nil]at h1;rw[sizeLine_eq];omega
 have he:∃ q,h'.get? s.heap.objs.size=some q:=let ⟨q,_,_,hq,_⟩:=dd';⟨q,hq⟩
 exact rS I2 (by rw[e];exact True.intro) hs he (Bl hz hd (rk.merge .nil) dd')
@[simp] def uV:D2
 | x,.cel c,m,Q=>∃ k kvs,jT x=some k/\m c=some (.d kvs)/\Q (.dat (.bool (cG kvs k).isSome)) m
 | _,_,_,_=>False
@[simp] def Ct:D2
 | x,.cel c,m,Q=>∃ k kvs,jT x=some k/\m c=some (.d kvs)/\Q (.dat (.bool (!(cG kvs k).isSome))) m
 | _,_,_,_=>False
theorem Nr{K:PySem.W.Frag}{Z:Addr->Prop}{m:Mu}{H:Hp}{k:aN}{kvs:List (aN×PyData)}{vs:List (aN×V)}(h:RKV K Z m H kvs vs):(cN vs k).isSome=(cG kvs k).isSome:=by
 cases e:cG kvs k with
 | none=>rw[h.val_none e];rfl
 | some p =>
  obtain⟨v,hv,_⟩:=h.val e;rw[hv];rfl
theorem l9(hu:X.A.units+100<cLine):dO X (compareOp .NotIn) Ct:=by
 intro pins s σ H Z m x y dx dy v u R Q I ok rx ry r1 r2 h k;unfold Ct at h
 split at h
 ·obtain⟨ky,kvs,hk,hm,q⟩:=h
  cases r1.key hk
  obtain⟨rfl,_⟩:=r2;obtain⟨vs,g1,g2⟩:=ok.d hm;obtain rfl:=(show u=Value.ref _ from ry)
  refine G3 (by omega) I (.inl ⟨vs,ky,.inl g1,rfl,rfl⟩) rx fun s3 I3=>⟨.bl (!(cN vs ky).isSome),H,I3,rfl,?_⟩
  rw[Nr g2];exact k _ m _ H q Ext.refl ok .ofBl
 ·exact h.elim
theorem F3(hu:X.A.units+100<cLine):dO X (compareOp .In) uV:=by
 intro pins s σ H Z m x y dx dy v u R Q I ok rx ry r1 r2 h k;unfold uV at h
 split at h
 ·obtain⟨ky,kvs,hk,hm,q⟩:=h
  cases r1.key hk
  obtain⟨rfl,_⟩:=r2;obtain⟨vs,g1,g2⟩:=ok.d hm;obtain rfl:=(show u=Value.ref _ from ry)
  refine DH (by omega) I (.inl ⟨vs,ky,.inl g1,rfl,rfl⟩) rx fun s3 I3=>⟨.bl ((cN vs ky).isSome),H,I3,rfl,?_⟩
  rw[Nr g2];exact k _ m _ H q Ext.refl ok .ofBl
 ·exact h.elim
variable {o e:Expr}{f g:DE}
@[simp] def Bn(fo g:DE):DE:=fun d m Q=>fo d m fun o m1=>∃ c,o=.cel c/\(∃ kvs,m1 c=some (.d kvs))/\g d m1 fun x m2=>∃ kvs more b,x=.cel b/\c≠b/\m2 c=some (.d kvs)/\m2 b=some (.d more)/\kvs.length+more.length<=sizeLine/\Q (.dat .none) (aY m2 c (.d (eC kvs more)))
theorem Uf{apos cpos:Pos}(ho:PE X o (LE X.K f))(he:PE X e (LE X.K g))(M:M1 X o "update" apos e cpos:=by exact⟨by rfl,by rfl,by rfl,by rfl⟩):PE X (.Call (.Attribute o "update" apos) [e] [] cpos) (LE X.K (Bn f g)):=by
 intro pins s σ H Q I h;obtain⟨Z,d,m,R,ok,rs,h,k⟩:=h;refine wpAny_Call_method M.base M.few M.line PySem.F.plainAttrs_dict PySem.F.slot_dict_update PySem.F.type_dict_update (bA (ho pins s σ H (fun x H1=>∃ c m1 kvs,x=.ref c/\m1 c=some (.d kvs)/\(g d m1 fun x m2=>∃ kvs more b,x=.cel b/\c≠b/\m2 c=some (.d kvs)/\m2 b=some (.d more)/\kvs.length+more.length<=sizeLine/\R (.dat .none) (aY m2 c (.d (eC kvs more))))/\Ext X.K Z m H m1 H1/\Ok X.K Z m1 H1) I
  ⟨Z,d,m,_,ok,rs,h,fun x m1 v H1 ⟨c,ex,⟨kvs,hm⟩,q⟩ e1 ok1 rd=>by subst ex;obtain⟨rfl,_⟩:=rd;exact⟨c,m1,kvs,rfl,hm,q,e1,ok1⟩⟩) fun u s1 ⟨x,H1,I1,rx,c,m1,kvs,ex,hm,q,e1,ok1⟩=>?_)
 subst ex;obtain rfl:u=Value.ref c:=rx;obtain⟨vs,g1,g2⟩:=ok1.d hm;obtain⟨t1,t2,_⟩:=Wl I1 (.inl ⟨vs,.inl g1⟩);refine⟨t1,t2,?_⟩;rw[M.trees];refine Calls.callWith_builtin rfl (Calls.evalArgs_plain (Calls.spliced_cons (bA (he pins s1 σ H1 (fun y H2=>∃ b m2 kvs more,y=.ref b/\c≠b/\m2 c=some (.d kvs)/\m2 b=some (.d more)/\kvs.length+more.length<=sizeLine/\R (.dat .none) (aY m2 c (.d (eC kvs more)))/\Ext X.K Z m1 H1 m2 H2/\Ok X.K Z m2 H2) I1
  ⟨Z,d,m1,_,ok1,rs.ext e1,q,fun y m2 w H2 ⟨kvs,more,b,ey,hcb,h1,h2,hz,q2⟩ e2 ok2 rd=>by subst ey;obtain⟨rfl,_⟩:=rd;exact⟨b,m2,kvs,more,rfl,hcb,h1,h2,hz,q2,e2,ok2⟩⟩) fun iv s2 ⟨y,H2,I2,ry,b,m2,kvs,more,ey,hcb,h1,h2,hz,q2,e2,ok2⟩=>Calls.spliced_nil ?_)))
 subst ey;obtain rfl:iv=Value.ref b:=ry;obtain⟨ws,g3,g4⟩:=ok2.d h1;obtain⟨us,g5,g6⟩:=ok2.d h2;obtain⟨z1,hd1,vs1,rel1,dd1⟩:=vH I2.hok g3;obtain⟨z2,hd2,vs2,rel2,dd2⟩:=vH I2.hok g5;have lz:vs1.length+vs2.length<=sizeLine:=by rw[<- rel1.length,<- rel2.length,g4.length,g6.length];exact hz
 refine call_meetsIn PySem.F.slot_dict_update dd1.typeIs PySem.F.entry_dict_update (PySem.F.args_dict_update_2 _ _) (meets_dict_update (bZ X.prog X.w) c b hcb hd2) ⟨vs1,vs2,dd1,dd2,lz,fun h' dd' _ hs=>⟨.non,upd H2 c (.dK (kO ws us)),?_,rfl,?_⟩⟩
 ·have he:∃ q,h'.get? c=some q:=let ⟨q,_,_,hq,_⟩:=dd';⟨q,hq⟩
  have hz':(kO ws us).length<=sizeLine:=by
   have:=At us ws
   rw[g4.length,g6.length]at this;omega
  exact rS (t':=s2.toks) I2 (by rw[g3];exact True.intro) hs he (Bl hz' hd1 (rel2.merge rel1) dd')
 ·have e3:Ext X.K Z m2 H2 (aY m2 c (.d (eC kvs more))) (upd H2 c (.dK (kO ws us))):=Ext.put ok2 h1 g3
  exact k _ _ _ _ q2 (e1.trans (e2.trans e3)) (ok2.put h1 g3 (show RKV _ _ _ _ _ _ from RKV.puts g4 g6)) (by simp only[RD,RP])
end
end DL
namespace DL
open PySem PySem.Spec PyProof.Rows L2
section
variable {X:Cx}{e:Expr}{f:DE}{pos p p2 pos2:Pos}
@[simp] def xU(f:DE):DE:=fun d m Q=>f d m fun x m1=>∃ n:Nat,x=.dat (.int n)/\n<=1000/\Q (.dat (.list ((List.range n).map fun i:Nat=>PyData.int (i:Int)))) m1
theorem Ro(hc:X.calm=true)(hg:Gl X "list")(hm:X.mg "list"=none)(hg2:Gl X "range")(hm2:X.mg "range"=none)(he:PE X e (LE X.K f))(hs:starEach [e] X.env=[(false,eval e X.env)]:=by rfl)
  (hs2:starEach [.Call (.Name "range" p2) [e] [] pos2] X.env=[(false,eval (.Call (.Name "range" p2) [e] [] pos2) X.env)]:=by rfl):PE X (.Call (.Name "list" p) [.Call (.Name "range" p2) [e] [] pos2] [] pos) (LE X.K (xU f)):=by
 intro pins s σ H Q I h;obtain⟨Z,d,m,R,ok,rs,h,k⟩:=h;have hA:=gZ (X:=X) he iH (by rw[hs];rfl) pos2 pins s σ H (fun vs H1=>∃ (n:Nat) (m1:Mu),vs=[V.int n]/\n<=1000/\R (.dat (.list ((List.range n).map fun i:Nat=>PyData.int (i:Int)))) m1/\Ext X.K Z m H m1 H1/\Ok X.K Z m1 H1) I ⟨Z,d,m,_,ok,rs,h,fun x m1 v H1 ⟨n,ex,hn,q⟩ e1 ok1 rd=>by
  subst ex
  cases rd.int
  exact⟨n,m1,rfl,hn,q,e1,ok1⟩⟩
 refine Call_ (gQ I hg hm Ef (PyProof.Rows.callWith_type1 ?_ hs2 rfl));rw[hs2];show wpAny _ _ (spliced ((false,eval (.Call (.Name "range" p2) [e] [] pos2) X.env)::[])) _ _ s
 refine Calls.spliced_cons (Call_ (gQ I hg2 hm2 boot_range (PyProof.Rows.callWith_type1 (bA hA fun us s1 ⟨vs,H1,I1,r1,q1⟩=>?_) hs rfl)));obtain⟨n,m1,ev,hn,q,e1,ok1⟩:=q1;subst ev;obtain⟨u,rfl,t,rfl⟩:=fP r1;refine call_range_1 ?_;refine Calls.spliced_nil ?_;have hsz:Builtin.Range.rangeSize 0 (n:Int) 1=(n:Nat):=by rw[rangeSize_one];split<;>omega
 refine call_list_range (I1.ok.hd hc) (IsRange.new ..) (small_one (by decide) (by decide) (by omega) (by omega)) hsz (by omega) fun h' tk acc c' kp hS hacc=>?_
 have hv:=AE hacc
 have kp1:∀ b o,s1.heap.get? b=some o->h'.get? b=some o:=fun b o q=>kp b o (Heap.get?_push_of_some _ q)
 revert hS
 generalize eS:(Heap.objs _).size=S
 intro hS;have hSle:s1.heap.objs.size<=S:=by
  rw[<- eS,Heap.size_push];omega
 have hp:H1 S=none:=I1.hok.fresh hSle
 have sm:Same H1 (upd H1 S (.lst ((List.range n).map fun i:Nat=>V.int (i:Int)))):=cU hp
 refine⟨.ref S,_,I1.laid (t':=tk) (o:=.lst ((List.range n).map fun i:Nat=>V.int (i:Int))) kp1 hSle ⟨by rw[List.length_map,List.length_range,sizeLine_eq];omega,acc.toList,c',hv,by simpa using hS⟩,rfl,k _ m1 _ _ q (e1.trans (ok1.ext sm)) (ok1.grow sm) ?_⟩
 simp only[RD,RP];exact⟨S,_,rfl,fJ ok1 hp,.inl (.inl cX),Ey (List.range n)⟩
variable {e2:Expr}{f2:DE}
end
end DL
namespace DL
open PySem PySem.Spec PyProof.Rows L2
@[simp] def vI(m:Mu):D->Option PyData
 | .dat p=>some p
 | .cel c=>match m c with
  | some (.l xs)=>some (.list xs)
  | _=>none
section
variable {K:PySem.W.Frag}{Z:Addr->Prop}{m:Mu}{H:Hp}
theorem Mf{x:D}{p:PyData}{v:V}(ok:Ok K Z m H)(e:vI m x=some p)(r:RD K Z m H x v):∃ m',RP K Z m' H p v:=by
 cases x with
 | dat q=>cases e;exact⟨m,r⟩
 | cel c =>
  simp only[vI]at e
  split at e
  ·rename_i xs hm
   cases e
   exact⟨_,DV ok hm r⟩
  ·cases e
end
section
variable {X:Cx}
@[simp] def Oe:D2:=fun x y m Q=>∃ p q,vI m x=some p/\vI m y=some q/\p.canLay0=true/\q.canLay0=true/\p.depth<=100/\Q (.dat (.bool (PyData.eqv p q))) m
theorem AG(hu:X.A.units+100<cLine):dO X (compareOp .Eq) Oe:=by
 intro pins s σ H Z m x y dx dy v u R Q I ok rx ry r1 r2 h k;obtain⟨p,q,e1,e2,h1,h2,h3,h4⟩:=h;obtain⟨m1,w1⟩:=Mf ok e1 r1;obtain⟨m2,w2⟩:=Mf ok e2 r2;obtain⟨as,ra⟩:=RP.reads I _ x v w1 rx;obtain⟨bs,rb⟩:=RP.reads I _ y u w2 ry;exact SeqAt.compareEq_reads ra rb h1 h2 (by omega) ⟨.bl _,H,I,rfl,k _ m _ H h4 Ext.refl ok .ofBl⟩
end
end DL
namespace DL
open PySem PySem.Spec PyProof.Rows L2
theorem Paired.at{α β:Type}{r:α->β->Prop}:∀ {xs:List α} {ys:List β} {i:Nat} {x:α},Paired r xs ys->xs[i]?=some x->∃ y,ys[i]?=some y/\r x y
 | _,_,_,_,.nil,e=>by simp at e
 | _,_,0,x,.cons h _,e=>by
  simp at e;subst e;exact⟨_,rfl,h⟩
 | _,_,i+1,x,.cons _ h,e=>by
  obtain⟨y,h1,h2⟩:=Paired.at (i:=i) h (by simpa using e)
  exact⟨y,by simpa using h1,h2⟩
theorem Paired.len{α β:Type}{r:α->β->Prop}:∀ {xs:List α} {ys:List β},Paired r xs ys->xs.length=ys.length
 | _,_,.nil=>rfl
 | _,_,.cons _ h=>by rw[List.length_cons,List.length_cons,Paired.len h]
section
variable {X:Cx}{o:Expr}{es:List Expr}{fo:DE}{fa:DA}{pos ipos:Pos}{j:Nat}
theorem Ok.ft{K:PySem.W.Frag}{Z:Addr->Prop}{m:Mu}{H:Hp}{a:Addr}{xs:List (List aN×PyData)}(ok:Ok K Z m H)(h:m a=some (.ft xs)):∃ ob vs,H a=some (.frz ob (.dT vs))/\RKV K Z m H xs vs:=by
 obtain⟨o,h1,h2⟩:=ok.g a _ h
 cases o with
 | frz ob u=>cases u<;>first | exact⟨_,_,h1,h2⟩ | exact h2.elim
 | _=>exact h2.elim
end
end DL
namespace DL
open PySem PySem.Spec PyProof.Rows L2
def Fo(kas:List (aN×Addr)):List (aN×V):=kas.map fun x=>(x.1,V.ref x.2)
theorem Ok.dl{K:PySem.W.Frag}{Z:Addr->Prop}{m:Mu}{H:Hp}{a:Addr}{kas:List (aN×Addr)}(ok:Ok K Z m H)(h:m a=some (.dl kas)):H a=some (.dK (Fo kas)):=by
 obtain⟨o,h1,h2⟩:=ok.g a _ h
 cases o<;>first | (cases (show _=Fo kas from h2);exact h1) | exact h2.elim
end DL
namespace DL
open PySem PySem.Spec PyProof.Rows L2
def N6(n lo st:Nat):Nat:=if lo<n then (n-lo-1) / st+1 else 0
def GD(n lo st:Nat):List Nat:=(List.range (N6 n lo st)).map fun k=>lo+k*st
theorem Vals.at{xs:List V}{us:List Value}:∀ {i:Nat} {x:V},Vals xs us->xs[i]?=some x->∃ u,us[i]?=some u/\RelV x u:=fun h e=>h.get e
end DL
namespace DL
open PySem PySem.Spec PyProof.Rows L2
def TSet(P:Program)(w:World)(h:Heap)(a:Addr)(zs:List Str):Prop :=
 ∃ o es ep t,h.get? a=some o/\o.ExactSet/\o.data=.set es ep t/\ElemsOf (bZ P w) es.toList/\(∃ vs,StrsAre (es.toList.map (·.2)) vs/\vs.Perm zs)/\zs.Nodup/\es.size<scanBound/\t.fits es.size=true/\t.led=!w.params.followText "set-order"/\(zs≠[]->t.plain=false)
theorem StrsAre.snoc:∀ {l:List Value} {vs:List Str} (z:Str) (tk:Tok),StrsAre l vs->StrsAre (l++[.str z tk]) (vs++[z])
 | _,_,z,tk,.nil=>.cons z tk .nil
 | _,_,z,tk,.cons x t h=>.cons x t (StrsAre.snoc z tk h)
section
variable {P:Program}{w:World}{A:Around}{E:Value->Shared->Prop}{s:Shared}{a:Addr}{zs:List Str}{z:Str}{tk:Tok}
theorem TSet.len{h:Heap}(T:TSet P w h a zs):∃ o es ep t,h.get? a=some o/\o.data=.set es ep t/\es.size=zs.length:=by
 obtain⟨o,es,ep,t,h1,_,h3,_,⟨vs,h5,h6⟩,_⟩:=T;refine⟨o,es,ep,t,h1,h3,?_⟩;have q1:=congrArg List.length h5.strs
 have q2:=h6.length_eq
 simp at q1;omega
end
end DL
namespace DL
open PySem PySem.Spec PyProof.Rows L2
section
variable {P:Program}{w:World}{A:Around}{R:Result->Shared->Prop}{I:Addr}{fp wr:List Addr}{G:Array GenState->Array GenState->Prop}{n:Nat}{Pv:Nat->Value->Prop}{St:Nat->Shared->Prop}
theorem TSet.at{h h':Heap}{a:Addr}{zs:List Str}(T:TSet P w h a zs)(k:∀ o,h.get? a=some o->h'.get? a=some o):TSet P w h' a zs:=by
 obtain⟨o,es,ep,t,ho,rest⟩:=T;exact⟨o,es,ep,t,k o ho,rest⟩
end
end DL
namespace DL
open PySem PySem.Spec PyProof.Rows L2
abbrev Zb(w:World):Obj:={cls:=.type "set",dict:=none,data:=.set #[] 0 (.fresh 0 0 (!w.params.followText "set-order"))}
section
variable {P:Program}{w:World}{A:Around}{E:Value->Shared->Prop}{s:Shared}
theorem Tn(a:Value){Q₁:Value->Shared->Prop}(h:Q₁ (.ref s.heap.objs.size) {s with heap:=s.heap.push (Zb w)}):codeAny (model P w) A (.call (.builtin "set.__new__") ⟨[.type "set",a],[]⟩) (wants Q₁ E) s:=by
 refine codeAny_of_tree ?_;show wpAny _ A.in1 (do checkBuiltinCall "set.__new__" ⟨[.type "set",a],[]⟩;again (.builtin "set.__new__" ⟨[.type "set",a],[]⟩)) _ _ s
 refine wpAny_bind (wpAny_of_eq (PySem.F.newCall_set_1 a) (wpAny_pure ⟨plainId_quiet F.plain_set_new _,codeAny_builtin F.entry_set_new ?_⟩));rw[Around.under_plainId F.plain_set_new _];unfold Builtin.«set.__new__» Builtin.Frozenset.newClass;have hsub:=sub_set_self
 obtain⟨hp,g,d,tk,os⟩:=s;dsimp only
 wp_walk
 refine wpAny_askSetting (wpAny_pure ?_);dsimp only;simp only[newObj];exact wpAny_bind (wpAny_alloc (wpAny_pure (wpAny_pure h)))
end
end DL
namespace DL
open PySem PySem.Spec PyProof.Rows L2
theorem Nv:Manifest.owners.lookup (String.ofList "rotareti_tes".toList.reverse)=some Manifest.sig_set_iterator:=by kernel_rfl
theorem jU:Slot "set_iterator" "__next__" "set_iterator.__next__":=.of (owner:="set_iterator") (n:="__next__") (by rw[typeLookup_type,builtinLookup_eq_fast];kernel_rfl) (by decide +kernel) (by decide +kernel) (by decide +kernel) (by first | exact .inl (by decide +kernel) | exact .inr (by decide +kernel)) (by rw[isSubtype_type];kernel_rfl)
theorem xO:entryFor table "set_iterator.__next__"=some Builtin.«set_iterator.__next__»:=entryFor_of_tree (by kernel_rfl)
theorem Bz(a:Value):argsOk "set_iterator.__next__" ⟨[a],[]⟩:=by
 unfold argsOk;rw[signature?_of (id:="set_iterator.__next__") (n:="__txen__".toList) (o:="rotareti_tes".toList) (by kernel_rfl) Nv]
 kernel_rfl
theorem Hj:Slot "set_iterator" "__iter__" "set_iterator.__iter__":=.of (owner:="set_iterator") (n:="__iter__") (by rw[typeLookup_type,builtinLookup_eq_fast];kernel_rfl) (by decide +kernel) (by decide +kernel) (by decide +kernel) (by first | exact .inl (by decide +kernel) | exact .inr (by decide +kernel)) (by rw[isSubtype_type];kernel_rfl)
theorem D9(a:Value):argsOk "set_iterator.__iter__" ⟨[a],[]⟩:=by
 unfold argsOk;rw[signature?_of (id:="set_iterator.__iter__") (n:="__reti__".toList) (o:="rotareti_tes".toList) (by kernel_rfl) Nv]
 kernel_rfl
theorem Rg:entryFor table "set_iterator.__iter__"=some Builtin.«dict_keyiterator.__iter__»:=entryFor_alias (id':="dict_keyiterator.__iter__") (by kernel_rfl) (by first | rfl | decide +kernel | (unfold String.splitOn;simp +decide [String.splitOnAux])) (by decide +kernel) (by kernel_rfl)
theorem E7:entryFor table "set.__iter__"=some Builtin.«frozenset.__iter__»:=entryFor_alias (id':="frozenset.__iter__") (by kernel_rfl) rfl (by decide +kernel) (by kernel_rfl)
end DL
namespace DL
open PySem PySem.Spec PyProof.Rows L2
abbrev iB(first:Value)(i:Nat)(S:Addr)(n ep:Nat):Obj:={cls:=.type "set_iterator",dict:=none,data:=.fields #[first,.int i 0,.ref S,.int n 0,.int ep 0],slots:=#[]}
section
variable {P:Program}{w:World}{A:Around}{E:Value->Shared->Prop}{s:Shared}{I S T:Addr}{o:Obj}{es:Array (Int×Value)}{ep i:Nat}{t:SetTable}{GD:Array Value}
theorem oN{first:Value}{n:Nat}(h:s.heap.get? I=some (iB first i S n ep)):s.TypeIs (.ref I) "set_iterator":=⟨_,h,rfl⟩
theorem Mx{X:Fin->Shared->Prop}{Q:Option Value->Shared->Prop}(hh:A.handled=none)(h:∀ h',(∀ b ob,s.heap.get? b=some ob->h'.get? b=some ob)->Q none {s with heap:=h'}) :
  wpAny (model P w) A.in1 (newExc (.type "StopIteration") []>>=fun e=>raiseNew e) X (fun e s'=>wpAny (model P w) A (isInstance e (.type "StopIteration")>>=fun b=>if b=true then pure none else throw e) Q E s') s:=by
 refine wpAny_bind ?_;simp only[newExc,newTuple];refine wpAny_bind (wpAny_newObj_type ?_ (by size_fits))
 refine wpAny_bind (m:=firstArgMember _ _) (wpAny_of_eq (a:=Value.none) (by first | rfl | (simp only[firstArgMember];rfl)) (wpAny_newObj_type ?_ (by size_fits)))
 simp only[raiseNew];refine wpAny_bind (wpAny_handled ?_);rw[show A.in1.handled=none from hh]
 refine wpAny_bind (wpAny_pure (wpAny_throw ?_));refine wpAny_bind (wpAny_isInstance (T:="StopIteration") (b:=true) ⟨_,Heap.get?_push_size _ rfl,rfl⟩ isSubtype_stop (wpAny_pure (h _ fun b ob e=>?_)));exact Heap.get?_push_of_some _ (Heap.get?_push_of_some _ e)
theorem L7{Q:Option Value->Shared->Prop}{x:Int×Value}(bt:w.params.followText "set-order"=true)(hI:s.heap.get? I=some (iB (.int 0 0) i S es.size ep))(hS:s.heap.get? S=some o)(hd:o.data=.set es ep t)(hf:t.fits es.size=true)
  (hx:(pickOrder (w.params.setOrder S ep) es)[i]?=some x) (hQ:∀ h',h'.get? I=some (iB (.int 0 0) (i+1) S es.size ep)->Heap.SameBut I s.heap h'->Q (some x.2) {s with heap:=h'}):wpAny (model P w) A (pyNext (.ref I)) Q E s:=by
 have ty:=oN hI
 unfold pyNext;refine wpAny_bind (wpAny_attempt (wpAny_callSpecial?_slot (name:=Str.ofString "__next__") ty jU (wpAny_call_entry jU ty xO ?_ (Bz _))));unfold Builtin.«set_iterator.__next__»;refine wpAny_bind (wpAny_pure (wpAny_bind (wpAny_fieldsOf hI rfl ?_)));show wpAny _ _ (setEntries S>>=_) _ _ s
 refine wpAny_bind (wpAny_setEntries_of hS hd hf ?_);rw[if_neg (by simp)]
 show wpAny _ _ (setNext S 0 i ep>>=_) _ _ s
 refine wpAny_bind ?_;unfold setNext;refine wpAny_bind (wpAny_setState_of hS hd hf ?_);dsimp only;unfold setsByText;refine wpAny_bind (wpAny_bind (wpAny_askSetting (wpAny_pure ?_)));show wpAny _ _ (if w.params.followText "set-order"=true then _ else _) _ _ s
 rw[if_pos bt,if_neg (by simp)]
 refine wpAny_bind ?_;unfold setWalk;refine wpAny_bind (wpAny_setState_of hS hd hf ?_);dsimp only;unfold setsByText;refine wpAny_bind (wpAny_bind (wpAny_askSetting (wpAny_pure ?_)));show wpAny _ _ (if w.params.followText "set-order"=true then _ else _) _ _ s
 rw[if_pos bt];refine wpAny_bind (wpAny_askSetting (wpAny_pure (wpAny_pure ?_)));show wpAny _ _ (match ((pickOrder (w.params.setOrder S ep) es)[i]?).map fun e=>(e.2,0) with | some (x,next)=>_ | none=>_) _ _ s
 rw[hx];refine wpAny_bind (wpAny_setField_rec hI (by simp) fun h1 e1 sb1=>?_)
 refine wpAny_bind (wpAny_setField_rec (s:={s with heap:=h1}) e1 (by simp) fun h2 e2 sb2=>?_)
 exact wpAny_pure ⟨_,rfl,wpAny_pure (hQ h2 e2 (sb1.trans sb2))⟩
theorem Yz{Q:Option Value->Shared->Prop}(hh:A.handled=none)(bt:w.params.followText "set-order"=true)(hI:s.heap.get? I=some (iB (.int 0 0) i S es.size ep))(hS:s.heap.get? S=some o)(hd:o.data=.set es ep t)(hf:t.fits es.size=true)
  (hx:(pickOrder (w.params.setOrder S ep) es)[i]?=none) (hQ:∀ h',(∀ b ob,b≠I->s.heap.get? b=some ob->h'.get? b=some ob)->Q none {s with heap:=h'}):wpAny (model P w) A (pyNext (.ref I)) Q E s:=by
 have ty:=oN hI
 unfold pyNext;refine wpAny_bind (wpAny_attempt (wpAny_callSpecial?_slot (name:=Str.ofString "__next__") ty jU (wpAny_call_entry jU ty xO ?_ (Bz _))));unfold Builtin.«set_iterator.__next__»;refine wpAny_bind (wpAny_pure (wpAny_bind (wpAny_fieldsOf hI rfl ?_)));show wpAny _ _ (setEntries S>>=_) _ _ s
 refine wpAny_bind (wpAny_setEntries_of hS hd hf ?_);rw[if_neg (by simp)]
 show wpAny _ _ (setNext S 0 i ep>>=_) _ _ s
 refine wpAny_bind ?_;unfold setNext;refine wpAny_bind (wpAny_setState_of hS hd hf ?_);dsimp only;unfold setsByText;refine wpAny_bind (wpAny_bind (wpAny_askSetting (wpAny_pure ?_)));show wpAny _ _ (if w.params.followText "set-order"=true then _ else _) _ _ s
 rw[if_pos bt,if_neg (by simp)]
 refine wpAny_bind ?_;unfold setWalk;refine wpAny_bind (wpAny_setState_of hS hd hf ?_);dsimp only;unfold setsByText;refine wpAny_bind (wpAny_bind (wpAny_askSetting (wpAny_pure ?_)));show wpAny _ _ (if w.params.followText "set-order"=true then _ else _) _ _ s
 rw[if_pos bt];refine wpAny_bind (wpAny_askSetting (wpAny_pure (wpAny_pure ?_)));show wpAny _ _ (match ((pickOrder (w.params.setOrder S ep) es)[i]?).map fun e=>(e.2,0) with | some (x,next)=>_ | none=>_) _ _ s
 rw[hx];refine wpAny_bind (wpAny_setField_rec hI (by simp) fun h1 e1 sb1=>?_)
 refine Mx (s:={s with heap:=h1}) hh fun h' k=>hQ h' fun b ob hb e=>k b ob ?_;rw[sb1.2 b hb];exact e
end
end DL
namespace DL
open PySem PySem.Spec PyProof.Rows L2
section
variable {P:Program}{w:World}{A:Around}{E:Value->Shared->Prop}{s:Shared}{I S T:Addr}{o:Obj}{es:Array (Int×Value)}{ep i slot:Nat}{t:SetTable}
theorem Gb{Q:Option Value->Shared->Prop}(hh:A.handled=none)(bt:w.params.followText "set-order"=false)(hI:s.heap.get? I=some (iB (.int slot 0) i S es.size ep))(hS:s.heap.get? S=some o)(hd:o.data=.set es ep t)(hf:t.fits es.size=true)(hl:t.led=true)(h1:(!t.plain&&decide (es.size > 1))=false)
  (hsome:∀ x j h',es[SetTable.below t.place slot]?=some x->t.place[SetTable.below t.place slot]?=some j->h'.get? I=some (iB (.int ((j+1:Nat):Int) 0) (i+1) S es.size ep)->Heap.SameBut I s.heap h'->Q (some x.2) {s with heap:=h'})
  (hnone:∀ h',es[SetTable.below t.place slot]?=none->(∀ b ob,b≠I->s.heap.get? b=some ob->h'.get? b=some ob)->Q none {s with heap:=h'}):wpAny (model P w) A (pyNext (.ref I)) Q E s:=by
 have ty:=oN hI
 have hpl:t.place.size=es.size:=by
  simp only[SetTable.fits,Bool.and_eq_true,beq_iff_eq]at hf;exact hf.1
 unfold pyNext;refine wpAny_bind (wpAny_attempt (wpAny_callSpecial?_slot (name:=Str.ofString "__next__") ty jU (wpAny_call_entry jU ty xO ?_ (Bz _))));unfold Builtin.«set_iterator.__next__»;refine wpAny_bind (wpAny_pure (wpAny_bind (wpAny_fieldsOf hI rfl ?_)));show wpAny _ _ (setEntries S>>=_) _ _ s
 refine wpAny_bind (wpAny_setEntries_of hS hd hf ?_);rw[if_neg (by simp)]
 show wpAny _ _ (setNext S slot i ep>>=_) _ _ s
 refine wpAny_bind ?_;unfold setNext;refine wpAny_bind (wpAny_setState_of hS hd hf ?_);dsimp only;unfold setsByText;refine wpAny_bind (wpAny_bind (wpAny_askSetting (wpAny_pure ?_)));show wpAny _ _ (if w.params.followText "set-order"=true then _ else _) _ _ s
 rw[bt,if_neg Bool.false_ne_true];show wpAny _ _ (if (!t.plain&&decide (es.size > 1))=true then _ else _) _ _ s
 rw[if_neg (by rw[h1];decide)]
 refine wpAny_bind ?_;show wpAny _ _ (if (!t.led && !es.isEmpty)=true then _ else _) _ _ s
 rw[hl,if_neg (by simp)]
 refine wpAny_pure (wpAny_pure ?_)
 cases e1:es[SetTable.below t.place slot]? with
 | none =>
  dsimp only;refine wpAny_bind (wpAny_setField_rec hI (by simp) fun h1 e1' sb1=>?_)
  refine Mx (s:={s with heap:=h1}) hh fun h' k=>hnone h' e1 fun b ob hb e=>k b ob ?_;rw[sb1.2 b hb];exact e
 | some x =>
  have lt:SetTable.below t.place slot<es.size:=(Array.getElem?_eq_some_iff.mp e1).1
  have e2:t.place[SetTable.below t.place slot]?=some (t.place[SetTable.below t.place slot]'(by omega)):=Array.getElem?_eq_getElem (by omega)
  rw[e2];dsimp only;refine wpAny_bind (wpAny_setField_rec hI (by simp) fun h1 e1' sb1=>?_)
  refine wpAny_bind (wpAny_setField_rec (s:={s with heap:=h1}) e1' (by simp) fun h2 e2' sb2=>?_)
  exact wpAny_pure ⟨_,rfl,wpAny_pure (hsome x _ h2 e1 e2 e2' (sb1.trans sb2))⟩
theorem Nz{first:Value}{n:Nat}{Q:Value->Shared->Prop}(hI:s.heap.get? I=some (iB first i S n ep))(h:Q (.ref I) s):wpAny (model P w) A (pyIter (.ref I)) Q E s:=by
 refine wpAny_pyIter_slot (oN hI) Hj (wpAny_call_entry Hj (oN hI) Rg ?_ (D9 _));show wpAny _ _ (ret (.ref I)) _ _ s
 exact wpAny_pure ⟨_,rfl,"set_iterator",_,oN hI,jU.lookup,h⟩
theorem U1(hh:A.handled=none)(bt:w.params.followText "set-order"=true)(ne1:S≠I)(hd:o.data=.set es ep t)(hf:t.fits es.size=true)(hn:(pickOrder (w.params.setOrder S ep) es).size=es.size) :
  Walks P w A I [I,S] [I] es.size (fun i v=>∃ x,(pickOrder (w.params.setOrder S ep) es)[i]?=some x/\v=x.2) (fun i h=>h.get? I=some (iB (.int 0 0) i S es.size ep)/\h.get? S=some o) where
 sub:=fun b hb=>by simp at hb;simp[hb]
 frame:=fun _ _ _ st hk=>⟨hk I (by simp) _ st.1,hk S (by simp) _ st.2⟩
 item:=fun i s Q E hi st hQ=>by
  have e1:(pickOrder (w.params.setOrder S ep) es)[i]?=some ((pickOrder (w.params.setOrder S ep) es)[i]'(by omega)):=Array.getElem?_eq_getElem (by omega)
  refine L7 bt st.1 st.2 hd hf e1 fun h' g sb=>?_;exact hQ _ h' s.toks ⟨_,e1,rfl⟩ ⟨g,(sb.2 S ne1).trans st.2⟩ fun b ob hb e=>(sb.2 b (by simpa using hb)).trans e
 done:=fun s Q E st hQ=>Yz hh bt st.1 st.2 hd hf (Array.getElem?_eq_none (by omega)) fun h' k=>hQ h' s.toks fun b ob hb e=>k b ob (by simpa using hb) e
 self:=fun _ _ _ _ st hQ=>Nz st.1 hQ
theorem Y5(hh:A.handled=none)(bt:w.params.followText "set-order"=false)(ne1:S≠I)(hd:o.data=.set es ep t)(hf:t.fits es.size=true)(hl:t.led=true)(h1:(!t.plain&&decide (es.size > 1))=false)(hst:∀ i j:Nat,t.place[i]?=some j->SetTable.below t.place (j+1)=i+1) :
  Walks P w A I [I,S] [I] es.size (fun i v=>∃ x,es[i]?=some x/\v=x.2) (fun i h=>(∃ slot:Nat,h.get? I=some (iB (.int (slot:Int) 0) i S es.size ep)/\SetTable.below t.place slot=i)/\h.get? S=some o) where
 sub:=fun b hb=>by simp at hb;simp[hb]
 frame:=fun _ _ _ st hk=>⟨let ⟨slot,e,q⟩:=st.1;⟨slot,hk I (by simp) _ e,q⟩,hk S (by simp) _ st.2⟩
 item:=fun i s Q E hi st hQ=>by
  obtain⟨⟨slot,e,q⟩,hS⟩:=st;have hpl:t.place.size=es.size:=by
   simp only[SetTable.fits,Bool.and_eq_true,beq_iff_eq]at hf;exact hf.1
  refine Gb hh bt e hS hd hf hl h1 (fun x j h' g1 g2 g3 sb=>?_) fun h' g _=>?_
  ·rw[q]at g1 g2;exact hQ _ h' s.toks ⟨x,g1,rfl⟩ ⟨⟨j+1,g3,hst i j g2⟩,(sb.2 S ne1).trans hS⟩ fun b ob hb e=>(sb.2 b (by simpa using hb)).trans e
  ·rw[q,Array.getElem?_eq_getElem hi]at g
   cases g
 done:=fun s Q E st hQ=>by
  obtain⟨⟨slot,e,q⟩,hS⟩:=st;refine Gb hh bt e hS hd hf hl h1 (fun x j h' g1 g2 g3 sb=>?_) fun h' g k=>hQ h' s.toks fun b ob hb e=>k b ob (by simpa using hb) e
  rw[q,Array.getElem?_eq_none (Nat.le_refl _)]at g1
  cases g1
 self:=fun _ _ _ _ st hQ=>let ⟨⟨_,e,_⟩,_⟩:=st;Nz e hQ
end
end DL
namespace DL
open PySem PySem.Spec PyProof.Rows L2
theorem Dr{α:Type}:∀ {l:List α} {n:Nat} (h:n<l.length),(l[n]::l.eraseIdx n).Perm l
 | x::l,0,h=>List.Perm.refl _
 | x::l,n+1,h=>by
  have ih:=Dr (l:=l) (n:=n) (by simpa using h)
  rw[List.eraseIdx_cons_succ];exact(List.Perm.swap _ _ _).trans (ih.cons x)
theorem Jz{α:Type}(next:Nat->Nat):∀ (fuel k:Nat) (left:List α) (out:Array α),left.length=fuel->(pickOrder.go next fuel k left out).toList.Perm (out.toList++left)
 | 0,k,left,out,h=>by
  have:left=[]:=List.length_eq_zero_iff.mp h
  subst this;simp[pickOrder.go]
 | fuel+1,k,left,out,h=>by
  have lt:next k%left.length<left.length:=Nat.mod_lt _ (by omega)
  unfold pickOrder.go;rw[List.getElem?_eq_getElem lt];dsimp only;refine(Jz next fuel (k+1) _ _ (by rw[List.length_eraseIdx_of_lt lt];omega)).trans ?_
  rw[Array.toList_push,List.append_assoc];exact List.Perm.append_left _ (Dr lt)
theorem Z5{α:Type}(next:Nat->Nat)(xs:Array α):(pickOrder next xs).toList.Perm xs.toList:=by
 unfold pickOrder;have:=Jz next xs.size 0 xs.toList #[] (by simp)
 simpa using this
section
variable {P:Program}{w:World}{A:Around}{E:Value->Shared->Prop}{s:Shared}{I S T:Addr}{o:Obj}{es:Array (Int×Value)}{ep i slot:Nat}{t:SetTable}
theorem D6{src:Source}{n:Nat}{Q:Nat->Shared->Prop}(hn:n≠0)(h:∀ i d',i<n->Q i {s with drawn:=d'}):wpAny (model P w) A (choose src n) Q E s:=fun Γ p hΓ=>by
 unfold choose;rw[Sem.wp_choose];refine⟨hn,?_⟩;rw[Sem.wp_pure];exact h _ _ (Nat.mod_lt _ (by omega))
theorem Ha{α:Type}:∀ (n:Nat) (xs:List α) (s:Shared) (Q:List α->Shared->Prop),xs.length=n->(∀ ys d',ys.Perm xs->Q ys {s with drawn:=d'})->wpAny (model P w) A (drawOrder n xs) Q E s
 | 0,xs,s,Q,hl,h=>by
  have:xs=[]:=List.length_eq_zero_iff.mp hl
  subst this;unfold drawOrder;exact wpAny_pure (h [] s.drawn (List.Perm.refl _))
 | n+1,[],s,Q,hl,h=>by cases hl
 | n+1,x::xs,s,Q,hl,h=>by
  unfold drawOrder;refine wpAny_bind (D6 (by simp) fun i d' hi=>?_)
  rw[List.getElem?_eq_getElem hi];dsimp only;refine wpAny_bind (Ha n ((x::xs).eraseIdx i) _ _ (by rw[List.length_eraseIdx_of_lt hi];simp at hl ⊢;omega) fun ys d'' hp=>?_)
  refine wpAny_pure (h _ d'' ?_);exact(List.Perm.cons _ hp).trans (Dr hi)
theorem X6{Q:Value->Shared->Prop}(hS:s.heap.get? S=some o)(hx:o.ExactSet)(hd:o.data=.set es ep t)(hf:t.fits es.size=true)(hz:es.size<=60)
  (hA:w.params.followText "set-order"=false->t.plain=false->1<es.size->∀ (ys:List Nat) (d':Drawn),ys.Perm (List.range es.size)->Q (.ref (s.heap.objs.size+1)) {s with drawn:=d',heap:=(s.heap.push {cls:=.type "tuple",data:=.seq (ys.map fun q:Nat=>Value.int q 0).toArray}).push (iB (.ref s.heap.objs.size) 0 S es.size ep)})
  (hB:w.params.followText "set-order"=true\/t.plain=true\/es.size<=1->Q (.ref s.heap.objs.size) {s with heap:=s.heap.push (iB (.int 0 0) 0 S es.size ep)}):wpAny (model P w) A (pyIter (.ref S)) Q E s:=by
 have hT:s.TypeIs (.ref S) "set":=⟨o,hS,hx.1⟩
 refine wpAny_pyIter_slot hT PySem.F.slot_set_iter (wpAny_call_entry PySem.F.slot_set_iter hT E7 ?_ (PySem.F.args_set_iter_1 _));unfold Builtin.«frozenset.__iter__» Builtin.Frozenset.slot0 slotArgs;simp only[List.isEmpty_nil,Bool.not_true,Bool.false_eq_true,↓reduceIte,bind_assoc,List.length_nil,bne_self_eq_false];unfold Builtin.Frozenset.addrOf Builtin.Frozenset.sizeOf;refine wpAny_bind (wpAny_pure ?_)
 try dsimp only
 refine wpAny_bind (wpAny_pure ?_);refine wpAny_bind (wpAny_bind (wpAny_setEntries_of hS hd hf (wpAny_pure ?_)));refine wpAny_bind ?_;unfold setDrawn setsByText;refine wpAny_bind (wpAny_setState_of hS hd hf ?_);dsimp only;refine wpAny_bind (wpAny_bind (wpAny_askSetting (wpAny_pure (wpAny_pure ?_))));show wpAny _ _ (if (!w.params.followText "set-order" && (!t.plain&&decide (es.size > 1)))=true then _ else _) _ _ s
 by_cases c:(!w.params.followText "set-order" && (!t.plain&&decide (es.size > 1)))=true
 ·rw[if_pos c];simp only[Bool.and_eq_true,Bool.not_eq_true',decide_eq_true_eq]at c;refine wpAny_bind (Ha _ _ _ _ (by simp) fun ys d' hp=>?_)
  have yl:ys.length=es.size:=by rw[hp.length_eq,List.length_range]
  refine wpAny_bind ?_;unfold newTuple;refine wpAny_newObj_type ?_ ?_
  ·refine wpAny_bind (wpAny_setEpoch_of (s:={s with drawn:=d',heap:=_}) (Heap.get?_push_of_some _ hS) hd hf ?_);refine wpAny_bind ?_;unfold newFields;refine wpAny_newObj_type (wpAny_pure ⟨_,rfl,"set_iterator",_,⟨_,Heap.get?_push_size _ rfl,rfl⟩,jU.lookup,?_⟩) ?_
   ·have:=hA c.1 c.2.1 c.2.2 ys d' hp
    rw[show s.heap.objs.size+1=(s.heap.push {cls:=.type "tuple",data:=.seq (ys.map fun q:Nat=>Value.int q 0).toArray}).objs.size by rw[Heap.size_push]]at this
    exact this
   ·size_fits
  ·show((ys.map fun i:Nat=>rawInt i).toArray).size<=sizeLine
   rw[List.size_toArray,List.length_map,yl,sizeLine_eq];omega
 ·rw[if_neg c];refine wpAny_bind (wpAny_pure (wpAny_bind (wpAny_setEpoch_of hS hd hf (wpAny_bind ?_))));unfold newFields;refine wpAny_newObj_type (wpAny_pure ⟨_,rfl,"set_iterator",_,⟨_,Heap.get?_push_size _ rfl,rfl⟩,jU.lookup,?_⟩) ?_
  ·refine hB ?_
   cases b1:w.params.followText "set-order" with
   | true=>exact .inl rfl
   | false =>
    cases b2:t.plain with
    | true=>exact .inr (.inl rfl)
    | false =>
     rw[b1,b2]at c;simp at c;exact .inr (.inr c)
  ·size_fits
end
end DL
namespace DL
open PySem PySem.Spec PyProof.Rows L2
section
variable {P:Program}{w:World}{A:Around}{E:Value->Shared->Prop}{s:Shared}{I S T:Addr}{o:Obj}{es:Array (Int×Value)}{ep i slot:Nat}{t:SetTable}
theorem BR{Q:Bool->Shared->Prop}(hT:s.TypeIs (.ref S) "set")(h:Q false s):wpAny (model P w) A (Builtin.List.listLengthHint (.ref S)) Q E s:=by
 unfold Builtin.List.listLengthHint;refine wpAny_bind (wpAny_specialOf hT PySem.F.slot_set_len.lookup ?_);dsimp only;rw[show splitId "set.__len__"=some ("set","__len__") by decide +kernel]
 dsimp only;refine wpAny_bind (wpAny_isInstance (b:=true) hT sub_set_self ?_);rw[if_neg (by simp),if_pos (by decide +kernel)]
 refine wpAny_bind (wpAny_typeOf hT ?_);exact wpAny_pure h
theorem Ew{Pv:Nat->Value->Prop}{acc:Array Value}{n:Nat}{L:List Value}(h:ItemsOf Pv acc n)(hL:L.length=n)(hP:∀ j v,Pv j v->L[j]?=some v):acc.toList=L:=by
 refine List.ext_getElem? fun j=>?_;rw[Array.getElem?_toList]
 cases e:acc[j]? with
 | some v=>exact(hP j v (h.2 j v e)).symm
 | none =>
  have:=Array.getElem?_eq_none_iff.mp e
  rw[List.getElem?_eq_none (by rw[hL,<- h.1];exact this)]
end
end DL
namespace DL
open PySem PySem.Spec PyProof.Rows L2
section
variable {P:Program}{w:World}{A:Around}{E:Value->Shared->Prop}{s:Shared}{S:Addr}{zs:List Str}
theorem TSet.type{h:Heap}(T:TSet P w h S zs):∃ o,h.get? S=some o/\o.cls=.type "set":=let ⟨o,_,_,_,ho,hx,_⟩:=T;⟨o,ho,hx.1⟩
end
end DL
namespace DL
open PySem PySem.Spec PyProof.Rows L2
theorem EY:bootBuiltins "set"=some (.type "set"):=by decide +kernel
theorem G6{X:Cx}{pins:List (Addr×Obj)}{σ:L2.St}{H:Hp}{s s':Shared}(I:Inv X pins σ H s)(e1:s'.heap=s.heap)(e2:s'.gens=s.gens)(e3:s'.os=s.os):Inv X pins σ H s':=by
 obtain⟨h,g,d,tk,o⟩:=s;obtain⟨h',g',d',tk',o'⟩:=s';dsimp only at e1 e2 e3;subst e1;subst e2;subst e3;exact⟨I.ok,I.os,I.bare,I.base,I.loc,I.cell,I.free,I.freeC,I.pin,I.hok,I.len⟩
end DL
namespace DL
open PySem PySem.Spec PyProof.Rows L2
section
variable {K:PySem.W.Frag}{Z:Addr->Prop}{m:Mu}{H:Hp}
theorem RD.rw{x:D}{v:V}(h:RD K Z m H x v):RW K Z m H x v:=by
 cases x with
 | dat p=>exact h
 | cel a=>exact h.1
theorem RW.rd{x:D}{v:V}(h:RW K Z m H x v)(hc:∀ a,x=.cel a->(m a).isSome=true):RD K Z m H x v:=by
 cases x with
 | dat p=>exact h
 | cel a=>exact⟨h,hc a rfl⟩
theorem RKW.length{κ:Type}:∀ {fs:List (κ×D)} {vs:List (κ×V)},RKW K Z m H fs vs->vs.length=fs.length
 | [],_,h=>by cases (show _=[] from h);rfl
 | (_,_)::_,_,⟨v,r,h1,_,h3⟩=>by subst h1;rw[List.length_cons,List.length_cons,h3.length]
theorem RKW.look{f:Str}:∀ {fs:List (Str×D)} {vs:List (Str×V)},RKW K Z m H fs vs->(∀ x,fs.lookup f=some x->∃ v,vs.lookup f=some v/\RW K Z m H x v)/\(fs.lookup f=none->vs.lookup f=none)
 | [],_,h=>by cases (show _=[] from h);exact⟨fun x e=>(nomatch e),fun _=>rfl⟩
 | (g,y)::fs,_,⟨v,r,h1,h2,h3⟩=>by
  subst h1;obtain⟨i1,i2⟩:=h3.look (f:=f)
  by_cases e:f=g
  ·have b:(f==g)=true:=beq_iff_eq.mpr e
   simp only[List.lookup,b];exact⟨fun x q=>by cases q;exact⟨v,rfl,h2⟩,fun q=>(nomatch q)⟩
  ·have b:(f==g)=false:=beq_eq_false_iff_ne.mpr e
   simp only[List.lookup,b];exact⟨i1,i2⟩
theorem Ok.o{a:Addr}{N:Str}{fs:List (Str×D)}(ok:Ok K Z m H)(h:m a=some (.o N fs)):∃ C dx vs,H a=some (.ins C dx vs)/\PySem.W.nsIn K mainGlobals N=some (some (.ref C))/\RKW K Z m H fs vs:=by
 obtain⟨o,h1,h2⟩:=ok.g a _ h
 cases o<;>first | exact⟨_,_,_,h1,h2⟩ | exact h2.elim
end
end DL
namespace DL
open PySem PySem.Spec PyProof.Rows L2
section
variable {κ β:Type}[DecidableEq κ]
def dI(kvs:List (κ×β))(k:κ):Option β:=(kvs.find? fun kv=>decide (kv.1=k)).map (·.2)
def fB(kvs:List (κ×β))(k:κ)(v:β):List (κ×β) :=
 if (kvs.any fun kv=>decide (kv.1=k))=true then kvs.map (fun kv=>if kv.1=k then (kv.1,v) else kv) else kvs++[(k,v)]
theorem Y2{k:κ}:dI ([]:List (κ×β)) k=none:=rfl
theorem iW{p:κ×β}{r:List (κ×β)}{k:κ}(e:p.1=k):dI (p::r) k=some p.2:=by simp[dI,List.find?_cons,e]
theorem iM{p:κ×β}{r:List (κ×β)}{k:κ}(e:¬ p.1=k):dI (p::r) k=dI r k:=by simp[dI,List.find?_cons,e]
theorem zB(k:κ):∀ kvs:List (κ×β),(kvs.any fun kv=>decide (kv.1=k))=(dI kvs k).isSome
 | []=>rfl
 | p::r=>by
  rw[List.any_cons]
  by_cases e:p.1=k
  ·simp only[iW e,decide_eq_true e,Bool.true_or,Option.isSome_some]
  ·rw[iM e,decide_eq_false e,Bool.false_or];exact zB k r
theorem Jk(k j:κ)(y:β):∀ kvs:List (κ×β),dI (kvs.map fun kv=>if kv.1=k then (kv.1,y) else kv) j=(dI kvs j).map fun x=>if j=k then y else x
 | []=>rfl
 | p::r=>by
  have ih:=Jk k j y r
  rw[List.map_cons]
  by_cases h:p.1=k
  ·rw[if_pos h]
   by_cases e:p.1=j
   ·rw[iW (p:=(p.1,y)) e,iW e,Option.map_some,if_pos (e.symm.trans h)]
   ·rw[iM (p:=(p.1,y)) e,iM e,ih]
  ·rw[if_neg h]
   by_cases e:p.1=j
   ·rw[iW (p:=p) e,iW e,Option.map_some,if_neg (fun z=>h (e.trans z))]
   ·rw[iM (p:=p) e,iM e,ih]
theorem Kp(k j:κ)(y:β):∀ kvs:List (κ×β),dI kvs k=none->dI (kvs++[(k,y)]) j=if j=k then some y else dI kvs j
 | [],_=>by
  by_cases e:k=j
  ·rw[if_pos e.symm];exact iW (p:=(k,y)) e
  ·rw[if_neg (fun z=>e z.symm)];exact iM (p:=(k,y)) e
 | p::r,hn=>by
  rw[List.cons_append];have hk:¬ p.1=k:=fun z=>by rw[iW z]at hn;cases hn
  rw[iM hk]at hn;have ih:=Kp k j y r hn
  by_cases e:p.1=j
  ·rw[iW e,iW e,if_neg (fun z=>hk (e.trans z))]
  ·rw[iM e,iM e,ih]
theorem zH(kvs:List (κ×β))(k j:κ)(y:β):dI (fB kvs k y) j=if j=k then some y else dI kvs j:=by
 unfold fB
 by_cases a:(kvs.any fun kv=>decide (kv.1=k))=true
 ·rw[if_pos a,Jk];rw[zB]at a
  by_cases e:j=k
  ·obtain⟨x,hx⟩:=Option.isSome_iff_exists.mp a;rw[if_pos e,e,hx,Option.map_some,if_pos rfl]
  ·rw[if_neg e]
   cases dI kvs j with
   | none=>rfl
   | some x=>rw[Option.map_some,if_neg e]
 ·rw[if_neg a];refine Kp k j y kvs ?_;rw[zB]at a
  cases q:dI kvs k with
  | none=>rfl
  | some x=>rw[q]at a;exact(a rfl).elim
theorem BK(kvs:List (κ×β))(k:κ)(v:β):(fB kvs k v).length<=kvs.length+1:=by
 unfold fB
 split
 ·rw[List.length_map];omega
 ·rw[List.length_append,List.length_cons,List.length_nil];omega
end
section
variable {κ:Type}[DecidableEq κ]{K:PySem.W.Frag}{Z:Addr->Prop}{m:Mu}{H:Hp}
theorem RKW.val{k:κ}:∀ {kvs:List (κ×D)} {vs:List (κ×V)},RKW K Z m H kvs vs->(∀ x,dI kvs k=some x->∃ v,cN vs k=some v/\RW K Z m H x v)/\(dI kvs k).isSome=(cN vs k).isSome
 | [],_,h=>by cases (show _=[] from h);exact⟨fun x e=>(nomatch e),rfl⟩
 | (g,y)::fs,_,⟨v,r,h1,h2,h3⟩=>by
  subst h1;obtain⟨i1,i2⟩:=h3.val (k:=k)
  by_cases e:g=k
  ·rw[iW (p:=(g,y)) e,pS (p:=(g,v)) e];exact⟨fun x q=>by cases q;exact⟨v,rfl,h2⟩,rfl⟩
  ·rw[iM (p:=(g,y)) e,rX (p:=(g,v)) e];exact⟨i1,i2⟩
theorem RKW.any{k:κ}:∀ {kvs:List (κ×D)} {vs:List (κ×V)},RKW K Z m H kvs vs->(vs.any fun kv=>decide (kv.1=k))=(kvs.any fun kv=>decide (kv.1=k))
 | [],_,h=>by cases (show _=[] from h);rfl
 | (g,y)::fs,_,⟨v,r,h1,h2,h3⟩=>by subst h1;rw[List.any_cons,List.any_cons,h3.any]
theorem RKW.repl{k:κ}{x:D}{v:V}(hx:RW K Z m H x v):∀ {kvs:List (κ×D)} {vs:List (κ×V)},RKW K Z m H kvs vs->RKW K Z m H (kvs.map fun kv=>if kv.1=k then (kv.1,x) else kv) (vs.map fun kv=>if kv.1=k then (kv.1,v) else kv)
 | [],_,h=>by cases (show _=[] from h);rfl
 | (g,y)::fs,_,⟨w,r,h1,h2,h3⟩=>by
  subst h1;rw[List.map_cons,List.map_cons]
  by_cases e:g=k
  ·rw[if_pos (show((g,y):κ×D).1=k from e),if_pos (show((g,w):κ×V).1=k from e)];exact⟨v,_,rfl,hx,h3.repl hx⟩
  ·rw[if_neg (show ¬ ((g,y):κ×D).1=k from e),if_neg (show ¬ ((g,w):κ×V).1=k from e)];exact⟨w,_,rfl,h2,h3.repl hx⟩
theorem RKW.snoc{k:κ}{x:D}{v:V}(hx:RW K Z m H x v):∀ {kvs:List (κ×D)} {vs:List (κ×V)},RKW K Z m H kvs vs->RKW K Z m H (kvs++[(k,x)]) (vs++[(k,v)])
 | [],_,h=>by cases (show _=[] from h);exact⟨v,[],rfl,hx,rfl⟩
 | (g,y)::fs,_,⟨w,r,h1,h2,h3⟩=>by subst h1;exact⟨w,_,rfl,h2,h3.snoc hx⟩
theorem RKW.put{k:κ}{x:D}{v:V}{kvs:List (κ×D)}{vs:List (κ×V)}(h:RKW K Z m H kvs vs)(hx:RW K Z m H x v):RKW K Z m H (fB kvs k x) (cI vs k v):=by
 unfold fB cI;rw[h.any]
 split
 ·exact h.repl hx
 ·exact h.snoc hx
theorem Ok.n{a:Addr}{kvs:List (List PyData×D)}(ok:Ok K Z m H)(h:m a=some (.n kvs)):∃ vs,H a=some (.dN K vs)/\RKW K Z m H kvs vs:=by
 obtain⟨o,h1,h2⟩:=ok.g a _ h
 cases o<;>first | (obtain⟨rfl,h2⟩:=h2;exact⟨_,h1,h2⟩) | exact h2.elim
mutual
theorem RP.nkv:∀ (p:PyData) (v:V),L2.isK p=true->RP K Z m H p v->NKV K H p v
 | .int _,_,_,h=>by simp only[RP]at h;simp only[NKV];exact h
 | .str _,_,_,h=>by simp only[RP]at h;simp only[NKV];exact h
 | .tuple xs,_,hk,h=>by
  simp only[RP]at h;simp only[NKV];obtain⟨a,vs,e,h1,h2⟩:=h;exact⟨a,vs,e,h1,RPs.nkv xs vs hk h2⟩
 | .none,_,h,_ | .bool _,_,h,_ | .list _,_,h,_ | .dict _,_,h,_=>by simp[L2.isK]at h
theorem RPs.nkv:∀ (ps:List PyData) (vs:List V),L2.isKs ps=true->RPs K Z m H ps vs->NKVs K H ps vs
 | [],_,_,h=>by simp only[RPs]at h;simp only[NKVs];exact h
 | p::ps,_,hk,h=>by
  simp only[L2.isKs,Bool.and_eq_true]at hk;simp only[RPs]at h;simp only[NKVs];obtain⟨v,r,e,h1,h2⟩:=h;exact⟨v,r,e,RP.nkv p v hk.1 h1,RPs.nkv ps r hk.2 h2⟩
end
end
section
variable {X:Cx}{pins:List (Addr×Obj)}{σ:L2.St}{H:Hp}{s:Shared}
mutual
theorem NKV.reads(I:Inv X pins σ H s):∀ (p:PyData) (v:V) (u:Value),NKV X.K H p v->RelV v u->∃ as,Reads s.heap u p as
 | .int i,v,u,h,r=>by simp only[NKV]at h;subst h;obtain⟨t,rfl⟩:=r;exact⟨_,.int i t⟩
 | .str x,v,u,h,r=>by simp only[NKV]at h;subst h;obtain⟨t,rfl⟩:=r;exact⟨_,.str x t⟩
 | .tuple xs,v,u,h,r=>by
  simp only[NKV]at h;obtain⟨a,vs,rfl,h2,h3⟩:=h
  cases r
  obtain⟨its,rv,⟨o,e,c,n,d⟩,_⟩:=I.tuple h2;obtain⟨as,q⟩:=NKVs.reads I xs vs its h3 rv;exact⟨_,.tuple e c d (by simpa using q)⟩
 | .none,_,_,h,_ | .bool _,_,_,h,_ | .list _,_,_,h,_ | .dict _,_,_,h,_=>by simp only[NKV]at h
theorem NKVs.reads(I:Inv X pins σ H s):∀ (xs:List PyData) (vs:List V) (us:List Value),NKVs X.K H xs vs->Vals vs us->∃ as,ReadsAll s.heap us xs as
 | [],vs,us,h,r=>by simp only[NKVs]at h;subst h;cases r;exact⟨_,.nil⟩
 | x::xs,vs,us,h,r=>by
  simp only[NKVs]at h;obtain⟨v,w,rfl,h1,h2⟩:=h
  cases r with
  | cons r1 r2 =>
   obtain⟨as,q1⟩:=NKV.reads I x v _ h1 r1;obtain⟨bs,q2⟩:=NKVs.reads I xs w _ h2 r2;exact⟨_,.cons q1 q2⟩
end
abbrev KN(K:PySem.W.Frag)(H:Hp):List (List PyData×V)->List (List PyData×Addr×Value)->Prop :=
 Paired fun p q=>p.1=q.1/\(L2.isKs p.1=true/\PyData.depthAll p.1<=6/\NKV K H (.tuple p.1) (.ref q.2.1))/\RelV p.2 q.2.2
theorem KN.val{K:PySem.W.Frag}{kvs:List (List PyData×V)}{xs:List (List PyData×Addr×Value)}(r:KN K H kvs xs)(k:List PyData):RelO (cN kvs k) ((atKey xs k).map (·.2)):=by
 induction r with
 | nil=>exact True.intro
 | @cons p q ps qs h t ih =>
  obtain⟨h1,_,h2⟩:=h
  by_cases e:p.1=k
  ·have e':q.1=k:=h1.symm.trans e
   have b:atKey (q::qs) k=some q.2:=by simp[atKey,List.find?_cons,e']
   rw[pS e,b];exact h2
  ·have e':¬ q.1=k:=fun z=>e (h1.trans z)
   have b:atKey (q::qs) k=atKey qs k:=by simp[atKey,List.find?_cons,e']
   rw[rX e,b];exact ih
theorem KN.repl{K:PySem.W.Frag}{kvs:List (List PyData×V)}{xs:List (List PyData×Addr×Value)}(r:KN K H kvs xs)(k:List PyData){y:V}{u:Value}(ry:RelV y u) :
  KN K H (kvs.map fun kv=>if kv.1=k then (kv.1,y) else kv) (xs.map (putAt k u)):=by
 induction r with
 | nil=>exact .nil
 | @cons p q ps qs h t ih =>
  rw[List.map_cons,List.map_cons];refine .cons ?_ ih;obtain⟨h1,h2,h3⟩:=h;unfold putAt
  by_cases e:p.1=k
  ·rw[if_pos e,if_pos (h1.symm.trans e)];exact⟨h1,h2,ry⟩
  ·rw[if_neg e,if_neg (fun z=>e (h1.trans z))];exact⟨h1,h2,h3⟩
theorem KN.put{K:PySem.W.Frag}{kvs:List (List PyData×V)}{xs:List (List PyData×Addr×Value)}(r:KN K H kvs xs)(k:List PyData){b:Addr}{y:V}{u:Value}(hb:L2.isKs k=true/\PyData.depthAll k<=6/\NKV K H (.tuple k) (.ref b))(ry:RelV y u) :
  KN K H (cI kvs k y) (storedH xs k b u):=by
 have e:(kvs.any fun kv=>decide (kv.1=k))=(atKey xs k).isSome:=by
  rw[yX,(r.val k).isSome_eq,Option.isSome_map]
 unfold cI storedH;rw[e]
 by_cases q:(atKey xs k).isSome=true
 ·rw[if_pos q,if_pos q];exact r.repl k ry
 ·rw[if_neg q,if_neg q];exact Paired.snoc r ⟨rfl,hb,ry⟩
theorem qO(I:Inv X pins σ H s){k:List PyData}{b:Addr}(h:L2.isKs k=true/\PyData.depthAll k<=6/\NKV X.K H (.tuple k) (.ref b)):(gF X.prog X.w).is s.heap k b :=
 ⟨h.1,h.2.1,NKV.reads I _ _ _ h.2.2 rfl⟩
theorem wZ{a:Addr}{kvs:List (List PyData×V)}(I:Inv X pins σ H s)(e:H a=some (.dN X.K kvs)):kvs.length<=sizeLine/\(a==sysModules)=false/\∃ xs,KN X.K H kvs xs/\s.heap.DictOfH (gF X.prog X.w) a xs:=by
 obtain⟨z,y,xs,r,o,es,ep,h1,h2,h3,h4,h5⟩:=(show ObjOk X.prog X.w H s.heap a (.dN X.K kvs) from I.hok a _ e)
 refine⟨z,y,xs,r,o,es,ep,h1,h2,h3,h4,fun x hx=>?_,h5⟩;have all:∀ {l:List (List PyData×V)} {m:List (List PyData×Addr×Value)},KN X.K H l m->∀ x∈m,(gF X.prog X.w).is s.heap x.1 x.2.1:=by
  intro l m q
  induction q with
  | nil=>intro x hx;exact nomatch hx
  | @cons p q ps qs hq t ih =>
   intro x hx;rcases List.mem_cons.mp hx with e | hx
   ·subst e;exact qO I (by rw[<- hq.1];exact hq.2.1)
   ·exact ih x hx
 exact all r x hx
theorem Ag{A:Around}(hu:A.units+100<cLine):(gF X.prog X.w).room A.in1:=by
 show A.in1.units+20<cLine
 rw[Around.in1_units];omega
end
section
variable {X:Cx}{o i e:Expr}{fo fi f:DE}{pos tpos:Pos}
@[simp] def jY:D->Option (List PyData)
 | .dat (.tuple ks)=>if L2.isKs ks=true/\PyData.depthAll ks<=6 then some ks else none
 | _=>none
theorem xS{y:D}{ks:List PyData}(h:jY y=some ks):y=.dat (.tuple ks)/\L2.isKs ks=true/\PyData.depthAll ks<=6:=by
 unfold jY at h
 split at h
 ·split at h
  ·rename_i q;cases h;exact⟨rfl,q⟩
  ·cases h
 ·cases h
@[simp] def wB:DE:=fun _ m Q=>∀ a,m a=none->Q (.cel a) (aY m a (.n []))
theorem u8{P:Program}{w:World}{H:Hp}{K:PySem.W.Frag}(h:Heap)(hb:sysModules<h.objs.size):ObjOk P w H (h.push {cls:=.type "dict",data:=.dict #[]}) h.objs.size (.dN K []) :=
 ⟨Nat.zero_le _,by rw[beq_eq_false_iff_ne];exact(Nat.ne_of_lt hb).symm,[],.nil,_,_,_,Heap.get?_push_size _ rfl,⟨rfl,rfl,rfl⟩,rfl,rfl,List.nodup_nil⟩
theorem b9:PE X (.Dict [] [] pos) (LE X.K wB):=by
 intro pins s σ H Q I h;obtain⟨Z,d,m,R,ok,rs,h,k⟩:=h;have hp:H s.heap.objs.size=none:=I.hok.fresh (Nat.le_refl _)
 have hk:X.K.lookup s.heap.objs.size=none:=by
  cases e:X.K.lookup s.heap.objs.size with
  | none=>rfl
  | some o=>exact absurd (Heap.lt_size (I.kIn _ o e)) (Nat.lt_irrefl _)
 refine wpAny_Dict_empty ⟨.ref s.heap.objs.size,_,I.laid (a:=s.heap.objs.size) (o:=.dN X.K []) (t':=s.toks) (fun _ _ q=>Heap.get?_push_of_some _ q) (Nat.le_refl _) (u8 s.heap I.big),rfl,?_⟩;exact k _ _ _ _ (h _ (fJ ok hp).1) (Ext.cell ok hp hk) (ok.cell hp hk (show RC _ _ _ _ (.n []) (.dN X.K []) from⟨rfl,rfl⟩)) ⟨rfl,by rw[bF];rfl⟩
@[simp] def tU(fo fi:DE):DE:=fun d m Q=>fo d m fun o m1=>fi d m1 fun y m2=>∃ c ks kvs x,o=.cel c/\jY y=some ks/\m2 c=some (.n kvs)/\dI kvs ks=some x/\(∀ b,x=.cel b->(m2 b).isSome=true)/\Q x m2
theorem A0(hu:X.A.units+100<cLine)(ho:PE X o (LE X.K fo))(hi:PE X i (LE X.K fi))(hs:nH i:=by exact fun _ _=>rfl):PE X (.Subscript o i pos) (LE X.K (tU fo fi)):=by
 intro pins s σ H Q I h;obtain⟨Z,d,m,R,ok,rs,h,k⟩:=h;refine Gw PySem.F.slot_dict_getitem.lookup hs (bA (ho pins s σ H (fun x H1=>∃ (ox:D) (m1:Mu),RD X.K Z m1 H1 ox x/\(fi d m1 fun y m2=>∃ c ks kvs x,ox=.cel c/\jY y=some ks/\m2 c=some (.n kvs)/\dI kvs ks=some x/\(∀ b,x=.cel b->(m2 b).isSome=true)/\R x m2)/\Ext X.K Z m H m1 H1/\Ok X.K Z m1 H1) I
  ⟨Z,d,m,_,ok,rs,h,fun x m1 v H1 q e1 ok1 rd=>⟨x,m1,rd,q,e1,ok1⟩⟩) fun u s1 ⟨x,H1,I1,rx,ox,m1,rd,q,e1,ok1⟩=>?_)
 refine bA (hi pins s1 σ H1 (fun y H2=>∃ m2 c ks kvs w,x=.ref c/\RD X.K Z m2 H2 (.dat (.tuple ks)) y/\(L2.isKs ks=true/\PyData.depthAll ks<=6)/\m2 c=some (.n kvs)/\dI kvs ks=some w/\(∀ b,w=.cel b->(m2 b).isSome=true)/\R w m2/\Ext X.K Z m1 H1 m2 H2/\Ok X.K Z m2 H2) I1
  ⟨Z,d,m1,_,ok1,rs.ext e1,q,fun y m2 v2 H2 ⟨c,ks,kvs,w,eo,ey,hm,hv,hc,q2⟩ e2 ok2 r2=>by subst eo;obtain⟨rfl,hk⟩:=xS ey;obtain⟨rfl,_⟩:=rd;exact⟨m2,c,ks,kvs,w,rfl,r2,hk,hm,hv,hc,q2,e2,ok2⟩⟩) fun iv s2 ⟨y,H2,I2,ry,m2,c,ks,kvs,w,ex,r2,hk,hm,hv,hc,q2,e2,ok2⟩=>?_
 subst ex;obtain rfl:u=Value.ref c:=rx;have r3:=RP.nkv (.tuple ks) y hk.1 r2
 have r4:=r3
 simp only[NKV]at r4;obtain⟨b,vs,rfl,_⟩:=r4;obtain rfl:iv=Value.ref b:=ry;obtain⟨ws,g1,g2⟩:=ok2.n hm;obtain⟨v,hv',rv⟩:=g2.val.1 _ hv;obtain⟨z,hd,xs,rel,dd⟩:=wZ I2 g1;obtain⟨w',hw,rw'⟩:=RelO.some_of (v:=v) (o:=(atKey xs ks).map (·.2)) (by rw[<- hv'];exact rel.val ks)
 obtain⟨pr,hp,hp2⟩:=Option.map_eq_some_iff.mp hw;refine⟨dd.typeIs,wpAny_getItem_heap (Ag hu) (qO I2 ⟨hk.1,hk.2,r3⟩) dd hp ?_⟩;rw[hp2];exact⟨v,H2,I2.tok _,rw',k _ m2 v H2 q2 (e1.trans e2) ok2 (rv.rd hc)⟩
@[simp] def Ae(fo fi f:DE):DS:=fun E d m=>f d m fun x m1=>fo d m1 fun o m2=>fi d m2 fun y m3=>∃ c ks kvs,o=.cel c/\jY y=some ks/\m3 c=some (.n kvs)/\kvs.length<sizeLine/\E.nx d (aY m3 c (.n (fB kvs ks x)))
theorem Q8(hu:X.A.units+100<cLine)(he:PE X e (LE X.K f))(ho:PE X o (LE X.K fo))(hi:PE X i (LE X.K fi))(hs:swapsWith e (some (.Subscript o i tpos)) pos.line X.env=pure false:=by rfl) :
  PS X (.Assign [.Subscript o i tpos] e pos) (LS X.K (Ae fo fi f)):=by
 intro pins s σ H D I h;obtain⟨Z,d,m,R,ok,rs,h,k,_⟩:=h;refine wpAny_Assign_Subscript (bA (he pins s σ H (fun v H1=>∃ (x:DL.D) (m1:Mu),RD X.K Z m1 H1 x v/\(fo d m1 fun o m2=>fi d m2 fun y m3=>∃ c ks kvs,o=.cel c/\jY y=some ks/\m3 c=some (.n kvs)/\kvs.length<sizeLine/\R.nx d (aY m3 c (.n (fB kvs ks x))))/\Ext X.K Z m H m1 H1/\Ok X.K Z m1 H1) I
  ⟨Z,d,m,_,ok,rs,h,fun x m1 v H1 q e1 ok1 rd=>⟨x,m1,rd,q,e1,ok1⟩⟩) fun r s1 ⟨v,H1,I1,rv,x,m1,rx,q,e1,ok1⟩=>?_) hs
 refine bA (ho pins s1 σ H1 (fun w H2=>∃ (ox:DL.D) (m2:Mu),RD X.K Z m2 H2 ox w/\(fi d m2 fun y m3=>∃ c ks kvs,ox=.cel c/\jY y=some ks/\m3 c=some (.n kvs)/\kvs.length<sizeLine/\R.nx d (aY m3 c (.n (fB kvs ks x))))/\Ext X.K Z m1 H1 m2 H2/\Ok X.K Z m2 H2) I1
  ⟨Z,d,m1,_,ok1,rs.ext e1,q,fun o m2 w H2 q2 e2 ok2 r2=>⟨o,m2,r2,q2,e2,ok2⟩⟩) fun u s2 ⟨w,H2,I2,rw2,ox,m2,ro,q2,e2,ok2⟩=>?_
 refine bA (hi pins s2 σ H2 (fun z H3=>∃ (y:DL.D) (m3:Mu),RD X.K Z m3 H3 y z/\(∃ c ks kvs,ox=.cel c/\jY y=some ks/\m3 c=some (.n kvs)/\kvs.length<sizeLine/\R.nx d (aY m3 c (.n (fB kvs ks x))))/\Ext X.K Z m2 H2 m3 H3/\Ok X.K Z m3 H3) I2
  ⟨Z,d,m2,_,ok2,(rs.ext e1).ext e2,q2,fun y m3 z H3 q3 e3 ok3 r3=>⟨y,m3,r3,q3,e3,ok3⟩⟩) fun iv s3 ⟨z,H3,I3,rz,y,m3,ry,⟨c,ks,kvs,eo,ey,hm,hl,q3⟩,e3,ok3⟩=>?_
 subst eo;obtain⟨rfl,hk⟩:=xS ey;obtain⟨rfl,_⟩:=ro;obtain rfl:u=Value.ref c:=rw2;have r3:=RP.nkv (.tuple ks) z hk.1 ry
 have r4:=r3
 simp only[NKV]at r4;obtain⟨b,vs,rfl,_⟩:=r4;obtain rfl:iv=Value.ref b:=rz;obtain⟨ws,g1,g2⟩:=ok3.n hm;obtain⟨z,hd,xs,rel,dd⟩:=wZ I3 g1;have hz:xs.length<=sizeLine:=by rw[<- Paired.length rel];exact z
 have hl2:(cI ws ks v).length<=sizeLine:=by have:=uL ws ks v;rw[g2.length]at this;omega
 refine wpAny_setItem_heap (hsz:=hz) (Ag hu) (qO I3 ⟨hk.1,hk.2,r3⟩) dd fun h' dd' hs'=>?_;obtain⟨q,es,ep,hq,h2,h3,h4,_,h5⟩:=dd';have ht:∀ b' xs',H3 b'=some (.tup xs')->upd H3 c (.dN X.K (cI ws ks v)) b'=some (.tup xs'):=fun b' xs' e=>by rw[bR (zD e g1 (fun z=>nomatch z))];exact e
 have hf:∀ b' ob u',H3 b'=some (.frz ob u')->upd H3 c (.dN X.K (cI ws ks v)) b'=some (.frz ob u'):=fun b' ob u' e=>by rw[bR (zD e g1 (fun z=>nomatch z))];exact e
 refine⟨σ,upd H3 c (.dN X.K (cI ws ks v)),rS I3 (by rw[g1];exact True.intro) hs' ⟨q,hq⟩ ⟨hl2,hd,_,Paired.mapP (rel.put ks ⟨hk.1,hk.2,r3⟩ rv) (fun p q z=>⟨z.1,⟨z.2.1.1,z.2.1.2.1,NKV.stay ht hf _ _ z.2.1.2.2⟩,z.2.2⟩),q,es,ep,hq,h2,h3,h4,h5⟩,?_⟩
 have e4:Ext X.K Z m3 H3 (aY m3 c (.n (fB kvs ks x))) (upd H3 c (.dN X.K (cI ws ks v))):=Ext.put ok3 hm g1
 exact k d _ σ _ q3 (e1.trans (e2.trans (e3.trans e4))) (ok3.put hm g1 ⟨rfl,g2.put ((rx.ext (e2.trans e3)).rw)⟩) ((rs.ext e1).ext (e2.trans (e3.trans e4)))
@[simp] def xH:D2
 | x,.cel c,m,Q=>∃ ks kvs,jY x=some ks/\m c=some (.n kvs)/\Q (.dat (.bool (!(dI kvs ks).isSome))) m
 | _,_,_,_=>False
theorem Yq(hu:X.A.units+100<cLine):dO X (compareOp .NotIn) xH:=by
 intro pins s σ H Z m x y dx dy v u R Q I ok rx ry r1 r2 h k;unfold xH at h
 split at h
 ·obtain⟨ks,kvs,ey,hm,q⟩:=h;obtain⟨rfl,hk⟩:=xS ey;obtain⟨rfl,_⟩:=r2;obtain rfl:=(show u=Value.ref _ from ry)
  have r3:=RP.nkv (.tuple ks) x hk.1 r1
  have r4:=r3
  simp only[NKV]at r4;obtain⟨b,vs,rfl,_⟩:=r4;obtain rfl:v=Value.ref b:=rx;obtain⟨ws,g1,g2⟩:=ok.n hm;obtain⟨z,hd,xs,rel,dd⟩:=wZ I g1;refine wpAny_notIn_heap (Ag hu) (qO I ⟨hk.1,hk.2,r3⟩) hd dd ?_;have e:=(rel.val ks).isSome_eq
  rw[Option.isSome_map]at e;rw[<- e,<- (g2.val (k:=ks)).2];exact⟨.bl (!(dI kvs ks).isSome),H,I.tok _,rfl,k _ m _ H q Ext.refl ok .ofBl⟩
 ·exact h.elim
end
end DL
namespace DL
open PySem PySem.Spec PyProof.Rows L2
open MeetsSeq AutoSeq1 in
theorem Vd(T:String)(hT:T="tuple"\/T="list")(l:Addr)(items:Array Value)(n:Nat)(b:Addr)(dd:Option Addr)(items2:Array Value)(n2:Nat)(sl:Array (Option Value))(hs0:¬(!items.isEmpty&&Builtin.List.listTooLong (items.size+items2.size))=true)(hs1:items.size<=sizeLine)(hs2:items.size+items2.size<=sizeLine+1) :
  Meets (Builtin.«list.extend» ⟨[.ref l,.ref b],[]⟩) (fun _ R s=>s.heap.get? l=some {cls:=.type "list",dict:=none,data:=.seq items n,slots:=#[]}/\s.heap.get? b=some {cls:=.type T,dict:=dd,data:=.seq items2 n2,slots:=sl}/\R (.ok (.ret Value.none)) {s with heap:=s.heap.update l (Obj.mapSeq fun x=>x++items2),toks:=s.toks}) :=
 .of_wp fun prog w A R s h=>by
  obtain⟨hp,g,d,tk,os⟩:=s;obtain⟨hl,hb,h⟩:=h;have hz':(items++items2).size<=sizeLine+1:=by rw[Array.size_append];exact hs2
  rcases hT with rfl | rfl
  ·wp_walk using (wpAny_updateSeq hl rfl (hz:=hs1) (_hz':=hz')),wpAny_loadPart' hl,wpAny_loadPart' hb;exact⟨_,rfl,h⟩
  ·wp_walk using (wpAny_updateSeq hl rfl (hz:=hs1) (_hz':=hz')),wpAny_loadPart' hl,wpAny_loadPart' hb;exact⟨_,rfl,h⟩
section
variable {X:Cx}{o e:Expr}{f g:DE}{pos:Pos}
def FQ(K:PySem.W.Frag):V->List V->Hp->VK->Prop:=fun x vs H Q=>∃ l b xs zs,x=.ref l/\vs=[.ref b]/\H l=some (.lst xs)/\(SqT K H b zs\/SqL K H b zs)/\xs.length+zs.length<=sizeLine/\Q .non (upd H l (.lst (xs++zs)))
theorem Rq:uG X "list.extend" (FQ X.K):=by
 intro pins s σ H x vs v us Q I rx rv h;obtain⟨l,b,xs,zs,rfl,rfl,hH,hB,hz,q⟩:=h
 cases rx
 obtain⟨u,rfl,ru⟩:=rv.one
 cases ru
 obtain⟨z,its,n,r,hl,e⟩:=I.lstM hH;have hb:∃ T its2 dd n2 sl,(T="tuple"\/T="list")/\Vals zs its2/\s.heap.get? b=some {cls:=.type T,dict:=dd,data:=.seq its2.toArray n2,slots:=sl}:=by
  rcases hB with hB | hB
  ·obtain⟨its2,r2,⟨ob,e2,c2,n2,d2⟩,_⟩:=I.tuple hB;obtain⟨oc,od,oda,osl⟩:=ob;exact⟨"tuple",its2,od,n2,osl,.inl rfl,r2,by rw[e2];cases c2;cases d2;rfl⟩
  ·obtain⟨its2,r2,⟨ob,n2,e2,c2,_,d2⟩,_⟩:=I.list hB;obtain⟨oc,od,oda,osl⟩:=ob;exact⟨"list",its2,od,n2,osl,.inr rfl,r2,by rw[e2];cases c2;cases d2;rfl⟩
 obtain⟨T,its2,dd,n2,sl,hT,r2,e2⟩:=hb;have l1:=r.length
 have l2:=r2.length
 have hsz:its.toArray.size+its2.toArray.size<=sizeLine:=by rw[List.size_toArray,List.size_toArray];omega
 have hlong:¬ (!its.toArray.isEmpty&&Builtin.List.listTooLong (its.toArray.size+its2.toArray.size))=true:=by
  rw[Cg hsz,Bool.and_false];exact Bool.false_ne_true
 refine call_meets F.slot_list_extend ⟨_,e,rfl⟩ F.entry_list_extend (F.args_list_extend_2 _ _)
  (Vd T hT l its.toArray n b dd its2.toArray n2 sl hlong (by rw[List.size_toArray];omega) (by omega)) ⟨e,e2,?_⟩
 refine⟨.non,_,I.lset (its':=its++its2) hH e (by simp) (r.append r2) ?_,rfl,q⟩
 rw[List.length_append];omega
@[simp] def vV(fo g:DE):DE:=fun d m Q=>fo d m fun o m1=>∃ c,o=.cel c/\(∃ ys,m1 c=some (.l ys))/\g d m1 fun x m2=>∃ xs ys,(x=.dat (.tuple ys)\/x=.dat (.list ys))/\m2 c=some (.l xs)/\xs.length+ys.length<=sizeLine/\Q (.dat .none) (aY m2 c (.l (xs++ys)))
theorem FR{apos cpos:Pos}(ho:PE X o (LE X.K f))(he:PE X e (LE X.K g))(hbase:attributeBase o "extend" X.env (eval o X.env)=eval o X.env:=by rfl)
  (hfew:((backTo cpos (starEach [e] X.env)).all (fun x=>!x.1)&&(backToKw cpos (keywordEach [] X.env)).all (fun x=>x.1.isSome)&&decide ([e].length+([]:List Keyword).length+(if ([]:List Keyword).isEmpty then 0 else 1)<30))=true:=by rfl)
  (hline:(apos.endLine==cpos.line)=true:=by rfl) (hs:starEach [e] X.env=(false,eval e X.env)::starEach [] X.env:=by rfl):PE X (.Call (.Attribute o "extend" apos) [e] [] cpos) (LE X.K (vV f g)) :=
 PE.imp (uY (T:="list") (id:="list.extend") (name:="extend") PySem.F.plainAttrs_list PySem.F.slot_list_extend PySem.F.type_list_extend Rq ho (gZ he iH hs) hbase hfew hline hs rfl) fun s H Q h=>by
  obtain⟨Z,d,m,R,ok,rs,h,k⟩:=h;refine⟨Z,d,m,_,ok,rs,h,fun x m1 v H1 ⟨c,ex,⟨xs0,hx0⟩,q⟩ e1 ok1 rd=>?_⟩;subst ex;obtain⟨rfl,hc⟩:=rd;obtain⟨vs0,g0,_⟩:=ok1.l hx0;refine⟨.inl ⟨rfl,vs0,.inl (.inl g0)⟩,Z,d,m1,_,ok1,rs.ext e1,q,fun y m2 w H2 ⟨xs,ys,ey,hm,hz,q2⟩ e2 ok2 rd2=>?_⟩;have hb:∃ b ws,w=.ref b/\(SqT X.K H2 b ws\/SqL X.K H2 b ws)/\RPs X.K Z m2 H2 ys ws:=by
   rcases ey with rfl | rfl
   ·simp only[RD,RP]at rd2;obtain⟨b,ws,e,h1,h2⟩:=rd2;exact⟨b,ws,e,.inl h1,h2⟩
   ·simp only[RD,RP]at rd2;obtain⟨b,ws,e,_,h1,h2⟩:=rd2;exact⟨b,ws,e,.inr h1,h2⟩
  obtain⟨b,ws,rfl,g3,g4⟩:=hb;obtain⟨vs,g1,g2⟩:=ok2.l hm;refine⟨c,b,vs,ws,rfl,rfl,g1,g3,by rw[g2.length,g4.length];exact hz,?_⟩
  exact k _ _ _ _ q2 (e1.trans (e2.trans (Ext.put ok2 hm g1))) (ok2.put hm g1 (show RPs _ _ _ _ _ _ from g2.append g4)) (by simp only[RD,RP])
end
end DL
namespace DL
open PySem PySem.Spec PyProof.Rows L2
def dS(sl:List Int->List Nat)(led:Bool)(zs:List Int):SetTable:={mask:=7,place:=(sl zs).toArray,dummies:=#[],finger:=0,led:=led,moves:=0,plain:=true}
def cP(zs:List Int)(tks:List Tok):Array (Int×Value):=(List.zipWith (fun z t=>(hashInt z,Value.int z t)) zs tks).toArray
structure SD where
 dom:List Int
 sub:List Int->Prop
 sl:List Int->List Nat
 to:List Int->Int->Nat
 ins:List Int->Int->List Int
 cap:Nat
 nil:sub []
 nil':sl []=[]
 len:∀ zs,sub zs->zs.length<=3/\(∀ led,(dS sl led zs).fits zs.length=true)
 free:∀ led zs,sub zs->∀ z∈dom,z∉zs->zs.length<cap->(dS sl led zs).freeSlot (hashInt z)=some (to zs z,false)/\(dS sl led zs).put (to zs z)=(dS sl led (ins zs z),SetTable.below (sl zs).toArray (to zs z))/\(dS sl led (ins zs z)).fits (zs.length+1)=true /\
  ins zs z=zs.take (SetTable.below (sl zs).toArray (to zs z))++z::zs.drop (SetTable.below (sl zs).toArray (to zs z))/\sub (ins zs z)/\(dS sl led (ins zs z)).tooFull=false
 old:∀ zs,sub zs->∀ z∈zs,ins zs z=zs
 st:∀ zs,sub zs->∀ i j:Nat,((sl zs).toArray)[i]?=some j->SetTable.below (sl zs).toArray (j+1)=i+1
 bel:∀ zs,sub zs->SetTable.below (sl zs).toArray 0=0
def ISetB(B:SD)(P:Program)(w:World)(h:Heap)(a:Addr)(zs:List Int):Prop :=
 ∃ o tks ep,h.get? a=some o/\o.ExactSet/\B.sub zs/\tks.length=zs.length/\o.data=.set (cP zs tks) ep (dS B.sl (!w.params.followText "set-order") zs)
theorem ISetB.at{B:SD}{P:Program}{w:World}{h h':Heap}{a:Addr}{zs:List Int}(T:ISetB B P w h a zs)(k:∀ o,h.get? a=some o->h'.get? a=some o):ISetB B P w h' a zs:=by
 obtain⟨o,tks,ep,ho,rest⟩:=T;exact⟨o,tks,ep,k o ho,rest⟩
abbrev iK(w:World):Obj:={cls:=.type "set",dict:=none,data:=.set #[] 0 (.fresh 0 0 (!w.params.followText "set-order"))}
theorem DR{B:SD}{P:Program}{w:World}{h:Heap}{a:Addr}(e:h.get? a=some (iK w)):ISetB B P w h a []:=⟨_,[],0,e,⟨rfl,rfl,rfl⟩,B.nil,rfl,by unfold dS;rw[B.nil'];rfl⟩
theorem Hc{α β γ:Type}(f:α->β->γ):∀ (p:Nat) (xs:List α) (ys:List β),xs.length=ys.length->List.zipWith f (xs.take p) (ys.take p)=(List.zipWith f xs ys).take p/\List.zipWith f (xs.drop p) (ys.drop p)=(List.zipWith f xs ys).drop p
 | 0,xs,ys,_=>by simp
 | p+1,[],[],_=>by simp
 | p+1,x::xs,y::ys,h=>by
  obtain⟨a,b⟩:=Hc f p xs ys (by simpa using h)
  simp[a,b]
theorem AC{B:SD}{zs:List Int}{tks:List Tok}{z:Int}{led:Bool}{tk:Tok}(h:B.sub zs)(hl:tks.length=zs.length)(hz:z∈B.dom)(hn:z∉zs)(hcp:zs.length<B.cap) :
  ∃ tks',tks'.length=(B.ins zs z).length/\layNew (dS B.sl led zs) (cP zs tks) (hashInt z) (.int z tk)=(cP (B.ins zs z) tks',dS B.sl led (B.ins zs z),false,false):=by
 obtain⟨f1,f2,f3,f4,_⟩:=B.free led zs h z hz hn hcp
 generalize ep:SetTable.below (B.sl zs).toArray (B.to zs z)=ps at f2 f4
 have hlen:(B.ins zs z).length=zs.length+1:=by rw[f4];simp;omega
 refine⟨tks.take (ps)++tk::tks.drop (ps),by rw[hlen];simp;omega,?_⟩
 have e:SetTable.insertAt (cP zs tks) (ps) (hashInt z,.int z tk)=cP (B.ins zs z) (tks.take (ps)++tk::tks.drop (ps)):=by
  obtain⟨c1,c2⟩:=Hc (fun z t=>(hashInt z,Value.int z t)) (ps) zs tks hl.symm;apply Array.toList_inj.mp
  rw[f4];unfold SetTable.insertAt cP;rw[List.zipWith_append (by simp;omega),List.zipWith_cons_cons,c1,c2]
  simp;rw[List.take_of_length_le (by rw[List.length_drop,List.length_zipWith];exact Nat.le_refl _)]
 unfold layNew;rw[f1];dsimp only;rw[f2];dsimp only;rw[e];have es:(cP (B.ins zs z) (tks.take (ps)++tk::tks.drop (ps))).size=zs.length+1:=by
  unfold cP;rw[List.size_toArray,List.length_zipWith,hlen];simp;omega
 rw[es,f3];unfold SetTable.orStandIn;rw[f3];rfl
theorem Tt{zs:List Int}{tks:List Tok}(hl:tks.length=zs.length):IntsAre ((cP zs tks).toList.map (·.2)) zs:=by
 unfold cP;rw[List.toList_toArray]
 induction zs generalizing tks with
 | nil=>cases tks with
  | nil=>exact .nil
  | cons _ _=>simp at hl
 | cons z zs ih=>cases tks with
  | nil=>simp at hl
  | cons t tks=>exact .cons z t (ih (by simpa using hl))
theorem size3{zs:List Int}{tks:List Tok}(hl:tks.length=zs.length):(cP zs tks).size=zs.length:=by
 unfold cP;rw[List.size_toArray,List.length_zipWith];omega
section
variable {P:Program}{w:World}{A:Around}{E:Value->Shared->Prop}{s:Shared}{a:Addr}{zs:List Int}{z:Int}{tk:Tok}{B:SD}
theorem tQ(z:Int)(tk:Tok):(bZ P w).is (.inl z) (.int z tk)=true:=Hu z tk
theorem p9{tks:List Tok}(hl:tks.length=zs.length):ElemsOf (bZ P w) (cP zs tks).toList/\((∃ e∈(cP zs tks).toList,(bZ P w).is (.inl z) e.2=true)↔z∈zs):=by
 unfold cP;rw[List.toList_toArray]
 induction zs generalizing tks with
 | nil=>exact⟨(fun e he=>by cases tks<;>simp at he),by simp⟩
 | cons y zs ih=>cases tks with
  | nil=>simp at hl
  | cons t tks =>
   obtain⟨i1,i2⟩:=ih (tks:=tks) (by simpa using hl)
   refine⟨fun e he=>?_,?_⟩
   ·rw[List.zipWith_cons_cons]at he;rcases List.mem_cons.mp he with e1 | e1
    ·subst e1;exact⟨⟨.inl y,tQ y t,rfl⟩,rfl⟩
    ·exact i1 e e1
   ·rw[List.zipWith_cons_cons,List.mem_cons,<- i2]
    constructor
    ·rintro⟨e,he,q⟩;rcases List.mem_cons.mp he with e1 | e1
     ·subst e1;have q:mR (.inl z) (.int y t)=true:=q
      rcases jB q with⟨i,t',e1,e2⟩ | ⟨x,t',e1,e2⟩
      ·cases e1;cases e2;exact .inl rfl
      ·cases e1
     ·exact .inr ⟨e,e1,q⟩
    ·rintro (rfl | ⟨e,he,q⟩)
     ·exact⟨_,List.mem_cons_self,tQ z t⟩
     ·exact⟨e,List.mem_cons_of_mem _ he,q⟩
theorem Te{Q:Bool->Shared->Prop}(T:ISetB B P w s.heap a zs)(hz:z∈B.dom)(hcp:z∉zs->zs.length<B.cap)
  (h:∀ b h',Heap.SameBut a s.heap h'->ISetB B P w h' a (B.ins zs z)->Q b {s with heap:=h'}) :
  wpAny (model P w) A (setAddHashed a (.int z tk) ((bZ P w).hash (.inl z))) Q E s:=by
 have T0:=T
 obtain⟨o,tks,ep,ho,hex,hsub,hl,hd⟩:=T;obtain⟨l3,lf⟩:=B.len zs hsub;have hf:(dS B.sl (!w.params.followText "set-order") zs).fits (cP zs tks).size=true:=by rw[size3 hl];exact lf _
 have hb:(cP zs tks).size<scanBound:=by rw[size3 hl];unfold scanBound;omega
 obtain⟨hel,mem⟩:=p9 (P:=P) (w:=w) (z:=z) hl;have hkey:=tQ (P:=P) (w:=w) z tk
 unfold setAddHashed setAddHashedIn;refine wpAny_holding (wpAny_bind (wpAny_setState_of ho hd hf ?_));dsimp only;rw[byScan_of (x:=.int z tk) rfl hb hel,if_pos rfl];unfold setAddByScan;refine wpAny_bind (wpAny_bind (wpAny_rule (wpAny_bind (wpAny_setScan_of hkey ho hd hf hel ?_))))
 cases hr:List.findIdx? (fun e=>(bZ P w).is (.inl z) e.2) (cP zs tks).toList with
 | some j =>
  obtain⟨hj,hpj,_⟩:=List.findIdx?_eq_some_iff_getElem.mp hr;have hzz:z∈zs:=mem.mp ⟨_,List.getElem_mem hj,hpj⟩
  have q:=h false s.heap (Heap.SameBut.refl a s.heap) (by rw[B.old zs hsub z hzz];exact T0)
  exact wpAny_pure (wpAny_pure q)
 | none =>
  have hzz:z∉zs:=fun hz=>by
   obtain⟨e,he,q⟩:=mem.mpr hz;have:=List.findIdx?_eq_none_iff.mp hr e he
   rw[q]at this
   cases this
  dsimp only;obtain⟨tks',hl',e⟩:=AC (led:=!w.params.followText "set-order") (tk:=tk) hsub hl hz hzz (hcp hzz);obtain⟨_,_,_,_,g5,g6⟩:=B.free (!w.params.followText "set-order") zs hsub z hz hzz (hcp hzz);have e:layNew (dS B.sl (!w.params.followText "set-order") zs) (cP zs tks) ((bZ P w).hash (.inl z)) (.int z tk)=_:=e
  generalize layNew (dS B.sl (!w.params.followText "set-order") zs) (cP zs tks) ((bZ P w).hash (.inl z)) (.int z tk)=L at e ⊢
  obtain⟨es1,t1,wd,gave⟩:=L;have gw:∀ (b:Bool) (s₁:Shared) (Q':Unit->Shared->Prop),Q' () s₁->wpAny (model P w) A (match b with | true=>rule "set.scan.the-table-gave-way" | false=>pure ()) Q' E s₁ :=
   fun b s₁ Q' hq=>by cases b<;>first | exact wpAny_pure hq | exact wpAny_rule hq
  refine wpAny_bind (gw _ _ _ ?_)
  cases e
  dsimp only;rw[if_pos (show(dS B.sl (!w.params.followText "set-order") (B.ins zs z)).plain=true from rfl)]
  refine wpAny_bind ?_;rw[hashByValue_scannable 8 (x:=.int z tk) rfl];refine wpAny_pure ?_;rw[if_pos (show plainKind (Value.int z tk)=true from rfl)]
  have hb':(cP (B.ins zs z) tks').size<scanBound:=by rw[size3 hl'];have:=(B.len _ g5).1;unfold scanBound;omega
  refine wpAny_bind (wpAny_storeSet_of ho hd ?_ (fits_of_scanBound hb'));rw[g6,if_neg (by decide)]
  have o1:=Heap.get?_update_self (Obj.putSet (cP (B.ins zs z) tks') (dS B.sl (!w.params.followText "set-order") (B.ins zs z))) ho (by rw[putSet_of _ _ hd];rfl)
  rw[putSet_of _ _ hd]at o1;exact wpAny_pure (wpAny_pure (h true _ (Heap.SameBut.update s.heap a _) ⟨_,tks',ep+1,o1,hex,g5,hl',rfl⟩))
end
structure WalkOkI (P:Program) (w:World) (s s2:Shared) (S I:Addr) (zs:List Int) (fp:List Addr) (n:Nat) (Pv:Nat->Value->Prop) (St:Nat->Heap->Prop):Prop where
 walk:∀ B:Around,B.handled=none->Walks P w B I fp [I] n Pv St
 st:St 0 s2.heap
 fps:∀ b∈fp,b=S\/s.heap.objs.size<=b
 lt:∀ b∈fp,b<s2.heap.objs.size
 ext:∀ b ob,s.heap.get? b=some ob->s2.heap.get? b=some ob
 gens:s2.gens=s.gens
 os:s2.os=s.os
 n60:n<=60
 new:s.heap.objs.size<=I
 all:∀ acc,ItemsOf Pv acc n->∃ ss,IntsAre acc.toList ss/\ss.Perm zs
theorem Tq{l l':List Value}(p:l'.Perm l):∀ {vs:List Int},IntsAre l vs->∃ vs',IntsAre l' vs'/\vs'.Perm vs:=by
 induction p with
 | nil=>exact fun h=>⟨_,h,List.Perm.refl _⟩
 | cons x p ih =>
  intro vs h
  cases h with
  | cons z t h =>
   obtain⟨us,u1,u2⟩:=ih h;exact⟨z::us,.cons z t u1,u2.cons z⟩
 | swap x y l =>
  intro vs h
  cases h with
  | cons z t h=>cases h with
   | cons z' t' h=>exact⟨_,.cons _ _ (.cons _ _ h),List.Perm.swap _ _ _⟩
 | trans p q ih1 ih2 =>
  intro vs h;obtain⟨us,u1,u2⟩:=ih2 h;obtain⟨ws,w1,w2⟩:=ih1 u1;exact⟨ws,w1,w2.trans u2⟩
section
variable {P:Program}{w:World}{A:Around}{E:Value->Shared->Prop}{s:Shared}{S:Addr}{zs:List Int}{B:SD}
theorem Wn{Q:Value->Shared->Prop}(hh:True)(TS:ISetB B P w s.heap S zs)(hz:zs.length<=60)(h:∀ I s2 fp n Pv St,WalkOkI P w s s2 S I zs fp n Pv St->Q (.ref I) s2):wpAny (model P w) A (pyIter (.ref S)) Q E s:=by
 obtain⟨o,tks,ep,ho,hex,hsub,hl,hd⟩:=TS;obtain⟨l3,lf⟩:=B.len zs hsub;have hf:(dS B.sl (!w.params.followText "set-order") zs).fits (cP zs tks).size=true:=by rw[size3 hl];exact lf _
 have sz0:=size3 hl
 have hv:=Tt hl
 have ltS:S<s.heap.objs.size:=Heap.lt_size ho
 have fin:∀ acc:Array Value,acc.toList.Perm ((cP zs tks).toList.map (·.2))->∃ ss,IntsAre acc.toList ss/\ss.Perm zs:=fun acc q=>Tq q hv
 refine X6 ho hex hd hf (by omega) (fun b1 b2 b3 ys d' yp=>by cases b2) fun c=>?_
 have fps:∀ b∈[s.heap.objs.size,S],b=S\/s.heap.objs.size<=b:=fun b hb=>by
  simp at hb;rcases hb with rfl | rfl
  ·exact .inr (Nat.le_refl _)
  ·exact .inl rfl
 have lt2:∀ x:Obj,∀ b∈[s.heap.objs.size,S],b<(s.heap.push x).objs.size:=fun x b hb=>by
  simp at hb;rw[Heap.size_push];rcases hb with rfl | rfl
  ·exact Nat.lt_succ_self _
  ·exact Nat.lt_succ_of_lt ltS
 by_cases bt:w.params.followText "set-order"=true
 ·have pp:=Z5 (w.params.setOrder S ep) (cP zs tks)
  have ps:(pickOrder (w.params.setOrder S ep) (cP zs tks)).size=(cP zs tks).size:=by rw[<- Array.length_toList,pp.length_eq,Array.length_toList]
  refine h _ _ [s.heap.objs.size,S] (cP zs tks).size _ _ ⟨fun W hB=>U1 hB bt (Nat.ne_of_lt ltS) hd hf ps,⟨Heap.get?_push_size _ rfl,Heap.get?_push_of_some _ ho⟩,fps,lt2 _,fun b ob e=>Heap.get?_push_of_some _ e,rfl,rfl,by omega,Nat.le_refl _,fun acc ha=>?_⟩
  have e:acc.toList=(pickOrder (w.params.setOrder S ep) (cP zs tks)).toList.map (·.2):=by
   refine Ew ha (by rw[List.length_map,Array.length_toList,ps]) fun j v ⟨x,e1,e2⟩=>?_
   rw[List.getElem?_map,Array.getElem?_toList,e1,e2];rfl
  refine fin acc ?_;rw[e];exact pp.map _
 ·have bf:w.params.followText "set-order"=false:=by simpa using bt
  have bs:∀ i j:Nat,(dS B.sl (!w.params.followText "set-order") zs).place[i]?=some j->SetTable.below (dS B.sl (!w.params.followText "set-order") zs).place (j+1)=i+1:=B.st zs hsub
  refine h _ _ [s.heap.objs.size,S] (cP zs tks).size _ _ ⟨fun W hB=>Y5 hB bf (Nat.ne_of_lt ltS) hd hf (by show(!w.params.followText "set-order")=true;rw[bf];rfl) rfl bs,⟨⟨0,Heap.get?_push_size _ rfl,B.bel zs hsub⟩,Heap.get?_push_of_some _ ho⟩,fps,lt2 _,fun b ob e=>Heap.get?_push_of_some _ e,rfl,rfl,by omega,Nat.le_refl _,fun acc ha=>?_⟩
  have e:acc.toList=(cP zs tks).toList.map (·.2):=by
   refine Ew ha (by rw[List.length_map,Array.length_toList]) fun j v ⟨x,e1,e2⟩=>?_
   rw[List.getElem?_map,Array.getElem?_toList,e1,e2];rfl
  refine fin acc ?_;rw[e]
theorem ISetB.type{h:Heap}(T:ISetB B P w h S zs):∃ o,h.get? S=some o/\o.cls=.type "set":=let ⟨o,_,_,ho,hx,_⟩:=T;⟨o,ho,hx.1⟩
theorem E3{Q:List Value->Shared->Prop}(hh:A.handled=none)(T:ISetB B P w s.heap S zs)(hz:zs.length<=60)
  (h:∀ s' vs ss,IntsAre vs ss->ss.Perm zs->s.heap.objs.size<s'.heap.objs.size->(∀ b ob,s.heap.get? b=some ob->s'.heap.get? b=some ob)->s'.gens=s.gens->s'.os=s.os->Q vs s'):wpAny (model P w) A (collect (.ref S)) Q E s:=by
 obtain⟨oS,hoS,hcS⟩:=T.type;have ltS:S<s.heap.objs.size:=Heap.lt_size hoS
 have neL:s.heap.objs.size≠S:=Nat.ne_of_gt ltS
 unfold collect;refine wpAny_bind (wpAny_runValue (codeAny_builtin PySem.F.entry_proto_collect ?_));rw[Around.under_plainId PySem.F.plain_proto_collect _];show wpAny _ A.in1 (newList []>>=fun l=>again (.builtin "list.__iadd__" ⟨[l,.ref S],[]⟩)) _ _ s
 refine wpAny_bind (wpAny_newObj_type ?_);refine wpAny_pure ⟨plainId_quiet PySem.F.plain_list_iadd _,codeAny_builtin PySem.F.entry_list_iadd ?_⟩;rw[Around.under_plainId PySem.F.plain_list_iadd _];obtain⟨h1,eh1⟩:∃ h1,h1=s.heap.push {cls:=.type "list",data:=.seq ([]:List Value).toArray}:=⟨_,rfl⟩;rw[<- eh1];have k1:∀ b ob,s.heap.get? b=some ob->h1.get? b=some ob:=fun b ob e=>by rw[eh1];exact Heap.get?_push_of_some _ e
 have hL1:h1.get? s.heap.objs.size=some {cls:=.type "list",data:=.seq ([]:List Value).toArray}:=by rw[eh1];exact Heap.get?_push_size _ rfl
 have sz1:h1.objs.size=s.heap.objs.size+1:=by rw[eh1,Heap.size_push]
 have T1:ISetB B P w h1 S zs:=T.at fun ob e=>k1 S ob e
 have hT1:Shared.TypeIs {s with heap:=h1} (.ref S) "set":=⟨oS,k1 S oS hoS,hcS⟩
 show wpAny _ A.in1 (Builtin.List.listExtendWith (.ref s.heap.objs.size) (.ref S) (.ref s.heap.objs.size)) _ _ _
 unfold Builtin.List.listExtendWith;refine wpAny_bind (wpAny_typeOf hT1 ?_);have c1:Builtin.List.listSameRef (.ref s.heap.objs.size) (.ref S)=false:=by simp[Builtin.List.listSameRef,neL]
 rw[c1,if_neg (by decide)]
 refine wpAny_bind (Wn (s:={s with heap:=h1}) True.intro T1 hz fun I s2 fp n Pv St W=>?_);have hT2:s2.TypeIs (.ref S) "set":=⟨oS,W.ext S oS (k1 S oS hoS),hcS⟩
 refine wpAny_bind (wpAny_holding (BR hT2 ?_));rw[if_pos (by decide +kernel)]
 refine wpAny_bind (wpAny_rule ?_);have hL2:s2.heap.get? s.heap.objs.size=some {cls:=.type "list",data:=.seq ([]:List Value).toArray}:=W.ext _ _ hL1
 refine wpAny_bind ?_;show wpAny _ A.in1 (updateSeq s.heap.objs.size (·.push .none)>>=fun _=>updateSeq s.heap.objs.size (·.pop)) _ _ _
 refine wpAny_bind (wpAny_updateSeq hL2 rfl ?_);have hL3:=Heap.get?_update_self (Obj.mapSeq (·.push Value.none)) hL2 rfl
 refine wpAny_updateSeq hL3 rfl ?_;have hL4:=Heap.get?_update_self (Obj.mapSeq (·.pop)) hL3 rfl
 have nf:s.heap.objs.size∉fp:=fun q=>by
  rcases W.fps _ q with e | e
  ·exact neL e
  ·have e:h1.objs.size<=s.heap.objs.size:=e
   rw[sz1]at e;exact absurd e (Nat.not_succ_le_self _)
 have oth:∀ b ob,b≠s.heap.objs.size->s2.heap.get? b=some ob->((s2.heap.update s.heap.objs.size (Obj.mapSeq (·.push Value.none))).update s.heap.objs.size (Obj.mapSeq (·.pop))).get? b=some ob:=fun b ob hb e=>(Heap.get?_update_other _ _ (Ne.symm hb)).trans ((Heap.get?_update_other _ _ (Ne.symm hb)).trans e)
 have WS:=(W.walk A.in1 (by simp[hh])).toS
 have n1:n<=sizeLine:=Nat.le_trans W.n60 (by rw[sizeLine_eq];decide)
 have st2:=(W.walk A.in1 (by simp[hh])).frame 0 s2.heap _ W.st fun b hb ob e=>oth b ob (by rintro rfl;exact nf hb) e
 refine wpAny_pure ⟨plainId_quiet PySem.F.plain_extend_loop _,codeAny_extend_loopS WS n1 _ nf _ n 0 _ _ _ rfl (Nat.zero_le _) st2 hL4 (ItemsOf.nil Pv) fun s' acc' c' hm hS' hacc=>?_⟩;show wpAny _ A (load s.heap.objs.size>>=_) _ _ s'
 refine wpAny_bind (wpAny_load hS' ?_);obtain⟨ss,q1,q2⟩:=W.all acc' hacc;refine wpAny_pure (h s' acc'.toList ss q1 q2 (Heap.lt_size hS') (fun b ob e=>hm.heap b ob ?_ (oth b ob ?_ (W.ext b ob (k1 b ob e)))) (hm.gens.trans W.gens) (hm.os.trans W.os))
 ·intro q;rcases List.mem_cons.mp q with q | q
  ·exact absurd (Heap.lt_size e) (by rw[q];exact Nat.lt_irrefl _)
  ·have q:b=I:=by simpa using q
   have l1:=Heap.lt_size e
   have l2:h1.objs.size<=I:=W.new
   rw[sz1]at l2;rw[q]at l1;exact absurd (Nat.lt_of_lt_of_le l1 (Nat.le_trans (Nat.le_succ _) l2)) (Nat.lt_irrefl _)
 ·intro q;exact absurd (Heap.lt_size e) (by rw[q];exact Nat.lt_irrefl _)
theorem j0{Q:Value->Shared->Prop}(hh:A.handled=none)(T:ISetB B P w s.heap S zs)(hz:zs.length<=60)
  (h:∀ (s':Shared) (vs:List Value) (ss:List Int) (e:Nat) (L:Addr),IntsAre vs ss->ss.Perm zs->ss.Pairwise (·<=·)->s.heap.objs.size<=L->s'.heap.get? L=some (seqObj "list" vs.toArray e)->(∀ b ob,s.heap.get? b=some ob->s'.heap.get? b=some ob)->s'.gens=s.gens->s'.os=s.os->Q (.ref L) s') :
  wpAny (model P w) A (call (.builtin "sorted") [.ref S]) Q E s:=by
 refine Calls.call_function_entry kind_sorted plain_sorted entry_sorted (args_sorted1 _) ?_;unfold Builtin.«sorted»;refine wpAny_bind (m:=checkCount "sorted" 1 1 _) (wpAny_pure ?_);refine wpAny_bind (E3 (by simp[hh]) T hz fun s1 vs ss hS hp lt1 k1 g1 o1=>?_)
 have vl:vs.length<64:=by
  have q1:=congrArg List.length hS.nums
  have q2:=hp.length_eq
  simp at q1;omega
 refine wpAny_bind (wpAny_newList ?_);obtain⟨h2,eh2⟩:∃ h2,h2=s1.heap.push (seqObj "list" vs.toArray 0):=⟨_,rfl⟩;have hoL:h2.get? s1.heap.objs.size=some (seqObj "list" vs.toArray 0):=by rw[eh2];exact Heap.get?_push_size _ rfl
 show wpAny _ _ _ _ _ {s1 with heap:=s1.heap.push (seqObj "list" vs.toArray 0)}
 rw[<- eh2];refine wpAny_bind (wpAny_holding (wpAny_call_entry slot_list_sort ⟨_,hoL,rfl⟩ entry_list_sort (list_sort_tree (s:={s1 with heap:=h2}) hoL hS vl fun out ss' b1 b2 b3=>⟨_,rfl,?_⟩) (args_list_sort _)));obtain⟨e,he⟩:=sortedHeap_at (h:=h2) (a:=s1.heap.objs.size) (vs:=vs) (n:=0) (out:=out) hoL;refine wpAny_pure ⟨_,rfl,h _ _ ss' e s1.heap.objs.size b1 (b2.trans hp) b3 (Nat.le_of_lt lt1) (by rw[Array.toArray_toList];exact he) (fun b ob hb=>?_) g1 o1⟩
 have lb:b<s1.heap.objs.size:=Heap.lt_size (k1 b ob hb)
 show(sortedHeap h2 _ _ _).get? b=_
 rw[sortedHeap_old (Nat.ne_of_lt lb) (by rw[eh2,Heap.size_push];exact Nat.lt_succ_of_lt lb),eh2]
 exact Heap.get?_push_of_some _ (k1 b ob hb)
end
def Gy(z:Int):Nat:=if z=-1 then 6 else z.toNat
def FA:List (List Int):=[[],[0],[1],[-1],[0,1],[0,-1],[1,-1],[0,1,-1]]
theorem st3:∀ zs∈FA,∀ i:Fin 3,(match ((zs.map Gy).toArray)[i.val]? with | none=>true | some j=>decide (SetTable.below (zs.map Gy).toArray (j+1)=i.val+1))=true:=by decide +kernel
end DL
namespace DL
open PySem PySem.Spec PyProof.Rows L2
section
variable {X:Cx}{elt tg iter:Expr}{ifs:List Expr}{scope:Scope}{NC:List Str}{fi:DI}{g:DG}{t:DT}{f:DE}{pos:Pos}
theorem sJ:∀ {vs:List Value} {ys:List Int},IntsAre vs ys->Vals (ys.map V.int) vs
 | _,_,.nil=>.nil
 | _,_,.cons z t h=>.cons ⟨t,rfl⟩ (sJ h)
theorem Mv{K:PySem.W.Frag}{Z:Addr->Prop}{m:Mu}{H:Hp}:∀ ys:List Int,RPs K Z m H (ys.map .int) (ys.map V.int)
 | []=>rfl
 | y::ys=>⟨_,_,rfl,by simp only[RP],Mv ys⟩
end
end DL
namespace DL
open PySem PySem.Spec PyProof.Rows L2
section
variable {X:Cx}{a:Expr}{f:DE}{pos p2 p3:Pos}
theorem Vals.rel:∀ {xs:List V} {us:List Value},Vals xs us->xs.length=us.length/\∀ (i:Nat) x u,xs[i]?=some x->us[i]?=some u->RelV x u
 | _,_,.nil=>⟨rfl,fun i x u e=>by simp at e⟩
 | _,_,.cons r t=>⟨by simp[(Vals.rel t).1],fun i x u e1 e2=>by
  cases i with
  | zero=>cases e1;cases e2;exact r
  | succ i=>exact(Vals.rel t).2 i x u (by simpa using e1) (by simpa using e2)⟩
theorem RPs.rel{K:PySem.W.Frag}{Z:Addr->Prop}{m:Mu}{H:Hp}:∀ {xs:List PyData} {vs:List V},RPs K Z m H xs vs->xs.length=vs.length/\∀ (i:Nat) x u,xs[i]?=some x->vs[i]?=some u->RP K Z m H x u
 | [],vs,h=>by
  cases (show vs=[] from h)
  exact⟨rfl,fun i x u e=>by simp at e⟩
 | p::ps,vs,h=>by
  obtain⟨v,r,rfl,h1,h2⟩:=h;obtain⟨q1,q2⟩:=RPs.rel h2;refine⟨by simp[q1],fun i x u e1 e2=>?_⟩
  cases i with
  | zero=>cases e1;cases e2;exact h1
  | succ i=>exact q2 i x u (by simpa using e1) (by simpa using e2)
end
end DL
namespace DL
open PySem PySem.Spec PyProof.Rows L2
mutual
@[simp] def tP:PyData->PyData->Bool
 | .int i,.int j=>decide (i=j)
 | .str x,.str y=>decide (x=y)
 | .tuple xs,.tuple ys=>keqs xs ys
 | _,_=>false
@[simp] def keqs:List PyData->List PyData->Bool
 | [],[]=>true
 | x::xs,y::ys=>tP x y&&keqs xs ys
 | _,_=>false
end
def mP{β:Type}(kvs:List (PyData×β))(k:PyData):Option β:=(kvs.find? fun kv=>tP kv.1 k).map (·.2)
theorem Fu{β:Type}{p:PyData×β}{r:List (PyData×β)}{k:PyData}:mP (p::r) k=if tP p.1 k=true then some p.2 else mP r k:=by
 unfold mP;rw[List.find?_cons]
 cases tP p.1 k<;>rfl
section
variable {K:PySem.W.Frag}{Z:Addr->Prop}{m:Mu}{H:Hp}
theorem RPd.val{k p:PyData}:∀ {kvs:List (PyData×PyData)} {vs:List (PyData×V)},RPd K Z m H kvs vs->mP kvs k=some p->∃ v,mP vs k=some v/\RP K Z m H p v
 | [],_,_,e=>nomatch e
 | (j,q)::xs,_,h,e=>by
  simp only[RPd]at h;obtain⟨v,r,rfl,h2,h3⟩:=h;rw[Fu]at e ⊢
  split at e
  ·rename_i c;rw[if_pos c]
   cases e
   exact⟨v,rfl,h2⟩
  ·rename_i c;rw[if_neg c];exact RPd.val h3 e
theorem RPd.val_none{k:PyData}:∀ {kvs:List (PyData×PyData)} {vs:List (PyData×V)},RPd K Z m H kvs vs->mP kvs k=none->mP vs k=none
 | [],_,h,_=>by simp only[RPd]at h;subst h;rfl
 | (j,q)::xs,_,h,e=>by
  simp only[RPd]at h;obtain⟨v,r,rfl,h2,h3⟩:=h;rw[Fu]at e ⊢
  split at e
  ·cases e
  ·rename_i c;rw[if_neg c];exact RPd.val_none h3 e
theorem RPd.keys:∀ {kvs:List (PyData×PyData)} {vs:List (PyData×V)},RPd K Z m H kvs vs->vs.map (·.1)=kvs.map (·.1)
 | [],_,h=>by simp only[RPd]at h;subst h;rfl
 | (j,q)::xs,_,h=>by
  simp only[RPd]at h;obtain⟨v,r,rfl,h2,h3⟩:=h;rw[List.map_cons,List.map_cons,RPd.keys h3]
end
end DL
namespace DL
open PySem PySem.Spec PyProof.Rows L2
section
variable {X:Cx}{pins:List (Addr×Obj)}{σ:L2.St}{H:Hp}{s:Shared}
mutual
theorem NKV.rp{K:PySem.W.Frag}{Z:Addr->Prop}{m:Mu}:∀ (p:PyData) (v:V),NKV K H p v->RP K Z m H p v
 | .int _,_,h=>by simp only[NKV]at h;simp only[RP];exact h
 | .str _,_,h=>by simp only[NKV]at h;simp only[RP];exact h
 | .tuple xs,_,h=>by
  simp only[NKV]at h;simp only[RP];obtain⟨a,vs,e,h1,h2⟩:=h;exact⟨a,vs,e,h1,NKVs.rp xs vs h2⟩
 | .none,_,h | .bool _,_,h | .list _,_,h | .dict _,_,h=>by simp only[NKV]at h
theorem NKVs.rp{K:PySem.W.Frag}{Z:Addr->Prop}{m:Mu}:∀ (ps:List PyData) (vs:List V),NKVs K H ps vs->RPs K Z m H ps vs
 | [],_,h=>by simp only[NKVs]at h;simp only[RPs];exact h
 | p::ps,_,h=>by
  simp only[NKVs]at h;simp only[RPs];obtain⟨v,r,e,h1,h2⟩:=h;exact⟨v,r,e,NKV.rp p v h1,NKVs.rp ps r h2⟩
end
end
section
variable {X:Cx}{a tg:Expr}{f:DE}
theorem Ok.fd{K:PySem.W.Frag}{Z:Addr->Prop}{m:Mu}{H:Hp}{a:Addr}{xs:List (aN×PyData)}(ok:Ok K Z m H)(h:m a=some (.fd xs)):∃ ob vs,H a=some (.frz ob (.dK vs))/\RKV K Z m H xs vs:=by
 obtain⟨o,h1,h2⟩:=ok.g a _ h
 cases o with
 | frz ob u=>cases u<;>first | exact⟨_,_,h1,h2⟩ | exact h2.elim
 | _=>exact h2.elim
end
end DL
namespace DL
open PySem PySem.Spec PyProof.Rows L2
def eY(B:SD)(val:Nat->Int)(i:Nat):List Int:=((List.range i).map val).foldl B.ins []
theorem Z7(B:SD)(val:Nat->Int)(i:Nat):eY B val (i+1)=B.ins (eY B val i) (val i):=by
 unfold eY;rw[List.range_succ,List.map_append,List.foldl_append];rfl
section
variable {P:Program}{w:World}{A:Around}{R:Result->Shared->Prop}{I:Addr}{fp wr:List Addr}{G:Array GenState->Array GenState->Prop}{n:Nat}{Pv:Nat->Value->Prop}{St:Nat->Shared->Prop}{B:SD}
theorem K5(W:WalksS P w A.in1 I fp wr G n Pv St)(S:Addr)(hSf:S∉fp)(val:Nat->Int)(hval:∀ i v,Pv i v->∃ t,v=.int (val i) t)(hb:∀ i,val i∈B.dom)(hcp:∀ i,i<n->val i∉eY B val i->(eY B val i).length<B.cap) :
  ∀ (k i:Nat) (s:Shared),n-i=k->i<=n->St i s->ISetB B P w s.heap S (eY B val i)->(∀ s',Moved (S::wr) G s s'->ISetB B P w s'.heap S (eY B val n)->R (.ok (.ret .none)) s') ->
   codeAny (model P w) A (.builtin "set.update.loop" ⟨[.ref S,.ref I],[]⟩) R s:=by
 have nw:S∉wr:=fun z=>hSf (W.sub _ z)
 have sub:∀ b∈wr,b∈S::wr:=fun b hb=>List.mem_cons_of_mem _ hb
 intro k
 induction k with
 | zero =>
  intro i s hk hi hst T hR;obtain rfl:i=n:=by omega
  refine codeAny_builtin F.entry_set_update_loop ?_;rw[Around.under_plainId F.plain_set_update_loop _];show wpAny _ A.in1 (pyNext (.ref I)>>=_) _ _ s
  refine wpAny_bind (W.done s _ _ hst fun s' hm=>?_);show wpAny _ A.in1 (ret Value.none) _ _ s'
  exact wpAny_pure (hR s' (hm.mono sub) (T.at fun o e=>hm.heap S _ nw e))
 | succ k ih =>
  intro i s hk hi hst T hR;refine codeAny_builtin F.entry_set_update_loop ?_;rw[Around.under_plainId F.plain_set_update_loop _];show wpAny _ A.in1 (pyNext (.ref I)>>=_) _ _ s
  refine wpAny_bind (W.item i s _ _ (by omega) hst fun v s' hP hst' hm=>?_)
  obtain⟨t,rfl⟩:=hval i v hP;have T':ISetB B P w s'.heap S (eY B val i):=T.at fun o e=>hm.heap S _ nw e
  show wpAny _ A.in1 (holding [Value.int (val i) t] (setAdd S (.int (val i) t))>>=_) _ _ s'
  refine wpAny_bind (wpAny_holding ?_);unfold setAdd;refine wpAny_holding (wpAny_bind ((bZ P w).pyHash (k:=.inl (val i)) (tQ _ _) ?_));refine Te (s:={s' with toks:=s'.toks+1}) (z:=val i) T' (hb i) (hcp i (by omega)) fun b h' sb T2=>?_
  have T3:ISetB B P w h' S (eY B val (i+1)):=by rw[Z7];exact T2
  refine wpAny_pure ⟨plainId_quiet F.plain_set_update_loop _,ih (i+1) _ (by omega) (by omega) (W.frame _ s' _ _ hst' (Nat.le_succ _) fun b hb o e=>?_) T3 fun s'' hm'' T4=>?_⟩
  ·rw[sb.2 b (by rintro rfl;exact hSf hb)]
   exact e
  ·refine hR s'' (Moved.trans W.gtrans ((hm.mono sub).then_heap (Nat.le_succ _) fun b o hb e=>?_) hm'') T4;rw[sb.2 b (by rintro rfl;exact hb List.mem_cons_self)]
   exact e
end
theorem Fb:∀ {vs:List Value} {zs:List Int} {i:Nat} {v:Value},IntsAre vs zs->vs[i]?=some v->∃ t,v=.int (zs.getD i 0) t
 | _,_,_,_,.nil,e=>by simp at e
 | _,_,0,_,.cons z t _,e=>by cases e;exact⟨t,rfl⟩
 | _,_,i+1,_,.cons z t r,e=>by
  obtain⟨u,h⟩:=Fb (i:=i) r (by simpa using e)
  exact⟨u,by simpa using h⟩
section
variable {P:Program}{w:World}{A:Around}{E:Value->Shared->Prop}{s:Shared}{B:SD}
theorem V0{l:Addr}{items:Array Value}{zs:List Int}{Q:Value->Shared->Prop}(hh:A.handled=none)(hl:s.heap.IsList l items)(hi:IntsAre items.toList zs)(hz:∀ z∈zs,z∈B.dom)(h0:0∈B.dom)(hcp:∀ i,i<items.size->zs.getD i 0∉eY B (fun i=>zs.getD i 0) i->(eY B (fun i=>zs.getD i 0) i).length<B.cap)
  (h:∀ (h':Heap) (tk:Nat),ISetB B P w h' s.heap.objs.size (eY B (fun i=>zs.getD i 0) items.size)->(∀ b o,b<s.heap.objs.size->s.heap.get? b=some o->h'.get? b=some o)->Q (.ref s.heap.objs.size) {s with heap:=h',toks:=tk}) :
  wpAny (model P w) A (call (.type "set") [.ref l]) Q E s:=by
 obtain⟨c,tl,hmro⟩:=F.called_set.mro;have hmade:=F.called_set.made
 have hsub:=F.called_set.sub
 refine wpAny_call (codeAny_of_tree ?_);show wpAny _ _ (callAny (.type "set") _) _ _ _
 refine wpAny_pure ⟨Code.quiet_builtin _ (by decide +kernel),codeAny_builtin F.entry_type_call ?_⟩
 rw[Around.under_plain (weight_type_call_type "set" [.ref l] []) rfl];have h1:=F.called_set.notType
 have h2:=F.called_set.canCreate
 have hct:=PySem.F.typeCall_set_1 (.ref l)
 repeat (any_goals (first | assumption | wp_step))
 refine codeAny_mono (Tn (.ref l) (E:=E) (Q₁:=fun obj s₁=>obj=.ref s.heap.objs.size/\s₁={s with heap:=s.heap.push (iK w)}) ⟨rfl,rfl⟩) fun r s₁ hr=>?_
 cases r with
 | error e=>exact hr
 | ok fl =>
  cases fl with
  | ret obj =>
   obtain⟨rfl,rfl⟩:=hr;have hS:(s.heap.push (iK w)).get? s.heap.objs.size=some (iK w):=Heap.get?_push_size _ rfl
   have hT:Shared.TypeIs {s with heap:=s.heap.push (iK w)} (.ref s.heap.objs.size) "set":=⟨_,hS,rfl⟩
   have hli:=F.called_set.init.lookup
   have hbi:=F.called_set.init.bind (.ref s.heap.objs.size)
   repeat (any_goals (first | assumption | wp_step))
   refine codeAny_mono (codeAny_call_builtin (R:=wants (fun r s₂=>r=.none/\∃ h' tk,s₂={s with heap:=h',toks:=tk}/\ISetB B P w h' s.heap.objs.size (eY B (fun i=>zs.getD i 0) items.size) /\
     (∀ b o,b<s.heap.objs.size->s.heap.get? b=some o->h'.get? b=some o)) E) F.called_set.init.plain F.entry_set_init (check_set_init_1 hT ?_)) fun r₂ s₂ hr₂=>?_
   ·obtain⟨ol,hol,hcl,nl,hdl⟩:=hl;obtain⟨ocls,odict,odata,oslots⟩:=ol;simp only at hcl hdl;subst hcl;subst hdl;have hol':(s.heap.push (iK w)).get? l=some {cls:=.type "list",dict:=odict,data:=.seq items nl,slots:=oslots}:=Heap.get?_push_of_some _ hol
    have hsls:=PySem.F.sub_list_set
    have hslf:=PySem.F.sub_list_frozenset
    have hne:(Value.type "list" == Value.type "dict")=false:=by decide
    have hl1:(s.heap.push (iK w)).IsList l items:=⟨_,hol',rfl,nl,rfl⟩
    unfold Builtin.«set.__init__» noKeywords Builtin.Frozenset.updateFrom
    generalize hPI:pyIter=PI
    wp_walk
    subst hPI;refine wpAny_pyIter_list hl1 (wpAny_bind (wpAny_runValue ?_));have ltl:l<s.heap.objs.size:=Heap.lt_size hol
    have hh3:A.in1.in1.in1.handled=none:=by simp[hh]
    have nI:l≠(s.heap.push (iK w)).objs.size:=by rw[Heap.size_push];exact Nat.ne_of_lt (Nat.lt_succ_of_lt ltl)
    have hSf:s.heap.objs.size∉[(s.heap.push (iK w)).objs.size,l]:=by
     rw[Heap.size_push];simp only[List.mem_cons,List.mem_singleton,List.not_mem_nil,or_false,not_or];exact⟨Nat.ne_of_lt (Nat.lt_succ_self _),Nat.ne_of_gt ltl⟩
    have hval:∀ (i:Nat) (v:Value),items[i]?=some v->∃ t,v=.int ((fun i=>zs.getD i 0) i) t:=fun i v hv=>by
     have hv:items.toList[i]?=some v:=by rw[Array.getElem?_toList];exact hv
     exact Fb hi hv
    have hb:∀ i,(fun i=>zs.getD i 0) i∈B.dom:=fun i=>by
     show zs.getD i 0∈_
     rw[List.getD_eq_getElem?_getD]
     cases e:zs[i]? with
     | none=>exact h0
     | some z=>exact hz z (List.mem_of_getElem? e)
    refine K5 ((Walks.list hh3 _ l nI items).toS) s.heap.objs.size hSf (fun i=>zs.getD i 0) hval hb hcp (items.size-0) 0 _ (by omega) (Nat.zero_le _) ⟨⟨_,Heap.get?_push_size _ rfl,rfl,rfl⟩,(hl1.push _)⟩ ?hS0 ?hR
    case hS0=>exact DR (Heap.get?_push_of_some _ hS)
    case hR =>
     intro s' hm T;obtain⟨h',g',d',tk',os'⟩:=s';have eg:g'=s.gens:=hm.gens
     have ed:d'=s.drawn:=hm.drawn
     have eo:os'=s.os:=hm.os
     subst eg;subst ed;subst eo;show wpAny _ _ _ _ _ _
     refine wpAny_pure ?_;show wpAny _ _ (ret Value.none) _ _ _
     refine wpAny_pure ⟨rfl,h',tk',rfl,T,fun b o hb e=>?_⟩;have n1:b≠s.heap.objs.size:=Nat.ne_of_lt hb
     have n2:b≠(s.heap.push (iK w)).objs.size:=by rw[Heap.size_push];exact Nat.ne_of_lt (Nat.lt_succ_of_lt hb)
     exact hm.heap b o (by simp only[List.mem_cons,List.mem_singleton,List.not_mem_nil,or_false,not_or];exact⟨n1,n2⟩) (Heap.get?_push_of_some _ (Heap.get?_push_of_some _ e))
   ·cases r₂ with
    | error e=>exact hr₂
    | ok fl₂ =>
     cases fl₂ with
     | ret r =>
      obtain⟨rfl,h',tk,rfl,T,hk'⟩:=hr₂
      repeat (any_goals (first | assumption | wp_step))
      exact h _ _ T hk'
     | _=>exact hr₂.elim
  | _=>exact hr.elim
end
theorem Yc{n:Nat}:∀ zs:List Int,zs.length=n->(List.range n).map (fun i=>zs.getD i 0)=zs:=by
 intro zs h;apply List.ext_getElem?
 intro i;rw[List.getElem?_map]
 by_cases hi:i<n
 ·rw[List.getElem?_range hi,List.getElem?_eq_getElem (by omega)]
  simp[List.getD_eq_getElem?_getD,List.getElem?_eq_getElem (show i<zs.length by omega)]
 ·rw[List.getElem?_eq_none (by rw[List.length_range];omega),List.getElem?_eq_none (by omega)]
  rfl
theorem zK:∀ {zs:List Int} {vs:List Value},Vals (zs.map V.int) vs->IntsAre vs zs
 | [],_,.nil=>.nil
 | z::zs,_,.cons ⟨t,e⟩ r=>by subst e;exact .cons z t (zK r)
theorem Cd{K:PySem.W.Frag}{Z:Addr->Prop}{m:Mu}{H:Hp}:∀ {zs:List Int} {vs:List V},RPs K Z m H (zs.map PyData.int) vs->vs=zs.map V.int
 | [],_,h=>by simpa[RPs] using h
 | z::zs,_,h=>by
  simp only[List.map_cons,RPs,RP]at h;obtain⟨v,r,rfl,rfl,h2⟩:=h;rw[Cd h2];rfl
end DL
namespace DL
open PySem PySem.Spec PyProof.Rows L2
section
variable {X:Cx}
@[simp] def xW:DC
 | [.dat (.int i),.dat (.int j)],m,Q=>Q (.dat (.int (if j<i then j else i))) m
 | [.dat (.list ps)],m,Q=>∃ zs:List Int,ps=zs.map .int/\zs≠[]/\∀ M,M∈zs->(∀ a∈zs,M<=a)->Q (.dat (.int M)) m
 | _,_,_=>False
theorem Q6{vs:List Value}{zs:List Int}(hi:IntsAre vs zs)(hne:zs≠[]):∃ xs:Array (Int×Tok),vs.toArray=intItems xs/\0<xs.size/\numsOf (intItems xs).toList=zs:=by
 obtain⟨xs,e⟩:=(show AllInts vs.toArray from hi.allInts).items
 refine⟨xs,e,?_,?_⟩
 ·have h1:=hi.length
  have h2:=congrArg Array.size e
  simp[intItems]at h2;have:zs.length≠0:=by simpa using hne
  omega
 ·rw[<- e];exact hi.numsOf
theorem Tv(hc:X.calm=true):CallD X (.builtin "min") xW:=by
 intro pins s σ H Z m xs ds us R Q I ok rv rd h k;unfold xW at h
 split at h
 ·obtain⟨v,w,rfl,r1,r2⟩:=rd.two
  cases r1.int
  cases r2.int
  exact M3 hc pins s σ H _ us Q I rv ⟨_,_,rfl,k _ m _ H h Ext.refl ok .ofInt⟩
 ·obtain⟨v,rfl,r1⟩:=rd.one;obtain⟨u,rfl,ru⟩:=fP rv;obtain⟨zs,rfl,hne,q⟩:=h;simp only[RD,RP]at r1;obtain⟨a,vs,rfl,_,hsq,rp⟩:=r1
  cases Cd rp
  obtain rfl:u=Value.ref a:=ru;obtain⟨its,rvs,pl,_⟩:=I.list hsq;obtain⟨xs,ex,hsz,en⟩:=Q6 (zK rvs) hne;refine min_intList (I.ok.hd hc) (by rw[<- ex];exact pl.isList) hsz fun v h' tk hv hk=>?_
  obtain⟨t,rfl⟩:=intItems_at hv;obtain⟨h1,h2⟩:=argBest_lt (numAt xs) (xs.size-1);refine⟨.int _,H,I.kept hk,⟨_,rfl⟩,k _ m _ H (q _ ?_ fun a ha=>?_) Ext.refl ok .ofInt⟩
  ·rw[<- en,nums_intItems,numAt_eq];exact getD_mem (by rw[List.length_map,Array.length_toList];omega)
  ·rw[<- en,nums_intItems]at ha;obtain⟨j,hj,rfl⟩:=mem_getD ha;rw[List.length_map,Array.length_toList]at hj;rw[<- numAt_eq];exact h2 j (by omega)
 ·exact h.elim
end
theorem EL:bootBuiltins "min"=some (.builtin "min"):=by decide +kernel
end DL
namespace DL
open PySem PySem.Spec PyProof.Rows L2
def Dy(c:Addr)(d:bO):Prop:=∀ x∈d,x≠some (.cel c)
section
variable {K:PySem.W.Frag}{Z:Addr->Prop}{m m2:Mu}{H H':Hp}{c:Addr}{xs:List PyData}
theorem tK(hm:m c=some (.l xs)):∀ a (vs:List V),(m a=none/\¬ Z a)->SqL K H a vs->(dL m c a=none/\¬ bU Z c a)/\SqL K H a vs:=fun a vs h1 h2 =>
 ⟨⟨oK h1.1,fun z=>z.elim h1.2 fun e=>by rw[e,hm]at h1;cases h1.1⟩,h2⟩
theorem Xs(ok:Ok K Z m H)(hm:m c=some (.l xs)):Ok K (bU Z c) (dL m c) H:=by
 refine⟨fun a cl h=>?_,fun a h=>?_⟩
 ·unfold dL at h
  split at h
  ·cases h
  ·obtain⟨o,h1,h2⟩:=ok.g a cl h;exact⟨o,h1,h2.lift fun p v q=>RP.tr (fun _ _ q=>q) (tK hm) p v q⟩
 ·rcases h with h | h
  ·exact⟨oK (ok.z a h).1,(ok.z a h).2⟩
  ·subst h;obtain⟨o,h1,_⟩:=ok.g a _ hm;exact⟨by unfold dL;rw[if_pos rfl],by rw[h1];exact fun e=>nomatch e⟩
theorem yK:∀ a (vs:List V),(m2 a=none/\¬ bU Z c a)->SqL K H' a vs->(aY m2 c (.l xs) a=none/\¬ Z a)/\SqL K H' a vs:=fun a vs q1 q2 =>
 ⟨⟨by rw[bM fun z=>q1.2 (.inr z)];exact q1.1,fun z=>q1.2 (.inl z)⟩,q2⟩
theorem U3{vs:List V}(ok:Ok K (bU Z c) m2 H')(nz:¬ Z c)(hH:H' c=some (.lst vs))(hr:RPs K (bU Z c) m2 H' xs vs):Ok K Z (aY m2 c (.l xs)) H':=by
 refine⟨fun a cl q=>?_,fun a q=>?_⟩
 ·by_cases e:a=c
  ·subst e;rw[bF]at q
   cases q
   exact⟨_,hH,RPs.tr (fun _ _ q=>q) yK _ _ hr⟩
  ·rw[bM e]at q;obtain⟨o,q1,q2⟩:=ok.g a cl q;exact⟨o,q1,q2.lift fun p v q3=>RP.tr (fun _ _ q=>q) yK p v q3⟩
 ·have ne:a≠c:=fun e=>nz (e▸q)
  obtain⟨q1,q2⟩:=ok.z a (.inl q);exact⟨by rw[bM ne];exact q1,q2⟩
theorem A3(e:Ext K (bU Z c) (dL m c) H m2 H')(hm:m c=some (.l xs))(nz:¬ Z c):Ext K Z m H (aY m2 c (.l xs)) H':=by
 refine⟨e.t,fun a vs h1 h2=>?_,fun a h=>e.z a (.inl h),fun a h=>?_,e.fz,fun a h=>?_⟩
 ·obtain⟨⟨q0,q1⟩,q2⟩:=tK (Z:=Z) hm a vs h1 h2;obtain⟨q3,q4⟩:=e.l a vs ⟨q0,q1⟩ q2;exact⟨by rw[bM fun z=>q1 (.inr z)];exact q3,q4⟩
 ·by_cases ea:a=c
  ·subst ea;rw[bF];rfl
  ·rw[bM ea];refine e.c a ?_;unfold dL;rw[if_neg ea];exact h
 ·have ne:a≠c:=by rintro rfl;rw[hm]at h;cases h
  have q:=e.fm a (by unfold dL;rw[if_neg ne];exact h)
  rw[bM ne,q];unfold dL;rw[if_neg ne]
theorem D1{vs:List V}(hH:H c=some (.lst vs))(hr:RPs K (bU Z c) m H xs vs):Gu K (bU Z c) m H (xs.map .dat) (L2.Itl K c):=by
 intro m2 H2 e;have q1:SqL K H2 c vs:=.inl (.inl ((e.z c (.inr rfl)).trans hH))
 refine⟨fun i x hx=>?_,⟨vs,q1,by rw[hr.length,List.length_map];exact Nat.le_refl _⟩⟩
 obtain⟨p,hp,rfl⟩:=uQ hx;obtain⟨v,hv,rv⟩:=hr.get hp;refine⟨⟨vs,v,q1,hv⟩,fun v' H3 y=>.inl ⟨y.1,?_⟩⟩;have:=y.2 vs q1
 rw[hv]at this
 cases this
 exact rv
open Classical in
noncomputable def nU(c:Addr)(d:bO):bO:=d.map fun x=>if x=some (.cel c) then none else x
open Classical in
theorem Ek{d:bO}{j:Nat}:((nU c d)[j]?).join=if (d[j]?).join=some (.cel c) then none else (d[j]?).join:=by
 unfold nU;rw[List.getElem?_map]
 cases e:d[j]? with
 | none=>simp
 | some x=>simp only[Option.map_some,Option.join_some]
theorem Px{src:List (Option Nat)}{d:bO}(h:Dy c (bT src d)):bT src (nU c d)=bT src d:=by
 unfold bT at h ⊢;refine List.map_congr_left fun o ho=>?_;have hx:=h _ (List.mem_map_of_mem ho)
 cases o with
 | none=>rfl
 | some j =>
  simp only[Option.bind_some]at hx ⊢;rw[Ek,if_neg hx]
theorem CU{d:bO}{σ:L2.St}(rs:RS K Z m H d σ)(hm:m c=some (.l xs)):RS K (bU Z c) (dL m c) H (nU c d) σ:=by
 refine⟨by unfold nU;rw[List.length_map];exact rs.1,fun i x hx=>?_⟩
 have e:=Ek (c:=c) (d:=d) (j:=i)
 rw[hx]at e;simp only[Option.join_some]at e
 split at e
 ·cases e
 ·rename_i ne;have hd:d[i]?=some (some x):=by
   cases q:d[i]? with
   | none=>rw[q]at e;cases e
   | some y=>rw[q]at e;simp only[Option.join_some]at e;rw[e]
  obtain⟨v,q1,q2⟩:=rs.2 i x hd;refine⟨v,q1,?_⟩
  cases x with
  | dat p=>exact RP.tr (fun _ _ q=>q) (tK hm) p v q2
  | cel b =>
   refine⟨q2.1,?_⟩;have nb:b≠c:=by rintro rfl;rw[hd]at ne;exact ne rfl
   unfold dL;rw[if_neg nb];exact q2.2
end
section
variable {X:Cx}{elt tg:Expr}{ifs:List Expr}{scope:Scope}{NC:List Str}{g:DG}{t:DT}{f:DE}{pos npos:Pos}
@[simp] def Cw(i:Nat)(src:List (Option Nat))(g:DG)(t:DT)(f:DE):DE:=fun d m Q=>∃ c xs,d[i]?=some (some (.cel c))/\m c=some (.l xs)/\Dy c (bT src d)/\bD g t f (xs.map .dat) [] (bT src d) (dL m c) fun ps m2=>Q (.dat (.list ps)) (aY m2 c (.l xs))
theorem w6(i:Nat){x:Str}(NC:List Str)(src:List (Option Nat))(hc:X.calm=true)
  (hg:∀ cl C s2 H2 pins fp,PG (bJ X scope cl C NC s2 H2 pins fp) tg (LG X.K g)) (ht:∀ cl C s2 H2 pins fp,PF (bJ X scope cl C NC s2 H2 pins fp) ifs (LT X.K t)) (he:∀ cl C s2 H2 pins fp,PE (bJ X scope cl C NC s2 H2 pins fp) elt (LE X.K f))
  (hN:X.N[i]?=some x:=by rfl) (hv:iX X.env.scope x:=by first | exact Or.inl rfl | exact Or.inr (Or.inl rfl) | exact Or.inr (Or.inr rfl)) (hd:(x==("__debug__" : Str))=false:=by decide)
  (hcd:(x==("__classdict__" : Str))=false:=by decide)
  (hkind:scope.kind=.function:=by rfl) (hB:chkB scope X.env=true:=by rfl) (hS:chkS X.N scope X.env NC src=true:=by rfl)
  (hs:∀ v,foldedSetIterable (.Name x npos) X.env v=pure v:=by intro _;rfl):PE X (.ListComp elt [⟨tg,.Name x npos,ifs,0⟩] scope pos) (LE X.K (Cw i src g t f)):=by
 intro pins s σ H Q I h;obtain⟨Z,d,m,R,ok,rs,⟨c,xs,hdc,hm,nc,lp⟩,k⟩:=h;obtain⟨vs,hH,rp⟩:=ok.l hm;have nz:¬ Z c:=fun z=>by have:=(ok.z c z).1;rw[hm]at this;cases this
 have ok':=Xs ok hm
 have rs':=CU rs hm
 have rp':RPs X.K (bU Z c) (dL m c) H xs vs:=RPs.tr (fun _ _ q=>q) (tK hm) _ _ rp
 obtain⟨v,hσ,hv2⟩:=rs.2 i _ hdc;obtain⟨rfl,_⟩:=hv2;rw[eval_ListComp];refine Mp (NC:=NC) src hc (Jl (Lu (pos:=npos) hN hv hd hcd)) hg ht he hkind (chkB.ok hB).1 (chkB.ok hB).2.1 (chkB.ok hB).2.2 (chkS.ok hS) hs (use:=none) (QQ:=EP X pins σ Q) (RL:=fun ps m2=>R (.dat (.list ps)) (aY m2 c (.l xs))) (Z:=bU Z c) (d:=nU c d) (m:=dL m c) I ok' rs' ?_ ?_
 ·exact⟨.ref c,hσ,.inl ⟨c,rfl,⟨vs,.inl (.inl hH)⟩,xs.map .dat,dL m c,Ext.refl,ok',D1 hH rp',by rw[Px nc];exact lp⟩⟩
 ·intro s5 C D H' m2 ps q e ok2 rd ⟨mm,hns⟩ I5 off _;have hH':H' c=some (.lst vs):=(e.z c (.inr rfl)).trans hH
  refine⟨mm,hns,fun h' hs'=>⟨.ref D,H',off.inv I5 hs',rfl,k _ (aY m2 c (.l xs)) _ H' q (A3 e hm nz) (U3 ok2 nz hH' (RPs.ext e _ _ rp')) ?_⟩⟩;exact RP.tr (fun _ _ q=>q) yK _ _ rd
end
end DL
namespace DL
open PySem PySem.Spec PyProof.Rows L2
section
variable {X:Cx}{elt tg iter:Expr}{ifs:List Expr}{scope:Scope}{NC:List Str}{fi:DI}{g:DG}{t:DT}{f:DE}{pos:Pos}
theorem Py(i:Nat){y:Str}{py spos:Pos}(NC:List Str)(src:List (Option Nat))(hc:X.calm=true)(hN:X.N.Nodup)(hi:PI X tg iter (LI X.K fi))
  (hg:∀ cl C s2 H2 pins fp,PG (bJ X scope cl C NC s2 H2 pins fp) tg (LG X.K g)) (ht:∀ cl C s2 H2 pins fp,PF (bJ X scope cl C NC s2 H2 pins fp) ifs (LT X.K t)) (he:∀ cl C s2 H2 pins fp,PE (bJ X scope cl C NC s2 H2 pins fp) elt (LE X.K f))
  (hkind:scope.kind=.function:=by rfl) (hB:chkB scope X.env=true:=by rfl) (hS:chkS X.N scope X.env NC src=true:=by rfl)
  (hi2:X.N[i]?=some y:=by rfl) (hx:gG X.env.scope y:=by first | exact Or.inl rfl | exact Or.inr rfl) (hf:X.fn y=true\/X.env.scope.names.lookup y=some .local:=by first | exact .inl rfl | exact .inr rfl)
  (hsw:swapsWith (.ListComp elt [⟨tg,iter,ifs,0⟩] scope pos) (some (.Name y py)) spos.line X.env=pure true:=by rfl)
  (hs:∀ x,foldedSetIterable iter X.env x=pure x:=by intro _;rfl):PS X (.Assign [.Name y py] (.ListComp elt [⟨tg,iter,ifs,0⟩] scope pos) spos) (LS X.K (aO i (jW src fi g t f))):=by
 intro pins s σ H E I h;obtain⟨Z,d,m,R,ok,rs,h,k,_⟩:=h;rw[exec_Assign_Name_used _ _ _ _ hsw];refine wpAny_bind (wpAny_standAt (wpAny_bind ?_));rw[arm_evalThenUse_ListComp];refine wpAny_bind ?_;refine bA (uR (NC:=NC) src hc hi hg ht he hkind (chkB.ok hB).1 (chkB.ok hB).2.1 (chkB.ok hB).2.2 (chkS.ok hS) hs (use:=some (assign (.Name y py) X.env)) (QQ:=fun _ s'=>SP X pins E .next s') (RL:=fun ps m2=>∀ a,m2 a=none->R.nx (d.set i (some (.cel a))) (aY m2 a (.l ps))) I ok rs h ?_) (fun _ s' q=>wpAny_pure (wpAny_pure q));intro s5 C D H' m' ps q e ok' rd ⟨mm,hns⟩ I5 off ⟨c1,c2,c3⟩;show wpAny _ X.A (assign (.Name y py) X.env (.ref D)) _ _ s5
 refine wpAny_assign_Name (wE I5 hN hi2 hx (v:=.ref D) rfl (fun s6 I6 ⟨a,hs6,ha⟩=>?_) hf);have ne:C≠a:=by
  rcases ha with rfl | ha
  ·exact off.l
  ·exact Ne.symm (off.c _ _ ha)
 refine⟨mm,hns.sameBut hs6 ne,fun h' hs'=>?_⟩;exact⟨_,H',off.inv I6 hs',k _ _ _ H' (q D c1) c2 c3 ((rs.ext c2).set ⟨rfl,by rw[bF];rfl⟩)⟩
end
mutual
theorem Ov{h h':Heap}(hk:∀ b o,h.get? b=some o->h'.get? b=some o):∀ (p:PyData) (v:Value) (as:List Addr),L2.isK p=true->Reads h v p as->Reads h' v p as
 | .int _,_,_,_,r=>by cases r;exact .int _ _
 | .str _,_,_,_,r=>by cases r;exact .str _ _
 | .tuple xs,_,_,hi,r=>by
  cases r with
  | tuple h1 h2 h3 h4=>exact .tuple (hk _ _ h1) h2 h3 (readsAll_old hk xs _ _ hi h4)
 | .none,_,_,h,_ | .bool _,_,_,h,_ | .list _,_,_,h,_ | .dict _,_,_,h,_=>by simp[L2.isK]at h
theorem readsAll_old{h h':Heap}(hk:∀ b o,h.get? b=some o->h'.get? b=some o):∀ (ps:List PyData) (vs:List Value) (as:List Addr),L2.isKs ps=true->ReadsAll h vs ps as->ReadsAll h' vs ps as
 | [],_,_,_,r=>by cases r;exact .nil
 | x::xs,_,_,hi,r=>by
  simp only[L2.isKs,Bool.and_eq_true]at hi
  cases r with
  | cons r1 r2=>exact .cons (Ov hk x _ _ hi.1 r1) (readsAll_old hk xs _ _ hi.2 r2)
end
section
variable {prog:Program}{w:World}{A:Around}{E:Value->Shared->Prop}{s:Shared}
theorem Fw{h h':Heap}{k:List PyData}{a:Addr}(hk:∀ b o,h.get? b=some o->h'.get? b=some o)(x:(gF prog w).is h k a):(gF prog w).is h' k a:=by
 obtain⟨k1,k2,as,r⟩:=x;exact⟨k1,k2,as,Ov hk _ _ _ k1 r⟩
def vQ(prog:Program)(w:World)(h:Heap):List Value->List (List PyData×Addr×Value)->Prop
 | [],[]=>True
 | x::xs,(k,a,v)::r=>(∃ b,x=.ref b/\h.IsTuple b #[.ref a,v]/\(gF prog w).is h k a)/\vQ prog w h xs r
 | _,_=>False
noncomputable def uB(acc r:List (List PyData×Addr×Value)):List (List PyData×Addr×Value):=r.foldl (fun acc kv=>storedH acc kv.1 kv.2.1 kv.2.2) acc
def RawN(prog:Program)(w:World)(hb h:Heap)(d:Addr)(xs:List (List PyData×Addr×Value)):Prop :=
 (∃ o es ep,h.get? d=some o/\o.ExactDict/\o.data=.dict es ep/\es.toList=xs.map (entryOfKey (gF prog w))/\(xs.map (·.1)).Nodup)/\∀ x∈xs,(gF prog w).is hb x.1 x.2.1
theorem RawN.of{hb h:Heap}{d:Addr}{xs:List (List PyData×Addr×Value)}(r:RawN prog w hb h d xs)(hk:∀ b o,hb.get? b=some o->h.get? b=some o):h.DictOfH (gF prog w) d xs:=by
 obtain⟨⟨o,es,ep,h1,h2,h3,h4,h5⟩,h6⟩:=r;exact⟨o,es,ep,h1,h2,h3,h4,fun x hx=>Fw hk (h6 x hx),h5⟩
theorem RawN.at{hb h h':Heap}{d:Addr}{xs:List (List PyData×Addr×Value)}(r:RawN prog w hb h d xs)(hk:∀ o,h.get? d=some o->h'.get? d=some o):RawN prog w hb h' d xs:=by
 obtain⟨⟨o,es,ep,h1,rest⟩,h6⟩:=r;exact⟨⟨o,es,ep,hk _ h1,rest⟩,h6⟩
theorem Zt{xs:List (List PyData×Addr×Value)}{k:List PyData}{a:Addr}{v:Value}{P:List PyData->Addr->Prop}(h:∀ x∈xs,P x.1 x.2.1)(hk:P k a):∀ x∈storedH xs k a v,P x.1 x.2.1:=by
 cases e:atKey xs k with
 | none =>
  rw[storedH_new e];intro x hx;rcases List.mem_append.mp hx with q | q
  ·exact h x q
  ·rw[List.mem_singleton.mp q];exact hk
 | some p =>
  rw[storedH_old e];intro x hx;obtain⟨y,hy,rfl⟩:=List.mem_map.mp hx;unfold putAt
  split
  ·exact h y hy
  ·exact h y hy
theorem GO(xs:List (List PyData×Addr×Value))(k:List PyData)(a:Addr)(v:Value):(storedH xs k a v).length<=xs.length+1:=by
 cases e:atKey xs k with
 | none=>rw[storedH_new e];simp
 | some p=>rw[storedH_old e];simp
theorem Kr{R:Result->Shared->Prop}{hb:Heap}{d it tq:Addr}{items:Array Value}(hh:A.handled=none)(hu:A.units+30<cLine)(hd:hb.get? d=none)(hi:hb.get? it=none)(hne:d≠it)(ht:hb.IsList tq items) :
  ∀ (rest:List (List PyData×Addr×Value)) (i:Nat) (s:Shared) (acc:List (List PyData×Addr×Value)) (tk0:Tok),(∀ b o,hb.get? b=some o->s.heap.get? b=some o)->s.heap.IsListIter it tq i->RawN prog w hb s.heap d acc->vQ prog w hb (items.toList.drop i) rest->acc.length+rest.length<=sizeLine ->
  (∀ h' tk,(∀ b o,hb.get? b=some o->h'.get? b=some o)->RawN prog w hb h' d (uB acc rest)->R (.ok (.ret .none)) {s with heap:=h',toks:=tk}) ->
  codeAny (model prog w) A (.builtin "dict.update.loop" ⟨[.ref d,.ref it,.int i tk0,.none],[]⟩) R s
 | [],i,s,acc,tk0,keeps,hit,hdo,hp,hsz,hR=>by
  have hx:items[i]?=none:=by
   cases e:items.toList.drop i with
   | nil =>
    have:=List.drop_eq_nil_iff.mp e
    rw[Array.getElem?_eq_none_iff];simpa using this
   | cons x xs=>rw[e]at hp;exact hp.elim
  have ht':s.heap.IsList tq items:=by
   obtain⟨o,ho,r⟩:=ht;exact⟨o,keeps _ _ ho,r⟩
  refine codeAny_builtin tJ ?_;rw[Around.under_plainId lD _];show wpAny _ A.in1 (pyNext (.ref it)>>=_) _ _ s
  refine wpAny_bind (wpAny_pyNext_list_end hh hit ht' hx fun h' hs=>?_);show wpAny _ A.in1 (Builtin.Dict.addKeywords d []>>=_) _ _ _
  refine wpAny_bind (wpAny_pure (wpAny_pure ?_));exact hR h' s.toks (fun b o e=>hs b o (fun q=>by rw[q,hi]at e;cases e) (keeps b o e)) (hdo.at fun o e=>hs d o hne e)
 | (k,a,v)::rest,i,s,acc,tk0,keeps,hit,hdo,hp,hsz,hR=>by
  cases e:items.toList.drop i with
  | nil=>rw[e]at hp;exact hp.elim
  | cons x xs =>
   rw[e]at hp;obtain⟨⟨b,rfl,hb2,hk⟩,hp2⟩:=hp;have hx:items[i]?=some (.ref b):=by
    have:=congrArg List.head? e
    rw[List.head?_drop]at this;simpa using this
   have e2:items.toList.drop (i+1)=xs:=by
    have:=congrArg List.tail e
    rw[List.tail_drop]at this;simpa using this
   have ht':s.heap.IsList tq items:=by
    obtain⟨o,ho,r⟩:=ht;exact⟨o,keeps _ _ ho,r⟩
   refine codeAny_builtin tJ ?_;rw[Around.under_plainId lD _];show wpAny _ A.in1 (pyNext (.ref it)>>=_) _ _ s
   refine wpAny_bind (wpAny_pyNext_list_item hit ht' hx fun h1 hit1 hs1=>?_);have k1:∀ b o,hb.get? b=some o->h1.get? b=some o:=fun b o e=>hs1.extBut b o (fun q=>by rw[q,hi]at e;cases e) (keeps b o e)
   have ht1:({s with heap:=h1}:Shared).heap.IsTuple b #[.ref a,v]:=by
    obtain⟨o,ho,r⟩:=hb2;exact⟨o,k1 _ _ ho,r⟩
   have hdo1:RawN prog w hb h1 d acc:=hdo.at fun o e=>hs1.extBut d o hne e
   obtain⟨o,ho,hoc,no,hod⟩:=id ht1;refine wpAny_bind (wpAny_holding (wpAny_bind (wpAny_tryCatch ?_)));unfold Builtin.Dict.pairItems;refine wpAny_bind (wpAny_typeOf ht1.typeIs ?_);rw[if_pos (by decide)]
   refine wpAny_bind (wpAny_seqItems ho hod (wpAny_pure ?_));show wpAny _ A.in1 (holding [.ref a,v] (dictSet d (.ref a) v)) _ _ _
   refine wpAny_holding (wpAny_dictSet_heap (knd:=gF prog w) (hsz:=by simp at hsz;omega) (by show A.in1.units+20<cLine;rw[Around.in1_units];omega) (Fw k1 hk) (hdo1.of k1) fun h2 hdo2 hs2=>?_)
   refine wpAny_pure ⟨plainId_quiet lD _,?_⟩;have raw2:RawN prog w hb h2 d (storedH acc k a v):=by
    obtain⟨o,es,ep,q1,q2,q3,q4,_,q6⟩:=hdo2;exact⟨⟨o,es,ep,q1,q2,q3,q4,q6⟩,Zt hdo.2 hk⟩
   have ih:=Kr (R:=R) hh hu hd hi hne ht rest (i+1) {s with heap:=h2,toks:=s.toks+(gF prog w).draws k} (storedH acc k a v) 0
    (fun b o e=>hs2.extBut b o (fun q=>by rw[q,hd]at e;cases e) (k1 b o e)) (hit1.extBut hs2.extBut (Ne.symm hne)) raw2 (by rw[e2];exact hp2)
    (by have:=GO acc k a v;simp at hsz;omega) (fun h' tk q1 q2=>hR h' tk q1 q2)
   exact ih
theorem n5{Q:Value->Shared->Prop}{tq:Addr}{o:Obj}{items:Array Value}{n:Nat}{kvs:List (List PyData×Addr×Value)}(hh:A.handled=none)(hu:A.units+50<cLine)(ho:s.heap.get? tq=some o)(hc:o.cls=.type "list")(hdn:o.dict=none)(hdat:o.data=.seq items n)
  (hp:vQ prog w s.heap items.toList kvs) (hsz:kvs.length<=sizeLine)
  (hQ:∀ h' tk,(∀ b o,s.heap.get? b=some o->h'.get? b=some o)->RawN prog w s.heap h' s.heap.objs.size (uB [] kvs)->Q (.ref s.heap.objs.size) {s with heap:=h',toks:=tk}) :
  wpAny (model prog w) A (call (.type "dict") [.ref tq]) Q E s:=by
 refine callType_codes (Q₁:=fun obj s₁=>obj=.ref s.heap.objs.size/\s₁={s with heap:=s.heap.push {cls:=.type "dict",data:=.dict #[]}}) F.kt_called_dict (F.kt_typeCall_dict_1 _) F.entry_dict_init (kt_code_dict_new _ ⟨rfl,rfl⟩) ?_;rintro obj s₁ ⟨rfl,rfl⟩;have hnew:(s.heap.push {cls:=.type "dict",data:=.dict #[]}).DictOf (bZ prog w) s.heap.objs.size []:=Heap.DictOf.new s.heap
 refine⟨hnew.typeIs,F.args_dict_init_2 _ _,?_⟩;unfold Builtin.«dict.__init__»;refine wpAny_bind ?_;unfold Builtin.Dict.selfAndRest;refine wpAny_bind (wpAny_notOrdered_dict hnew.typeIs ?_);show wpAny _ _ (pure (s.heap.objs.size,[Value.ref tq])) _ _ _
 refine wpAny_pure ?_;show wpAny _ _ (Builtin.Dict.updateFrom "dict.__init__" s.heap.objs.size (.ref tq) [] .none) _ _ _
 unfold Builtin.Dict.updateFrom;have ho1:(s.heap.push {cls:=.type "dict",data:=.dict #[]}).get? tq=some o:=Heap.get?_push_of_some _ ho
 refine wpAny_bind (wpAny_typeOf (T:="list") ⟨_,ho1,hc⟩ ?_);rw[if_pos (by decide)]
 refine wpAny_bind (A6 ho1 hc hdat hdn hh fun h1 tk1 k1=>?_);rw[if_pos (show(none:Option Value).isNone=true from rfl)]
 have g0:s.heap.get? s.heap.objs.size=none:=by
  cases e:s.heap.get? s.heap.objs.size with
  | none=>rfl
  | some ob=>exact absurd (Heap.lt_size e) (Nat.lt_irrefl _)
 have g1:s.heap.get? h1.objs.size=none:=by
  cases e:s.heap.get? h1.objs.size with
  | none=>rfl
  | some ob=>exact absurd (Heap.lt_size (k1 _ _ (Heap.get?_push_of_some _ e))) (Nat.lt_irrefl _)
 have hq:(s.heap.push {cls:=.type "dict",data:=.dict #[]}).get? s.heap.objs.size=some {cls:=.type "dict",data:=.dict #[]}:=Heap.get?_push_size _ rfl
 have hd1:RawN prog w s.heap h1 s.heap.objs.size []:=⟨⟨_,#[],0,k1 _ _ hq,⟨rfl,rfl,rfl⟩,rfl,rfl,List.nodup_nil⟩,fun x hx=>nomatch hx⟩
 have hne:s.heap.objs.size≠h1.objs.size:=Nat.ne_of_lt (Heap.lt_size (k1 _ _ hq))
 have ht:s.heap.IsList tq items:=⟨o,ho,hc,n,hdat⟩
 refine wpAny_bind (wpAny_rule (wpAny_bind (wpAny_pyIter_list (l:=tq) (items:=items) ⟨o,k1 _ _ ho1,hc,n,hdat⟩ ?_)));refine wpAny_pure ⟨plainId_quiet lD _,?_⟩;refine Kr (A:=A.in1) (hb:=s.heap) (show A.in1.handled=none from hh) (by rw[Around.in1_units];omega) g0 g1 hne ht kvs 0 {s with heap:=h1.push {cls:=.type "list_iterator",data:=.fields #[.ref tq,.int 0 0]},toks:=tk1} [] 0 (fun b ob e=>Heap.get?_push_of_some _ (k1 _ _ (Heap.get?_push_of_some _ e))) ⟨_,Heap.get?_push_size _ rfl,rfl,rfl⟩ (hd1.at fun o e=>Heap.get?_push_of_some _ e) (by simpa using hp) (by simpa using hsz) fun h' tk q1 q2=>?_
 exact⟨rfl,hQ h' tk q1 q2⟩
end
section
variable {K:PySem.W.Frag}{Z:Addr->Prop}{m:Mu}{H:Hp}
noncomputable def fH(acc:List (List PyData×D))(r:List (List PyData×PyData)):List (List PyData×D):=r.foldl (fun acc kv=>fB acc kv.1 (.dat kv.2)) acc
noncomputable def kS(acc:List (List PyData×V))(r:List (List PyData×V)):List (List PyData×V):=r.foldl (fun acc kv=>cI acc kv.1 kv.2) acc
abbrev Lg(kvs:List (List PyData×PyData)):List (List PyData×D):=kvs.map fun kv=>(kv.1,D.dat kv.2)
theorem RKW.puts:∀ {r:List (List PyData×PyData)} {ws:List (List PyData×V)} {acc:List (List PyData×D)} {aw:List (List PyData×V)},RKW K Z m H acc aw->RKW K Z m H (Lg r) ws->RKW K Z m H (fH acc r) (kS aw ws)
 | [],ws,acc,aw,ha,hr=>by
  cases (show ws=[] from hr)
  exact ha
 | (k,p)::r,_,acc,aw,ha,⟨v,ws,h1,h2,h3⟩=>by
  subst h1;show RKW K Z m H (fH (fB acc k (.dat p)) r) (kS (cI aw k v) ws)
  exact RKW.puts (ha.put h2) h3
theorem Li:∀ (r:List (List PyData×PyData)) (acc:List (List PyData×D)),(fH acc r).length<=acc.length+r.length
 | [],acc=>by simp[fH]
 | kv::r,acc=>by
  have h1:=Li r (fB acc kv.1 (.dat kv.2))
  have h2:=BK acc kv.1 (D.dat kv.2)
  show(fH (fB acc kv.1 (.dat kv.2)) r).length<=_
  rw[List.length_cons];omega
theorem RKW.lenW{κ:Type}:∀ {kvs:List (κ×D)} {vs:List (κ×V)},RKW K Z m H kvs vs->vs.length=kvs.length
 | [],_,h=>by cases (show _=[] from h);rfl
 | (g,y)::fs,_,⟨v,r,h1,h2,h3⟩=>by subst h1;rw[List.length_cons,List.length_cons,RKW.lenW h3]
theorem KN.puts{ws:List (List PyData×V)}{xs:List (List PyData×Addr×Value)}(t:KN K H ws xs):∀ {aw:List (List PyData×V)} {ax:List (List PyData×Addr×Value)},KN K H aw ax->KN K H (kS aw ws) (uB ax xs):=by
 induction t with
 | nil=>exact fun ha=>ha
 | @cons p q ps qs h t ih =>
  intro aw ax ha;obtain⟨h1,h2,h3⟩:=h;have:=KN.put ha p.1 (b:=q.2.1) h2 h3
  show KN K H (kS (cI aw p.1 p.2) ps) (uB (storedH ax q.1 q.2.1 q.2.2) qs)
  rw[<- h1];exact ih this
end
section
variable {X:Cx}{pins:List (Addr×Obj)}{σ:L2.St}{H:Hp}{s:Shared}{Z:Addr->Prop}{m:Mu}
theorem Es(I:Inv X pins σ H s):∀ {kvs:List (List PyData×PyData)} {vs:List V} {us:List Value},(∀ kv∈kvs,L2.isKs kv.1=true/\PyData.depthAll kv.1<=6)->RPs X.K Z m H (kvs.map fun kv=>PyData.tuple [.tuple kv.1,kv.2]) vs->Vals vs us ->
  ∃ ws:List (List PyData×V),∃ xs:List (List PyData×Addr×Value),RKW X.K Z m H (Lg kvs) ws/\KN X.K H ws xs/\vQ X.prog X.w s.heap us xs/\xs.length=kvs.length
 | [],vs,us,_,h,r=>by
  simp only[List.map_nil,RPs]at h;subst h
  cases r
  exact⟨[],[],rfl,.nil,trivial,rfl⟩
 | (k,p)::kvs,vs,us,hk,h,r=>by
  simp only[List.map_cons,RPs]at h;obtain⟨v,vs',rfl,h1,h2⟩:=h
  cases r with
  | cons r1 r2 =>
   obtain⟨ws,xs,q1,q2,q3,q4⟩:=Es I (fun kv q=>hk kv (List.mem_cons_of_mem _ q)) h2 r2;obtain⟨hk1,hk2⟩:=hk (k,p) List.mem_cons_self;simp only[RP]at h1;obtain⟨a,ps,rfl,hs,hp⟩:=h1;obtain⟨its,rv,it,_⟩:=I.tuple hs;simp only[RPs]at hp;obtain⟨v1,r',rfl,g1,v2,r'',rfl,g2,rfl⟩:=hp
   cases rv with
   | cons w1 rv =>
    cases rv with
    | cons w2 rv =>
     cases rv
     have g1':RP X.K Z m H (.tuple k) v1:=by simp only[RP];exact g1
     have nk:=RP.nkv (.tuple k) v1 hk1 g1'
     obtain⟨b,zs,rfl,gg⟩:=g1;rename_i u1 _ _;obtain rfl:u1=Value.ref b:=w1;obtain rfl:=(show _=Value.ref a from r1)
     obtain⟨o,e1,e2,n,e3⟩:=it;exact⟨(k,v2)::ws,(k,b,_)::xs,⟨v2,ws,rfl,g2,q1⟩,.cons ⟨rfl,⟨hk1,hk2,nk⟩,w2⟩ q2,⟨⟨a,rfl,⟨o,e1,e2,n,e3⟩,qO I ⟨hk1,hk2,nk⟩⟩,q3⟩,by rw[List.length_cons,List.length_cons,q4]⟩
end
section
variable {X:Cx}{e:Expr}{f:DE}{pos p:Pos}
@[simp] def Cu(f:DE):DE:=fun d m Q=>f d m fun x m1=>∃ kvs:List (List PyData×PyData),x=.dat (.list (kvs.map fun kv=>.tuple [.tuple kv.1,kv.2]))/\(∀ kv∈kvs,L2.isKs kv.1=true/\PyData.depthAll kv.1<=6)/\kvs.length<=sizeLine/\∀ a,m1 a=none->Q (.cel a) (aY m1 a (.n (fH [] kvs)))
theorem W4(hu:X.A.units+100<cLine)(hc:X.calm=true)(hg:Gl X "dict")(hm:X.mg "dict"=none)(he:PE X e (LE X.K f))(hs:starEach [e] X.env=[(false,eval e X.env)]:=by rfl):PE X (.Call (.Name "dict" p) [e] [] pos) (LE X.K (Cu f)):=by
 intro pins s σ H Q I h;obtain⟨Z,d,m,R,ok,rs,h,k⟩:=h;have hA:=gZ (X:=X) he iH (by rw[hs];rfl) pos pins s σ H (fun vs H1=>∃ (v:V) (kvs:List (List PyData×PyData)) (m1:Mu),vs=[v]/\RD X.K Z m1 H1 (.dat (.list (kvs.map fun kv=>.tuple [.tuple kv.1,kv.2]))) v/\(∀ kv∈kvs,L2.isKs kv.1=true/\PyData.depthAll kv.1<=6)/\kvs.length<=sizeLine/\(∀ a,m1 a=none->R (.cel a) (aY m1 a (.n (fH [] kvs))))/\Ext X.K Z m H m1 H1/\Ok X.K Z m1 H1) I ⟨Z,d,m,_,ok,rs,h,fun x m1 v H1 ⟨kvs,ex,hk,hn,q⟩ e1 ok1 rd=>by
  subst ex;exact⟨v,kvs,m1,rfl,rd,hk,hn,q,e1,ok1⟩⟩
 refine Call_ (gQ I hg hm boot_dict (PyProof.Rows.callWith_type1 (bA hA fun us s1 ⟨vs,H1,I1,r1,q1⟩=>?_) hs rfl));obtain⟨v,kvs,m1,ev,rd,hk,hn,q,e1,ok1⟩:=q1;subst ev;simp only[RD,RP]at rd;obtain⟨a,ps,rfl,_,hsq,hp⟩:=rd;obtain⟨u,rfl,hu2⟩:=fP r1
 cases (show u=Value.ref a from hu2)
 obtain⟨its,rv,⟨o,n,ho,hoc,hdn,hod⟩,_⟩:=I1.list hsq;obtain⟨ws,xs,q1,q2,q3,q4⟩:=Es (Z:=Z) (m:=m1) I1 hk (by simpa using hp) rv
 have hp0:H1 s1.heap.objs.size=none:=I1.hok.fresh (Nat.le_refl _)
 have hk0:X.K.lookup s1.heap.objs.size=none:=by
  cases e:X.K.lookup s1.heap.objs.size with
  | none=>rfl
  | some o=>exact absurd (Heap.lt_size (I1.kIn _ o e)) (Nat.lt_irrefl _)
 refine n5 (I1.ok.hd hc) (by omega) ho hoc hdn hod (by simpa using q3) (by rw[q4];exact hn) fun h' tk kp dd=>?_
 have rk:RKW X.K Z m1 H1 (fH [] kvs) (kS [] ws):=RKW.puts (show RKW _ _ _ _ _ _ from rfl) q1
 have kn:=KN.puts q2 .nil
 have sm:=cU (o:=.dN X.K (kS [] ws)) hp0
 have ob:ObjOk X.prog X.w (upd H1 s1.heap.objs.size (.dN X.K (kS [] ws))) h' s1.heap.objs.size (.dN X.K (kS [] ws)):=by
  obtain⟨⟨o,es,ep,d1,d2,d3,d4,d5⟩,_⟩:=dd;refine⟨?_,beq_eq_false_iff_ne.mpr (Ne.symm (Nat.ne_of_lt I1.big)),_,Paired.mapP kn (fun p q z=>⟨z.1,⟨z.2.1.1,z.2.1.2.1,NKV.stay (fun b xs q=>sm _ _ q) (fun b o u q=>sm _ _ q) _ _ z.2.1.2.2⟩,z.2.2⟩),o,es,ep,d1,d2,d3,d4,d5⟩;rw[RKW.lenW rk];exact Nat.le_trans (Li kvs []) (by simpa using hn)
 exact⟨.ref s1.heap.objs.size,_,I1.laid (t':=tk) kp (Nat.le_refl _) ob,rfl,k _ _ _ _ (q _ (fJ ok1 hp0).1) (e1.trans (Ext.cell ok1 hp0 hk0)) (ok1.cell hp0 hk0 (show RC _ _ _ _ (.n _) (.dN X.K _) from⟨rfl,rk⟩)) ⟨rfl,by rw[bF];rfl⟩⟩
end
end DL
namespace DL
open PySem PySem.Spec PyProof.Rows L2
def eG(z:Int):Nat:=z.toNat%8
def vP(r:Nat):Nat:=(5*r+1)%8
def sl2:List Int->List Nat
 | [a,b]=>if eG a≠eG b then [eG a,eG b] else if eG a<vP (eG a) then [eG a,vP (eG a)] else [vP (eG a),eG a]
 | zs=>zs.map eG
def jR:List Int->Int->Nat
 | [a],z=>if eG a=eG z then vP (eG z) else eG z
 | _,z=>eG z
def eI(zs:List Int)(z:Int):List Int:=if z∈zs then zs else zs.take (SetTable.below (sl2 zs).toArray (jR zs z))++z::zs.drop (SetTable.below (sl2 zs).toArray (jR zs z))
def fK:List Int:=(List.range 32).map Int.ofNat
def ok2(a b:Int):Bool:=decide (a≠b)&&(match sl2 [a,b] with | [i,j]=>decide (i<j) | _=>false)
def Sk:List Int->Prop
 | []=>True
 | [a]=>a∈fK
 | [a,b]=>a∈fK/\b∈fK/\ok2 a b=true
 | _=>False
abbrev Kh(led:Bool)(zs:List Int)(z:Int):Prop:=(dS sl2 led zs).freeSlot (hashInt z)=some (jR zs z,false)/\(dS sl2 led zs).put (jR zs z)=(dS sl2 led (eI zs z),SetTable.below (sl2 zs).toArray (jR zs z))/\(dS sl2 led (eI zs z)).fits (zs.length+1)=true /\
  eI zs z=zs.take (SetTable.below (sl2 zs).toArray (jR zs z))++z::zs.drop (SetTable.below (sl2 zs).toArray (jR zs z))/\(dS sl2 led (eI zs z)).tooFull=false
theorem Ld:∀ led:Bool,∀ z∈fK,Kh led [] z:=by decide +kernel
theorem B5:∀ led:Bool,∀ a∈fK,∀ z∈fK,z≠a->Kh led [a] z/\(eI [a] z=[a,z]/\ok2 a z=true\/eI [a] z=[z,a]/\ok2 z a=true):=by decide +kernel
theorem On:∀ a∈fK,SetTable.below [eG a].toArray (eG a+1)=1/\SetTable.below [eG a].toArray 0=0:=by decide +kernel
theorem wY:∀ a∈fK,∀ b∈fK,ok2 a b=true->SetTable.below (sl2 [a,b]).toArray 0=0/\(match sl2 [a,b] with | [i,j]=>decide (SetTable.below #[i,j] (i+1)=1/\SetTable.below #[i,j] (j+1)=2) | _=>false)=true/\(∀ led,(dS sl2 led [a,b]).fits 2=true):=by decide +kernel
def B2:SD where
 dom:=fK
 sub:=Sk
 sl:=sl2
 to:=jR
 ins:=eI
 cap:=2
 nil:=True.intro
 nil':=rfl
 len:=fun zs h=>by
  match zs,h with
  | [],_=>exact⟨by decide,by decide⟩
  | [a],h=>exact⟨by simp,fun led=>(Ld led a h).2.2.1⟩
  | [a,b],h=>exact⟨by simp,(wY a h.1 b h.2.1 h.2.2).2.2⟩
 free:=fun led zs h z hz hn hc=>by
  match zs,h with
  | [],_ =>
   obtain⟨a,b,c,d,e⟩:=Ld led z hz;exact⟨a,b,c,d,hz,e⟩
  | [x],h =>
   obtain⟨⟨a,b,c,d,e⟩,g⟩:=B5 led x h z hz (by simpa using hn)
   refine⟨a,b,c,d,?_,e⟩;rcases g with⟨g,k⟩ | ⟨g,k⟩
   ·rw[g];exact⟨h,hz,k⟩
   ·rw[g];exact⟨hz,h,k⟩
  | [x,y],h=>exact absurd hc (by simp)
 old:=fun zs _ z hz=>by unfold eI;rw[if_pos hz]
 st:=fun zs h i j g=>by
  match zs,h with
  | [],_=>simp[sl2]at g
  | [a],h =>
   have g:([eG a].toArray)[i]?=some j:=g
   match i,g with
   | 0,g =>
    obtain rfl:eG a=j:=by simpa using g
    exact(On a h).1
   | i+1,g=>simp at g
  | [a,b],h =>
   have q:=(wY a h.1 b h.2.1 h.2.2).2.1
   have ok:ok2 a b=true:=h.2.2
   unfold ok2 at ok
   generalize sl2 [a,b]=l at q g ok ⊢
   match l,ok,q,g with
   | [x,y],_,q,g =>
    have q:=of_decide_eq_true q
    match i,g with
    | 0,g =>
     obtain rfl:x=j:=by simpa using g
     exact q.1
    | 1,g =>
     obtain rfl:y=j:=by simpa using g
     exact q.2
    | i+2,g=>simp at g
   | [],ok,_,_=>simp at ok
   | [_],ok,_,_=>simp at ok
   | _::_::_::_,ok,_,_=>simp at ok
 bel:=fun zs h=>by
  match zs,h with
  | [],_=>decide
  | [a],h=>exact(On a h).2
  | [a,b],h=>exact(wY a h.1 b h.2.1 h.2.2).1
theorem Ws(zs:List Int)(z:Int)(n:zs.Nodup):(eI zs z).Nodup/\(∀ y,y∈eI zs z↔y∈zs\/y=z)/\(eI zs z).length<=zs.length+1:=by
 unfold eI
 split
 ·rename_i h;exact⟨n,fun y=>⟨.inl,fun q=>q.elim id fun e=>e▸h⟩,Nat.le_succ _⟩
 ·rename_i h
  generalize SetTable.below (sl2 zs).toArray (jR zs z)=p
  have pm:(zs.take p++z::zs.drop p).Perm (z::zs):=by
   have:=List.perm_middle (a:=z) (l₁:=zs.take p) (l₂:=zs.drop p)
   rwa [List.take_append_drop]at this
  refine⟨pm.nodup_iff.mpr (List.nodup_cons.mpr ⟨h,n⟩),fun y=>?_,by rw[pm.length_eq];simp⟩
  rw[pm.mem_iff,List.mem_cons];exact or_comm
theorem zL:∀ (zs acc:List Int),acc.Nodup->(zs.foldl eI acc).Nodup/\(∀ y,y∈zs.foldl eI acc↔y∈acc\/y∈zs)/\(zs.foldl eI acc).length<=acc.length+zs.length
 | [],acc,n=>⟨n,by simp,by simp⟩
 | z::zs,acc,n=>by
  obtain⟨a,b,c⟩:=Ws acc z n;obtain⟨a',b',c'⟩:=zL zs (eI acc z) a;refine⟨a',fun y=>?_,?_⟩
  ·show y∈zs.foldl eI (eI acc z)↔_
   rw[b',b,List.mem_cons,or_assoc]
  ·show(zs.foldl eI (eI acc z)).length<=_
   rw[List.length_cons];omega
section
variable {X:Cx}{e:Expr}{f:DE}{pos p pos2 p2:Pos}
@[simp] def xY(f:DE):DE:=fun d m Q=>f d m fun x m1=>∃ (c:Addr) (zs:List Int),x=.cel c/\m1 c=some (.l (zs.map .int))/\zs.length<=2/\(∀ z∈zs,z∈fK)/\∀ ys:List Int,ys.Pairwise (· < ·)->(∀ y,y∈ys↔y∈zs)->Q (.dat (.list (ys.map .int))) m1
theorem R1(hc:X.calm=true)(hg:Gl X "sorted")(hm:X.mg "sorted"=none)(hg2:Gl X "set")(hm2:X.mg "set"=none)(he:PE X e (LE X.K f))(hs:starEach [e] X.env=[(false,eval e X.env)]:=by rfl)
  (hs2:starEach [.Call (.Name "set" p2) [e] [] pos2] X.env=[(false,eval (.Call (.Name "set" p2) [e] [] pos2) X.env)]:=by rfl):PE X (.Call (.Name "sorted" p) [.Call (.Name "set" p2) [e] [] pos2] [] pos) (LE X.K (xY f)):=by
 intro pins s σ H Q I h;obtain⟨Z,d,m,R,ok,rs,h,k⟩:=h;have hA:=gZ (X:=X) he iH (by rw[hs];rfl) pos2 pins s σ H (fun vs H1=>∃ (zs:List Int) (m1:Mu) (a:Addr),vs=[V.ref a]/\SqL X.K H1 a (zs.map V.int)/\zs.length<=2/\(∀ z∈zs,z∈fK)/\(∀ ys:List Int,ys.Pairwise (· < ·)->(∀ y,y∈ys↔y∈zs)->R (.dat (.list (ys.map .int))) m1)/\Ext X.K Z m H m1 H1/\Ok X.K Z m1 H1) I ⟨Z,d,m,_,ok,rs,h,fun x m1 v H1 ⟨c,zs,ex,hmc,hl,hn,q⟩ e1 ok1 rd=>by
  subst ex;obtain⟨rfl,_⟩:=rd;obtain⟨vs,h1,h2⟩:=ok1.l hmc
  cases Cd h2
  exact⟨zs,m1,c,rfl,.inl (.inl h1),hl,hn,q,e1,ok1⟩⟩
 refine Call_ (gQ I hg hm Jt (PyProof.Rows.callWith_builtin1 ?_ hs2 rfl));rw[hs2];show wpAny _ _ (spliced ((false,eval (.Call (.Name "set" p2) [e] [] pos2) X.env)::[])) _ _ s
 refine Calls.spliced_cons (Call_ (gQ I hg2 hm2 EY (PyProof.Rows.callWith_type1 (bA hA fun us s1 ⟨vs,H1,I1,r1,q1⟩=>?_) hs rfl)));obtain⟨zs,m1,a,ev,hq,hl,hn,q,e1,ok1⟩:=q1;subst ev;obtain⟨u,rfl,ru⟩:=fP r1;obtain rfl:u=Value.ref a:=ru;obtain⟨its,r',pl,hz⟩:=I1.list hq;have hlen:=r'.length
 rw[List.length_map]at hlen;have hcp:∀ i,i<its.toArray.size->zs.getD i 0∉eY B2 (fun i=>zs.getD i 0) i->(eY B2 (fun i=>zs.getD i 0) i).length<2:=fun i hi _=>by
  have hi:i<zs.length:=by rw[List.size_toArray,<- hlen]at hi;exact hi
  have:=(zL ((List.range i).map fun i=>zs.getD i 0) [] List.nodup_nil).2.2
  have this:(eY B2 (fun i=>zs.getD i 0) i).length<=_:=this
  rw[List.length_map,List.length_range,List.length_nil,Nat.zero_add]at this;omega
 refine V0 (B:=B2) (I1.ok.hd hc) pl.isList (by simpa using zK r') hn (show(0:Int)∈fK by decide) hcp fun h' tk T kp=>?_
 have em:eY B2 (fun i=>zs.getD i 0) its.toArray.size=zs.foldl eI []:=by
  unfold eY;rw[Yc zs (by rw[List.size_toArray];exact hlen)]
  rfl
 rw[em]at T;obtain⟨n1,n2,n3⟩:=zL zs [] List.nodup_nil;simp at n3;refine Calls.spliced_nil ?_;refine j0 (s:={s1 with heap:=h',toks:=tk}) (I1.ok.hd hc) T (by omega) fun s' vs' ys e' L hS hp hs' lt hL k2 g2 o2=>?_
 have hv:=sJ hS
 have hpl:=hp.length_eq
 have hnd:ys.Nodup:=hp.nodup_iff.mpr n1
 have hlt:ys.Pairwise (· < ·):=List.Pairwise.imp₂ (fun a b (h1:a<=b) (h2:a≠b)=>by omega) hs' hnd
 have hq:=q ys hlt fun y=>by rw[hp.mem_iff,n2];simp
 have hle:s1.heap.objs.size<=L:=Nat.le_of_lt (Nat.lt_of_lt_of_le (let ⟨o,_,_,ho,_⟩:=T;Heap.lt_size ho) lt)
 have hf:H1 L=none:=I1.hok.fresh hle
 have kk:∀ b ob,s1.heap.get? b=some ob->s'.heap.get? b=some ob:=fun b ob q=>k2 b ob (kp b ob (Heap.lt_size q) q)
 have I2:=I1.laid (t':=s'.toks) (h':=s'.heap) (a:=L) (o:=.lst (ys.map V.int)) kk hle ⟨by rw[List.length_map,sizeLine_eq];omega,vs',e',hv,hL⟩
 have I3:Inv X pins σ (upd H1 L (.lst (ys.map V.int))) s':=G6 I2 rfl g2 o2
 have sm:Same H1 (upd H1 L (.lst (ys.map V.int))):=cU hf
 refine⟨.ref L,_,I3,rfl,k _ m1 _ _ hq (e1.trans (ok1.ext sm)) (ok1.grow sm) ?_⟩;simp only[RD,RP];exact⟨L,_,rfl,fJ ok1 hf,.inl (.inl cX),Mv _⟩
end
end DL
namespace DL
open PySem PySem.Spec PyProof.Rows L2
structure QE (X:Cx) (e:Expr) (t:TE):Prop where
 pe:PE X e t
structure QA (X:Cx) (e:List Expr) (t:TA):Prop where
 pe:PA X e t
structure QT (X:Cx) (e:Expr) (t:TT):Prop where
 pe:PT X e t
structure QW (X:Cx) (e:Expr) (t:TT):Prop where
 pe:PW X e t
structure QS (X:Cx) (e:Stmt) (t:TS):Prop where
 pe:PS X e t
structure QSs (X:Cx) (e:List Stmt) (t:TS):Prop where
 pe:PSs X e t
structure QG (X:Cx) (e:Expr) (t:TG):Prop where
 pe:PG X e t
structure QGs (X:Cx) (e:List Expr) (t:jK):Prop where
 pe:PGs X e t
structure QO (X:Cx) (e:Option Expr) (t:TO):Prop where
 pe:PO X e t
structure QF (X:Cx) (e:List Expr) (t:TT):Prop where
 pe:PF X e t
structure QI (X:Cx) (tg e:Expr) (t:TI):Prop where
 pe:PI X tg e t
structure QD (X:Cx) (p:Pos) (k:List (Option Expr)) (v:List Expr) (t:List (DE×DE)):Prop where
 pe:PD X p k v t
theorem QW.pt{X:Cx}{e:Expr}{t:TT}(h:QW X e t):QT X e t:=⟨h.pe.pt⟩
section
variable {X:Cx}{pos:Pos}
theorem aD(i:Nat){x:Str}(hN:X.N[i]?=some x:=by rfl)(hv:iX X.env.scope x:=by first | exact Or.inl rfl | exact Or.inr (Or.inl rfl) | exact Or.inr (Or.inr rfl))(hd:(x==("__debug__" : Str))=false:=by decide)(hcd:(x==("__classdict__" : Str))=false:=by decide):QE X (.Name x pos) (LE X.K (aC i)):=⟨Ui (i:=i) (hN:=hN) (hv:=hv) (hd:=hd) (hcd:=hcd)⟩
end
section
variable {X:Cx}{pos:Pos}
theorem aH{i:Int}{j:Nat}:QE X (.Constant (.int i) j pos) (LE X.K (aE (.int i))):=⟨G8 ⟩
end
section
variable {X:Cx}{pos:Pos}
theorem iQ{b:Bool}{j:Nat}:QE X (.Constant (.bool b) j pos) (LE X.K (aE (.bool b))):=⟨p7 ⟩
end
section
variable {X:Cx}{pos:Pos}
theorem vZ{j:Nat}:QE X (.Constant .none j pos) (LE X.K (aE .none)):=⟨t5 ⟩
end
section
variable {X:Cx}{pos:Pos}
theorem aQ{x:Str}{j:Nat}:QE X (.Constant (.str x) j pos) (LE X.K (aE (.str x))):=⟨Qt ⟩
end
section
variable {X:Cx}{a b c:Expr}{f g:DE}{pos:Pos}
theorem aX{op:Operator}{r:D2}(ho:dO X (binaryOp op) r)(ha:QE X a (LE X.K f))(hb:QE X b (LE X.K g)):QE X (.BinOp a op b pos) (LE X.K (aI r f g)):=⟨Zn (ho:=ho) (ha:=ha.pe) (hb:=hb.pe)⟩
end
section
variable {X:Cx}{a b c:Expr}{f g:DE}{pos:Pos}
theorem kU{op:CmpOp}{r:D2}(ho:dO X (compareOp op) r)(ha:QE X a (LE X.K f))(hb:QE X b (LE X.K g))(hm:behindInMarks op b=false:=by exact tR _):QE X (.Compare a [op] [b] pos) (LE X.K (aI r f g)):=⟨z5 (ho:=ho) (ha:=ha.pe) (hb:=hb.pe) (hm:=hm)⟩
end
section
variable {X:Cx}{a b c:Expr}{f g:DE}{pos:Pos}
theorem bV{op:CmpOp}{r:D2}(ho:dO X (compareOp op) r)(ha:QE X a (LE X.K f))(hb:QE X b (LE X.K g))(hm:behindInMarks op b=false:=by exact tR _):QT X (.Compare a [op] [b] pos) (LT X.K (bQ (aI r f g))):=⟨Oz (ho:=ho) (ha:=ha.pe) (hb:=hb.pe) (hm:=hm)⟩
end
section
variable {X:Cx}{a b c:Expr}{rest:List Expr}{f g:DE}{t u:DT}{pos:Pos}
theorem vK(hc:QT X c (LT X.K t))(ha:QE X a (LE X.K f))(hb:QE X b (LE X.K g)):QE X (.IfExp c a b pos) (LE X.K (oB t f g)):=⟨A4 (hc:=hc.pe) (ha:=ha.pe) (hb:=hb.pe)⟩
end
section
variable {X:Cx}{e:Expr}{es:List Expr}{f:DE}{g:DA}{pos:Pos}
theorem aG  : QA X [] (LA X.K aF):=⟨Hs ⟩
end
section
variable {X:Cx}{e:Expr}{es:List Expr}{f:DE}{g:DA}{pos:Pos}
theorem aB(ha:QE X e (LE X.K f))(hr:QA X es (LA X.K g))(hs:starEach (e::es) X.env=(false,eval e X.env)::starEach es X.env:=by rfl):QA X (e::es) (LA X.K (aA f g)):=⟨Bj (ha:=ha.pe) (hr:=hr.pe) (hs:=hs)⟩
end
section
variable {X:Cx}{e:Expr}{es:List Expr}{f:DE}{g:DA}{pos:Pos}
theorem aM{j:Nat}(h:QA X es (LA X.K g)):QE X (.Tuple es j pos) (LE X.K (aL g)):=⟨c6 (h:=h.pe)⟩
end
section
variable {X:Cx}{e:Expr}{es:List Expr}{f:DE}{g:DA}{pos:Pos}
theorem eO(h:QA X es (LA X.K g)):QE X (.List es pos) (LE X.K (dW g)):=⟨l4 (h:=h.pe)⟩
end
section
variable {X:Cx}{e:Expr}{es:List Expr}{f:DE}{g:DA}{pos:Pos}
theorem iP(h:QA X es (LA X.K g)):QE X (.List es pos) (LE X.K (gK g)):=⟨EO (h:=h.pe)⟩
end
section
variable {X:Cx}{a b c e:Expr}{es:List Expr}{f g:DE}{ga:DA}{pos p2 p:Pos}
theorem dM(ha:QE X a (LE X.K f)):QE X (.UnaryOp .USub a pos) (LE X.K (dG f)):=⟨Vh (ha:=ha.pe)⟩
end
section
variable {X:Cx}{a b c e:Expr}{es:List Expr}{f g:DE}{ga:DA}{pos p2 p:Pos}
theorem aZ(ha:QE X a (LE X.K f))(hb:QE X b (LE X.K g))(hs:Cq b:=by exact fun _ _=>rfl):QE X (.Subscript a b pos) (LE X.K (aI aW f g)):=⟨Sh (ha:=ha.pe) (hb:=hb.pe) (hs:=hs)⟩
end
section
variable {X:Cx}{a b c e:Expr}{es:List Expr}{f g:DE}{ga:DA}{pos p2 p:Pos}
theorem gH  : QO X none (LO X.K fR):=⟨Xx ⟩
end
section
variable {X:Cx}{a b c e:Expr}{es:List Expr}{f g:DE}{ga:DA}{pos p2 p:Pos}
theorem fV(ha:QE X a (LE X.K f)):QO X (some a) (LO X.K (fE f)):=⟨B9 (ha:=ha.pe)⟩
end
section
variable {X:Cx}{a b c e:Expr}{es:List Expr}{f g:DE}{ga:DA}{pos p2 p:Pos}
theorem bX{x:Str}{id:String}{r:DC}(hc:CallD X (.builtin id) r)(hg:Gl X x)(hm:X.mg x=none)(hv:bootBuiltins x=some (.builtin id))(ha:QA X (e::es) (LA X.K ga))(hn:x≠"__name__":=by decide)(hdb:(x==("__debug__" : Str))=false:=by decide)(he:starEach (e::es) X.env=(false,eval e X.env)::starEach es X.env:=by rfl)(hpl:(backTo pos (starEach es X.env)).any (·.1)=false:=by rfl):QE X (.Call (.Name x p) (e::es) [] pos) (LE X.K (bC r ga)):=⟨V5 (hc:=hc) (hg:=hg) (hm:=hm) (hv:=hv) (ha:=ha.pe) (hn:=hn) (hdb:=hdb) (he:=he) (hpl:=hpl)⟩
end
section
variable {X:Cx}{a b c e:Expr}{es:List Expr}{f g:DE}{ga:DA}{pos p2 p:Pos}
theorem dA{x:Str}{T:String}{r:DC}(hc:CallD X (.type T) r)(hg:Gl X x)(hm:X.mg x=none)(hv:bootBuiltins x=some (.type T))(ha:QA X (e::es) (LA X.K ga))(hn:x≠"__name__":=by decide)(hdb:(x==("__debug__" : Str))=false:=by decide)(he:starEach (e::es) X.env=(false,eval e X.env)::starEach es X.env:=by rfl)(hpl:(backTo pos (starEach es X.env)).any (·.1)=false:=by rfl):QE X (.Call (.Name x p) (e::es) [] pos) (LE X.K (bC r ga)):=⟨Sg (hc:=hc) (hg:=hg) (hm:=hm) (hv:=hv) (ha:=ha.pe) (hn:=hn) (hdb:=hdb) (he:=he) (hpl:=hpl)⟩
end
section
variable {X:Cx}{st:Stmt}{rest body orelse:List Stmt}{t u b:DS}{e c tg iter:Expr}{f:DE}{tc:DT}{pos:Pos}
theorem aT  : QSs X [] (LS X.K aR):=⟨Ra ⟩
end
section
variable {X:Cx}{st:Stmt}{rest body orelse:List Stmt}{t u b:DS}{e c tg iter:Expr}{f:DE}{tc:DT}{pos:Pos}
theorem aK(h1:QS X st (LS X.K t))(h2:QSs X rest (LS X.K u)):QSs X (st::rest) (LS X.K (aJ t u)):=⟨CB (h1:=h1.pe) (h2:=h2.pe)⟩
end
section
variable {X:Cx}{st:Stmt}{rest body orelse:List Stmt}{t u b:DS}{e c tg iter:Expr}{f:DE}{tc:DT}{pos:Pos}
theorem kG(he:QE X e (LE X.K f))(hs:swapsWith e none pos.line X.env=pure false:=by rfl):QS X (.Expr e pos) (LS X.K (gS f)):=⟨EC (he:=he.pe) (hs:=hs)⟩
end
section
variable {X:Cx}{st:Stmt}{rest body orelse:List Stmt}{t u b:DS}{e c tg iter:Expr}{f:DE}{tc:DT}{pos:Pos}
theorem bK(he:QE X e (LE X.K f)):QS X (.Return (some e) pos) (LS X.K (bH f)):=⟨FC (he:=he.pe)⟩
end
section
variable {X:Cx}{st:Stmt}{rest body orelse:List Stmt}{t u b:DS}{e c tg iter:Expr}{f:DE}{tc:DT}{pos:Pos}
theorem cR(hc:QT X c (LT X.K tc))(h1:QSs X body (LS X.K t))(h2:QSs X orelse (LS X.K u)):QS X (.If c body orelse pos) (LS X.K (cM tc t u)):=⟨v7 (hc:=hc.pe) (h1:=h1.pe) (h2:=h2.pe)⟩
end
section
variable {X:Cx}{st:Stmt}{rest body orelse:List Stmt}{t u b:DS}{e c tg iter:Expr}{f:DE}{tc:DT}{pos:Pos}
theorem aV(i:Nat){x:Str}{pos':Pos}(hN:X.N.Nodup)(he:QE X e (LE X.K f))(hi:X.N[i]?=some x:=by rfl)(hx:gG X.env.scope x:=by first | exact Or.inl rfl | exact Or.inr rfl)(hs:swapsWith e (some (.Name x pos')) pos.line X.env=pure false:=by rfl)(hf:X.fn x=true\/X.env.scope.names.lookup x=some .local:=by first | exact .inl rfl | exact .inr rfl):QS X (.Assign [.Name x pos'] e pos) (LS X.K (aO i f)):=⟨L0 (i:=i) (hN:=hN) (he:=he.pe) (hi:=hi) (hx:=hx) (hs:=hs) (hf:=hf)⟩
end
section
variable {X:Cx}{st:Stmt}{rest body orelse:List Stmt}{t u b:DS}{e c tg iter:Expr}{f:DE}{tc:DT}{pos:Pos}
theorem bI(i:Nat){x:Str}(hN:X.N.Nodup)(hi:X.N[i]?=some x:=by rfl)(hx:gG X.env.scope x:=by first | exact Or.inl rfl | exact Or.inr rfl)(hf:X.fn x=true\/X.env.scope.names.lookup x=some .local:=by first | exact .inl rfl | exact .inr rfl):QG X (.Name x pos) (LG X.K (gN i)):=⟨P9 (i:=i) (hN:=hN) (hi:=hi) (hx:=hx) (hf:=hf)⟩
end
section
variable {X:Cx}{st:Stmt}{rest body orelse:List Stmt}{t u b:DS}{e c tg iter:Expr}{f:DE}{tc:DT}{pos:Pos}
theorem iD  : QGs X [] (kR X.K eT):=⟨E4 ⟩
end
section
variable {X:Cx}{st:Stmt}{rest body orelse:List Stmt}{t u b:DS}{e c tg iter:Expr}{f:DE}{tc:DT}{pos:Pos}
theorem eA{es:List Expr}{g:DG}{r:jZ}(h1:QG X e (LG X.K g))(h2:QGs X es (kR X.K r))(hs:(assignEach (e::es) X.env).map (·.2)=assign e X.env::(assignEach es X.env).map (·.2):=by rfl):QGs X (e::es) (kR X.K (cD g r)):=⟨Td (h1:=h1.pe) (h2:=h2.pe) (hs:=hs)⟩
end
section
variable {X:Cx}{st:Stmt}{rest body orelse:List Stmt}{t u b:DS}{e c tg iter:Expr}{f:DE}{tc:DT}{pos:Pos}
theorem iC{es:List Expr}{j n:Nat}{g:jZ}(hc:X.calm=true)(h:QGs X es (kR X.K g))(hn:(assignEach es X.env).length=n:=by rfl)(hst:(assignEach es X.env).findIdx? (·.1)=none:=by rfl):QG X (.Tuple es j pos) (LG X.K (gT n g)):=⟨Qq (hc:=hc) (h:=h.pe) (hn:=hn) (hst:=hst)⟩
end
section
variable {X:Cx}{st:Stmt}{rest body orelse:List Stmt}{t u b:DS}{e c tg iter:Expr}{f:DE}{tc:DT}{pos:Pos}
theorem sE{g:DG}(he:QE X e (LE X.K f))(hg:QG X tg (LG X.K g))(hs:swapsWithSole [tg] e pos.line X.env=pure false:=by rfl)(hw:swappedStores [tg] e X.env=pure none:=by rfl)(h1:(assignEach [tg] X.env).map (·.2)=[assign tg X.env]:=by rfl):QS X (.Assign [tg] e pos) (LS X.K (lL f g)):=⟨DM (he:=he.pe) (hg:=hg.pe) (hs:=hs) (hw:=hw) (h1:=h1)⟩
end
section
variable {X:Cx}{st:Stmt}{rest body orelse:List Stmt}{t u b:DS}{e c tg iter:Expr}{f:DE}{tc:DT}{pos:Pos}
theorem Ri(i j:Nat){x y:Str}{a b:Expr}{g:DA}{px py pt:Pos}{kt k2 pt2}(hc:X.calm=true)(hN:X.N.Nodup)(ha:QA X [a,b] (LA X.K g))(hi:X.N[i]?=some x:=by rfl)(hj:X.N[j]?=some y:=by rfl)(hij:i≠j:=by decide)(hx:X.env.scope.names.lookup x=some .local:=by rfl)(hy:X.env.scope.names.lookup y=some .local:=by rfl)(hw:swappedStores [.Tuple [.Name x px,.Name y py] kt pt] (.Tuple [a,b] k2 pt2) X.env=pure (some [x,y]):=by rfl)(hs:swapsWithSole [.Tuple [.Name x px,.Name y py] kt pt] (.Tuple [a,b] k2 pt2) pos.line X.env=pure false:=by rfl):QS X (.Assign [.Tuple [.Name x px,.Name y py] kt pt] (.Tuple [a,b] k2 pt2) pos) (LS X.K (Dh i j g)):=⟨Re (i:=i) (j:=j) (hc:=hc) (hN:=hN) (ha:=ha.pe) (hi:=hi) (hj:=hj) (hij:=hij) (hx:=hx) (hy:=hy) (hw:=hw) (hs:=hs)⟩
end
section
variable {X:Cx}{st:Stmt}{rest body orelse:List Stmt}{t u b:DS}{e c tg iter:Expr}{f:DE}{tc:DT}{pos:Pos}
theorem tN{o i:Expr}{fo fi:DE}{tpos:Pos}(he:QE X e (LE X.K f))(ho:QE X o (LE X.K fo))(hi:QE X i (LE X.K fi))(ha:∀ v,assign (.Subscript o i tpos) X.env v=(do
   let ov <- holding [v] (eval o X.env)
   let iv <- holding [v,ov] (eval i X.env)
   standAt tpos
   holding [v,ov,iv] (setItem ov iv v)
   release [v,ov,iv] []):=by intro _;rfl) (hs:swapsWithSole [.Subscript o i tpos] e pos.line X.env=pure false:=by rfl) (hw:swappedStores [.Subscript o i tpos] e X.env=pure none:=by rfl) (h1:(assignEach [.Subscript o i tpos] X.env).map (·.2)=[assign (.Subscript o i tpos) X.env]:=by rfl):QS X (.Assign [.Subscript o i tpos] e pos) (LS X.K (nO fo fi f)):=⟨Xk (he:=he.pe) (ho:=ho.pe) (hi:=hi.pe) (ha:=ha) (hs:=hs) (hw:=hw) (h1:=h1)⟩
end
section
variable {X:Cx}{st:Stmt}{rest body orelse:List Stmt}{t u b:DS}{e c tg iter:Expr}{f:DE}{tc:DT}{pos:Pos}
theorem R3(hp:PassesOwn (model X.prog X.w) X.A X.env X.xe)(hc:QT X c (LT X.K tc))(hb:QSs X body (LS X.K b)):QS X (.While c body [] pos) (LS X.K (As tc b)):=⟨D8 (hp:=hp) (hc:=hc.pe) (hb:=hb.pe)⟩
end
section
variable {X:Cx}{st:Stmt}{rest body orelse:List Stmt}{t u b:DS}{e c tg iter:Expr}{f:DE}{tc:DT}{pos:Pos}
theorem cT(ha:QE X e (LE X.K f)):QI X tg e (LI X.K (cF f)):=⟨W6 (ha:=ha.pe)⟩
end
section
variable {X:Cx}{st:Stmt}{rest body orelse:List Stmt}{t u b:DS}{e c tg iter:Expr}{f:DE}{tc:DT}{pos:Pos}
theorem kC{p:Pos}(hg:Gl X "range")(hm:X.mg "range"=none)(ha:QE X e (LE X.K f))(hs:starEach [e] X.env=[(false,eval e X.env)]:=by rfl):QI X tg (.Call (.Name "range" p) [e] [] pos) (LI X.K (iE f)):=⟨Vw (hg:=hg) (hm:=hm) (ha:=ha.pe) (hs:=hs)⟩
end
section
variable {X:Cx}{st:Stmt}{rest body orelse:List Stmt}{t u b:DS}{e c tg iter:Expr}{f:DE}{tc:DT}{pos:Pos}
theorem gI{fi:DI}{g:DG}(hp:PassesOwn (model X.prog X.w) X.A X.env X.xe)(hc:X.calm=true)(hi:QI X tg iter (LI X.K fi))(hg:QG X tg (LG X.K g))(hb:QSs X body (LS X.K b))(hs:∀ x,foldedSetIterable iter X.env x=pure x:=by intro _;rfl):QS X (.For tg iter body [] pos) (LS X.K (fS fi g b)):=⟨CZ (hp:=hp) (hc:=hc) (hi:=hi.pe) (hg:=hg.pe) (hb:=hb.pe) (hs:=hs)⟩
end
section
variable {X:Cx}{a e:Expr}{es:List Expr}{f:DE}{ga:DA}{pos p p1 p2 p3 p4:Pos}
theorem Wf{j:Nat}(ha:QE X a (LE X.K f)):QE X (.Subscript a (.Slice none none (some (.UnaryOp .USub (.Constant (.int 1) j p3) p4)) p2) pos) (LE X.K (Ar f)):=⟨EE (ha:=ha.pe)⟩
end
section
variable {X:Cx}{a e:Expr}{es:List Expr}{f:DE}{ga:DA}{pos p p1 p2 p3 p4:Pos}
theorem H0{k n:Nat}{fa:Addr}{fd:FuncData}{ps:List Str}{sp:DC}{x:Str}(F:FnOk X.prog X.w X.K X.mg X.base fU k fa fd ps (LSp X.K n sp))(hr:Room k X.A)(hm:X.mg x=some (.ref fa))(hk:PySem.W.keepIn X.K (.ref fa)=true)(hb:Binds X.K fd ps [])(hx:X.xe=fun _ _=>False)(ha:QA X (e::es) (LA X.K ga))(hg:Gl X x:=by rfl)(hdb:(x==("__debug__" : Str))=false:=by decide)(he:starEach (e::es) X.env=(false,eval e X.env)::starEach es X.env:=by rfl)(hpl:(backTo pos (starEach es X.env)).any (·.1)=false:=by rfl):QE X (.Call (.Name x p) (e::es) [] pos) (LE X.K (aP n sp ga)):=⟨EG (F:=F) (hr:=hr) (hm:=hm) (hk:=hk) (hb:=hb) (hx:=hx) (ha:=ha.pe) (hg:=hg) (hdb:=hdb) (he:=he) (hpl:=hpl)⟩
end
section
theorem eP{Y:Cx}:QF Y [] (LT Y.K cC):=⟨E6 ⟩
end
section
theorem kA{Y:Cx}{c:Expr}{t:TT}(h:QT Y c t):QF Y [c] t:=⟨a8 (h:=h.pe)⟩
end
section
variable {X:Cx}{tg iter elt:Expr}{ifs:List Expr}{scope:Scope}{fi:DI}{g:DG}{t:DT}{f:DE}{pos:Pos}
theorem fQ(NC:List Str)(src:List (Option Nat))(hc:X.calm=true)(hi:QI X tg iter (LI X.K fi))(hg:∀ cl C s2 H2 pins fp,QG (bJ X scope cl C NC s2 H2 pins fp) tg (LG X.K g))(ht:∀ cl C s2 H2 pins fp,QF (bJ X scope cl C NC s2 H2 pins fp) ifs (LT X.K t))(he:∀ cl C s2 H2 pins fp,QE (bJ X scope cl C NC s2 H2 pins fp) elt (LE X.K f))(hkind:scope.kind=.function:=by rfl)(hB:chkB scope X.env=true:=by rfl)(hS:chkS X.N scope X.env NC src=true:=by rfl)(hs:∀ x,foldedSetIterable iter X.env x=pure x:=by intro _;rfl):QE X (.ListComp elt [⟨tg,iter,ifs,0⟩] scope pos) (LE X.K (cS src fi g t f)):=⟨Se (NC:=NC) (src:=src) (hc:=hc) (hi:=hi.pe) (hg:=fun cl C s2 H2 pins fp=>(hg cl C s2 H2 pins fp).pe) (ht:=fun cl C s2 H2 pins fp=>(ht cl C s2 H2 pins fp).pe) (he:=fun cl C s2 H2 pins fp=>(he cl C s2 H2 pins fp).pe) (hkind:=hkind) (hB:=hB) (hS:=hS) (hs:=hs)⟩
end
section
variable {X:Cx}{tg iter elt:Expr}{ifs:List Expr}{scope:Scope}{fi:DI}{g:DG}{t:DT}{f:DE}{pos:Pos}
theorem Ml(NC:List Str)(src:List (Option Nat))(hc:X.calm=true)(hi:QI X tg iter (LI X.K fi))(hg:∀ cl C s2 H2 pins fp,QG (bJ X scope cl C NC s2 H2 pins fp) tg (LG X.K g))(ht:∀ cl C s2 H2 pins fp,QF (bJ X scope cl C NC s2 H2 pins fp) ifs (LT X.K t))(he:∀ cl C s2 H2 pins fp,QE (bJ X scope cl C NC s2 H2 pins fp) elt (LE X.K f))(hkind:scope.kind=.function:=by rfl)(hB:chkB scope X.env=true:=by rfl)(hS:chkS X.N scope X.env NC src=true:=by rfl)(hs:∀ x,foldedSetIterable iter X.env x=pure x:=by intro _;rfl):QE X (.ListComp elt [⟨tg,iter,ifs,0⟩] scope pos) (LE X.K (jW src fi g t f)):=⟨l5 (NC:=NC) (src:=src) (hc:=hc) (hi:=hi.pe) (hg:=fun cl C s2 H2 pins fp=>(hg cl C s2 H2 pins fp).pe) (ht:=fun cl C s2 H2 pins fp=>(ht cl C s2 H2 pins fp).pe) (he:=fun cl C s2 H2 pins fp=>(he cl C s2 H2 pins fp).pe) (hkind:=hkind) (hB:=hB) (hS:=hS) (hs:=hs)⟩
end
section
variable {X:Cx}{tg iter elt:Expr}{ifs:List Expr}{scope:Scope}{fi:DI}{g:DG}{t:DT}{f:DE}{pos:Pos}
theorem kN(i:Nat){y:Str}{py spos:Pos}(NC:List Str)(src:List (Option Nat))(hc:X.calm=true)(hN:X.N.Nodup)(hi:QI X tg iter (LI X.K fi))(hg:∀ cl C s2 H2 pins fp,QG (bJ X scope cl C NC s2 H2 pins fp) tg (LG X.K g))(ht:∀ cl C s2 H2 pins fp,QF (bJ X scope cl C NC s2 H2 pins fp) ifs (LT X.K t))(he:∀ cl C s2 H2 pins fp,QE (bJ X scope cl C NC s2 H2 pins fp) elt (LE X.K f))(hkind:scope.kind=.function:=by rfl)(hB:chkB scope X.env=true:=by rfl)(hS:chkS X.N scope X.env NC src=true:=by rfl)(hi2:X.N[i]?=some y:=by rfl)(hx:gG X.env.scope y:=by first | exact Or.inl rfl | exact Or.inr rfl)(hf:X.fn y=true\/X.env.scope.names.lookup y=some .local:=by first | exact .inl rfl | exact .inr rfl)(hsw:swapsWith (.ListComp elt [⟨tg,iter,ifs,0⟩] scope pos) (some (.Name y py)) spos.line X.env=pure true:=by rfl)(hs:∀ x,foldedSetIterable iter X.env x=pure x:=by intro _;rfl):QS X (.Assign [.Name y py] (.ListComp elt [⟨tg,iter,ifs,0⟩] scope pos) spos) (LS X.K (aO i (cS src fi g t f))):=⟨FX (i:=i) (NC:=NC) (src:=src) (hc:=hc) (hN:=hN) (hi:=hi.pe) (hg:=fun cl C s2 H2 pins fp=>(hg cl C s2 H2 pins fp).pe) (ht:=fun cl C s2 H2 pins fp=>(ht cl C s2 H2 pins fp).pe) (he:=fun cl C s2 H2 pins fp=>(he cl C s2 H2 pins fp).pe) (hkind:=hkind) (hB:=hB) (hS:=hS) (hi2:=hi2) (hx:=hx) (hf:=hf) (hsw:=hsw) (hs:=hs)⟩
end
section
variable {X:Cx}{a e o:Expr}{es:List Expr}{f g:DE}{ga:DA}{pos p p1 p2:Pos}
theorem rB{apos cpos:Pos}(ho:QE X o (LE X.K f))(he:QE X e (LE X.K g))(hbase:attributeBase o "append" X.env (eval o X.env)=eval o X.env:=by rfl)(hfew:((backTo cpos (starEach [e] X.env)).all (fun x=>!x.1)&&(backToKw cpos (keywordEach [] X.env)).all (fun x=>x.1.isSome)&&decide ([e].length+([]:List Keyword).length+(if ([]:List Keyword).isEmpty then 0 else 1)<30))=true:=by rfl)(hline:(apos.endLine==cpos.line)=true:=by rfl)(hs:starEach [e] X.env=(false,eval e X.env)::starEach [] X.env:=by rfl):QE X (.Call (.Attribute o "append" apos) [e] [] cpos) (LE X.K (mV f g)):=⟨U0 (ho:=ho.pe) (he:=he.pe) (hbase:=hbase) (hfew:=hfew) (hline:=hline) (hs:=hs)⟩
end
section
variable {X:Cx}{a e o:Expr}{es:List Expr}{f g:DE}{ga:DA}{pos p p1 p2:Pos}
theorem fY{lo hi:Option Expr}{tl th:DO}(ha:QE X a (LE X.K f))(hl:QO X lo (LO X.K tl))(hu:QO X hi (LO X.K th)):QE X (.Subscript a (.Slice lo hi none p2) pos) (LE X.K (fI f tl th)):=⟨Xu (ha:=ha.pe) (hl:=hl.pe) (hu:=hu.pe)⟩
end
section
variable {X:Cx}{o i e:Expr}{fo fi f:DE}{pos tpos:Pos}
theorem Q5  : QE X (.Dict [] [] pos) (LE X.K Cn):=⟨u4 ⟩
end
section
variable {X:Cx}{o i e:Expr}{fo fi f:DE}{pos tpos:Pos}
theorem Wb(hu:X.A.units+100<cLine)(he:QE X e (LE X.K f))(ho:QE X o (LE X.K fo))(hi:QE X i (LE X.K fi))(hs:swapsWith e (some (.Subscript o i tpos)) pos.line X.env=pure false:=by rfl):QS X (.Assign [.Subscript o i tpos] e pos) (LS X.K (Ay fo fi f)):=⟨J7 (hu:=hu) (he:=he.pe) (ho:=ho.pe) (hi:=hi.pe) (hs:=hs)⟩
end
section
variable {X:Cx}{o i e:Expr}{fo fi f:DE}{pos tpos:Pos}
theorem Nu(hu:X.A.units+100<cLine)(ho:QE X o (LE X.K fo))(hi:QE X i (LE X.K fi))(hs:nH i:=by exact fun _ _=>rfl):QE X (.Subscript o i pos) (LE X.K (tE fo fi)):=⟨B6 (hu:=hu) (ho:=ho.pe) (hi:=hi.pe) (hs:=hs)⟩
end
section
variable {X:Cx}{i e g:Expr}{fi f fg:DE}{p pos apos cpos:Pos}
theorem Qm{x:Str}{c:Addr}{kvs:List (Str×PyData)}(hg:Gl X x)(hm:X.mg x=some (.ref c))(hk:KD X.K X.w c kvs)(he:QE X e (LE X.K fi))(hf:QE X g (LE X.K fg))(hd:(x==("__debug__" : Str))=false:=by decide)(hbase:attributeBase (.Name x p) "get" X.env (eval (.Name x p) X.env)=eval (.Name x p) X.env:=by rfl)(hfew:((backTo cpos (starEach [e,g] X.env)).all (fun x=>!x.1)&&(backToKw cpos (keywordEach [] X.env)).all (fun x=>x.1.isSome)&&decide (([e,g]:List Expr).length+([]:List Keyword).length+(if ([]:List Keyword).isEmpty then 0 else 1)<30))=true:=by rfl)(hline:(apos.endLine==cpos.line)=true:=by rfl)(hs:backTo cpos (starEach [e,g] X.env)=[(false,eval e X.env),(false,eval g X.env)]:=by rfl):QE X (.Call (.Attribute (.Name x p) "get" apos) [e,g] [] cpos) (LE X.K (xP kvs fi fg)):=⟨W1 (hg:=hg) (hm:=hm) (hk:=hk) (he:=he.pe) (hf:=hf.pe) (hd:=hd) (hbase:=hbase) (hfew:=hfew) (hline:=hline) (hs:=hs)⟩
end
section
variable {X:Cx}{e g:Expr}{f fg:DE}{tg:Expr}{pos:Pos}
theorem FY{p:Pos}(hg:Gl X "range")(hm:X.mg "range"=none)(ha:QE X e (LE X.K f))(hb:QE X g (LE X.K fg))(hs:starEach [e,g] X.env=[(false,eval e X.env),(false,eval g X.env)]:=by rfl)(hs2:starEach [g] X.env=[(false,eval g X.env)]:=by rfl):QI X tg (.Call (.Name "range" p) [e,g] [] pos) (LI X.K (yZ f fg)):=⟨CH (hg:=hg) (hm:=hm) (ha:=ha.pe) (hb:=hb.pe) (hs:=hs) (hs2:=hs2)⟩
end
section
variable {X:Cx}{e:Expr}{f:DE}{pos p:Pos}
theorem C0(hc:X.calm=true)(hg:Gl X "dict")(hm:X.mg "dict"=none)(he:QE X e (LE X.K f))(hs:starEach [e] X.env=[(false,eval e X.env)]:=by rfl):QE X (.Call (.Name "dict" p) [e] [] pos) (LE X.K (yI f)):=⟨U9 (hc:=hc) (hg:=hg) (hm:=hm) (he:=he.pe) (hs:=hs)⟩
end
section
variable {X:Cx}{o e:Expr}{f g:DE}{apos cpos:Pos}
theorem h9(ho:QE X o (LE X.K f))(he:QE X e (LE X.K g))(hbase:attributeBase o "index" X.env (eval o X.env)=eval o X.env:=by rfl)(hfew:((backTo cpos (starEach [e] X.env)).all (fun x=>!x.1)&&(backToKw cpos (keywordEach [] X.env)).all (fun x=>x.1.isSome)&&decide ([e].length+([]:List Keyword).length+(if ([]:List Keyword).isEmpty then 0 else 1)<30))=true:=by rfl)(hline:(apos.endLine==cpos.line)=true:=by rfl)(hs:backTo cpos (starEach [e] X.env)=[(false,eval e X.env)]:=by rfl):QE X (.Call (.Attribute o "index" apos) [e] [] cpos) (LE X.K (zG f g)):=⟨V1 (ho:=ho.pe) (he:=he.pe) (hbase:=hbase) (hfew:=hfew) (hline:=hline) (hs:=hs)⟩
end
section
variable {X:Cx}{a b:Expr}{f g:DE}{pos p p2 pos2:Pos}
theorem I0(hc:X.calm=true)(hg:Gl X "tuple")(hm:X.mg "tuple"=none)(hg2:Gl X "zip")(hm2:X.mg "zip"=none)(ha:QE X a (LE X.K f))(hb:QE X b (LE X.K g))(hs:starEach [a,b] X.env=[(false,eval a X.env),(false,eval b X.env)]:=by rfl)(hs2:starEach [b] X.env=[(false,eval b X.env)]:=by rfl)(hs3:starEach [.Call (.Name "zip" p2) [a,b] [] pos2] X.env=[(false,eval (.Call (.Name "zip" p2) [a,b] [] pos2) X.env)]:=by rfl):QE X (.Call (.Name "tuple" p) [.Call (.Name "zip" p2) [a,b] [] pos2] [] pos) (LE X.K (xD f g)):=⟨F9 (hc:=hc) (hg:=hg) (hm:=hm) (hg2:=hg2) (hm2:=hm2) (ha:=ha.pe) (hb:=hb.pe) (hs:=hs) (hs2:=hs2) (hs3:=hs3)⟩
end
section
variable {X:Cx}{o e:Expr}{f g:DE}
theorem Je{apos cpos:Pos}(ho:QE X o (LE X.K f))(he:QE X e (LE X.K g))(hbase:attributeBase o "extend" X.env (eval o X.env)=eval o X.env:=by rfl)(hfew:((backTo cpos (starEach [e] X.env)).all (fun x=>!x.1)&&(backToKw cpos (keywordEach [] X.env)).all (fun x=>x.1.isSome)&&decide ([e].length+([]:List Keyword).length+(if ([]:List Keyword).isEmpty then 0 else 1)<30))=true:=by rfl)(hline:(apos.endLine==cpos.line)=true:=by rfl)(hs:starEach [e] X.env=(false,eval e X.env)::starEach [] X.env:=by rfl):QE X (.Call (.Attribute o "extend" apos) [e] [] cpos) (LE X.K (sV f g)):=⟨L1 (ho:=ho.pe) (he:=he.pe) (hbase:=hbase) (hfew:=hfew) (hline:=hline) (hs:=hs)⟩
end
section
variable {X:Cx}{o e:Expr}{f g:DE}
theorem Ck{apos cpos:Pos}(ho:QE X o (LE X.K f))(he:QE X e (LE X.K g))(hbase:attributeBase o "pop" X.env (eval o X.env)=eval o X.env:=by rfl)(hfew:((backTo cpos (starEach [e] X.env)).all (fun x=>!x.1)&&(backToKw cpos (keywordEach [] X.env)).all (fun x=>x.1.isSome)&&decide ([e].length+([]:List Keyword).length+(if ([]:List Keyword).isEmpty then 0 else 1)<30))=true:=by rfl)(hline:(apos.endLine==cpos.line)=true:=by rfl)(hs:starEach [e] X.env=(false,eval e X.env)::starEach [] X.env:=by rfl):QE X (.Call (.Attribute o "pop" apos) [e] [] cpos) (LE X.K (rZ f g)):=⟨AV (ho:=ho.pe) (he:=he.pe) (hbase:=hbase) (hfew:=hfew) (hline:=hline) (hs:=hs)⟩
end
section
variable {X:Cx}{pos:Pos}
theorem Hx  : QD X pos [] [] []:=⟨Qy ⟩
end
section
variable {X:Cx}{pos:Pos}
theorem mK{k v:Expr}{ks:List (Option Expr)}{vs:List Expr}{fk fv:DE}{ps:List (DE×DE)}(hk:QE X k (LE X.K fk))(hv:QE X v (LE X.K fv))(hr:QD X pos ks vs ps):QD X pos (some k::ks) (v::vs) ((fk,fv)::ps):=⟨CQ (hk:=hk.pe) (hv:=hv.pe) (hr:=hr.pe)⟩
end
section
variable {X:Cx}{pos:Pos}
theorem Ou{keys:List (Option Expr)}{values:List Expr}{ps:List (DE×DE)}(h:QD X pos keys values ps)(hall:keys.all (·.isSome)=true:=by rfl)(hl:keys.length=values.length:=by rfl)(h0:keys≠[]:=by exact List.cons_ne_nil _ _)(h15:keys.length<=15:=by decide):QE X (.Dict keys values pos) (LE X.K (uX ps)):=⟨A5 (h:=h.pe) (hall:=hall) (hl:=hl) (h0:=h0) (h15:=h15)⟩
end
section
variable {X:Cx}{pos:Pos}
variable {o e:Expr}{f g:DE}
theorem Zm{apos cpos:Pos}(ho:QE X o (LE X.K f))(he:QE X e (LE X.K g))(M:M1 X o "update" apos e cpos:=by exact⟨by rfl,by rfl,by rfl,by rfl⟩):QE X (.Call (.Attribute o "update" apos) [e] [] cpos) (LE X.K (Bn f g)):=⟨Uf (ho:=ho.pe) (he:=he.pe) (M:=M)⟩
end
section
variable {X:Cx}{e:Expr}{f:DE}{pos p p2 pos2:Pos}
theorem i9(hc:X.calm=true)(hg:Gl X "list")(hm:X.mg "list"=none)(hg2:Gl X "range")(hm2:X.mg "range"=none)(he:QE X e (LE X.K f))(hs:starEach [e] X.env=[(false,eval e X.env)]:=by rfl)(hs2:starEach [.Call (.Name "range" p2) [e] [] pos2] X.env=[(false,eval (.Call (.Name "range" p2) [e] [] pos2) X.env)]:=by rfl):QE X (.Call (.Name "list" p) [.Call (.Name "range" p2) [e] [] pos2] [] pos) (LE X.K (xU f)):=⟨Ro (hc:=hc) (hg:=hg) (hm:=hm) (hg2:=hg2) (hm2:=hm2) (he:=he.pe) (hs:=hs) (hs2:=hs2)⟩
end
section
variable {X:Cx}{o i e:Expr}{fo fi f:DE}{pos tpos:Pos}
theorem FU  : QE X (.Dict [] [] pos) (LE X.K wB):=⟨b9 ⟩
end
section
variable {X:Cx}{o i e:Expr}{fo fi f:DE}{pos tpos:Pos}
theorem Oi(hu:X.A.units+100<cLine)(ho:QE X o (LE X.K fo))(hi:QE X i (LE X.K fi))(hs:nH i:=by exact fun _ _=>rfl):QE X (.Subscript o i pos) (LE X.K (tU fo fi)):=⟨A0 (hu:=hu) (ho:=ho.pe) (hi:=hi.pe) (hs:=hs)⟩
end
section
variable {X:Cx}{o i e:Expr}{fo fi f:DE}{pos tpos:Pos}
theorem CS(hu:X.A.units+100<cLine)(he:QE X e (LE X.K f))(ho:QE X o (LE X.K fo))(hi:QE X i (LE X.K fi))(hs:swapsWith e (some (.Subscript o i tpos)) pos.line X.env=pure false:=by rfl):QS X (.Assign [.Subscript o i tpos] e pos) (LS X.K (Ae fo fi f)):=⟨Q8 (hu:=hu) (he:=he.pe) (ho:=ho.pe) (hi:=hi.pe) (hs:=hs)⟩
end
section
variable {X:Cx}{o e:Expr}{f g:DE}{pos:Pos}
theorem e6{apos cpos:Pos}(ho:QE X o (LE X.K f))(he:QE X e (LE X.K g))(hbase:attributeBase o "extend" X.env (eval o X.env)=eval o X.env:=by rfl)(hfew:((backTo cpos (starEach [e] X.env)).all (fun x=>!x.1)&&(backToKw cpos (keywordEach [] X.env)).all (fun x=>x.1.isSome)&&decide ([e].length+([]:List Keyword).length+(if ([]:List Keyword).isEmpty then 0 else 1)<30))=true:=by rfl)(hline:(apos.endLine==cpos.line)=true:=by rfl)(hs:starEach [e] X.env=(false,eval e X.env)::starEach [] X.env:=by rfl):QE X (.Call (.Attribute o "extend" apos) [e] [] cpos) (LE X.K (vV f g)):=⟨FR (ho:=ho.pe) (he:=he.pe) (hbase:=hbase) (hfew:=hfew) (hline:=hline) (hs:=hs)⟩
end
section
variable {X:Cx}{elt tg:Expr}{ifs:List Expr}{scope:Scope}{NC:List Str}{g:DG}{t:DT}{f:DE}{pos npos:Pos}
theorem w9(i:Nat){x:Str}(NC:List Str)(src:List (Option Nat))(hc:X.calm=true)(hg:∀ cl C s2 H2 pins fp,QG (bJ X scope cl C NC s2 H2 pins fp) tg (LG X.K g))(ht:∀ cl C s2 H2 pins fp,QF (bJ X scope cl C NC s2 H2 pins fp) ifs (LT X.K t))(he:∀ cl C s2 H2 pins fp,QE (bJ X scope cl C NC s2 H2 pins fp) elt (LE X.K f))(hN:X.N[i]?=some x:=by rfl)(hv:iX X.env.scope x:=by first | exact Or.inl rfl | exact Or.inr (Or.inl rfl) | exact Or.inr (Or.inr rfl))(hd:(x==("__debug__" : Str))=false:=by decide)(hcd:(x==("__classdict__" : Str))=false:=by decide)(hkind:scope.kind=.function:=by rfl)(hB:chkB scope X.env=true:=by rfl)(hS:chkS X.N scope X.env NC src=true:=by rfl)(hs:∀ v,foldedSetIterable (.Name x npos) X.env v=pure v:=by intro _;rfl):QE X (.ListComp elt [⟨tg,.Name x npos,ifs,0⟩] scope pos) (LE X.K (Cw i src g t f)):=⟨w6 (i:=i) (NC:=NC) (src:=src) (hc:=hc) (hg:=fun cl C s2 H2 pins fp=>(hg cl C s2 H2 pins fp).pe) (ht:=fun cl C s2 H2 pins fp=>(ht cl C s2 H2 pins fp).pe) (he:=fun cl C s2 H2 pins fp=>(he cl C s2 H2 pins fp).pe) (hN:=hN) (hv:=hv) (hd:=hd) (hcd:=hcd) (hkind:=hkind) (hB:=hB) (hS:=hS) (hs:=hs)⟩
end
section
variable {X:Cx}{elt tg iter:Expr}{ifs:List Expr}{scope:Scope}{NC:List Str}{fi:DI}{g:DG}{t:DT}{f:DE}{pos:Pos}
theorem i7(i:Nat){y:Str}{py spos:Pos}(NC:List Str)(src:List (Option Nat))(hc:X.calm=true)(hN:X.N.Nodup)(hi:QI X tg iter (LI X.K fi))(hg:∀ cl C s2 H2 pins fp,QG (bJ X scope cl C NC s2 H2 pins fp) tg (LG X.K g))(ht:∀ cl C s2 H2 pins fp,QF (bJ X scope cl C NC s2 H2 pins fp) ifs (LT X.K t))(he:∀ cl C s2 H2 pins fp,QE (bJ X scope cl C NC s2 H2 pins fp) elt (LE X.K f))(hkind:scope.kind=.function:=by rfl)(hB:chkB scope X.env=true:=by rfl)(hS:chkS X.N scope X.env NC src=true:=by rfl)(hi2:X.N[i]?=some y:=by rfl)(hx:gG X.env.scope y:=by first | exact Or.inl rfl | exact Or.inr rfl)(hf:X.fn y=true\/X.env.scope.names.lookup y=some .local:=by first | exact .inl rfl | exact .inr rfl)(hsw:swapsWith (.ListComp elt [⟨tg,iter,ifs,0⟩] scope pos) (some (.Name y py)) spos.line X.env=pure true:=by rfl)(hs:∀ x,foldedSetIterable iter X.env x=pure x:=by intro _;rfl):QS X (.Assign [.Name y py] (.ListComp elt [⟨tg,iter,ifs,0⟩] scope pos) spos) (LS X.K (aO i (jW src fi g t f))):=⟨Py (i:=i) (NC:=NC) (src:=src) (hc:=hc) (hN:=hN) (hi:=hi.pe) (hg:=fun cl C s2 H2 pins fp=>(hg cl C s2 H2 pins fp).pe) (ht:=fun cl C s2 H2 pins fp=>(ht cl C s2 H2 pins fp).pe) (he:=fun cl C s2 H2 pins fp=>(he cl C s2 H2 pins fp).pe) (hkind:=hkind) (hB:=hB) (hS:=hS) (hi2:=hi2) (hx:=hx) (hf:=hf) (hsw:=hsw) (hs:=hs)⟩
end
section
variable {X:Cx}{e:Expr}{f:DE}{pos p:Pos}
theorem K7(hu:X.A.units+100<cLine)(hc:X.calm=true)(hg:Gl X "dict")(hm:X.mg "dict"=none)(he:QE X e (LE X.K f))(hs:starEach [e] X.env=[(false,eval e X.env)]:=by rfl):QE X (.Call (.Name "dict" p) [e] [] pos) (LE X.K (Cu f)):=⟨W4 (hu:=hu) (hc:=hc) (hg:=hg) (hm:=hm) (he:=he.pe) (hs:=hs)⟩
end
section
variable {X:Cx}{e:Expr}{f:DE}{pos p pos2 p2:Pos}
theorem So(hc:X.calm=true)(hg:Gl X "sorted")(hm:X.mg "sorted"=none)(hg2:Gl X "set")(hm2:X.mg "set"=none)(he:QE X e (LE X.K f))(hs:starEach [e] X.env=[(false,eval e X.env)]:=by rfl)(hs2:starEach [.Call (.Name "set" p2) [e] [] pos2] X.env=[(false,eval (.Call (.Name "set" p2) [e] [] pos2) X.env)]:=by rfl):QE X (.Call (.Name "sorted" p) [.Call (.Name "set" p2) [e] [] pos2] [] pos) (LE X.K (xY f)):=⟨R1 (hc:=hc) (hg:=hg) (hm:=hm) (hg2:=hg2) (hm2:=hm2) (he:=he.pe) (hs:=hs) (hs2:=hs2)⟩
end
section
variable {P:Program}{w:World}{K:PySem.W.Frag}{mg:Str->Option Value}{base:Heap}
theorem ET{x qual:Str}{st:Stmt}{fa:Addr}{fd:FuncData}{N ps:List Str}{k:Nat}{sp:DC}{body:DS}(F:Fun K x qual st fa fd)(S:FnScope N ps (bP st))
  (hb:∀ (cdv:Value) (A:Around) (outer:List Env) (s:Shared) (H:Hp) (E:XK),Room k (A.deeper (envOfC qual (bP st) s.heap.objs.size fa cdv))->QSs (kD fU P w K mg base N qual (bP st) fa cdv A outer s H E).nox (jI st) (LS K body))
  (hv:∀ ds m R,ds.length=ps.length->sp ds m R->body {nx:=fun _ m=>R (.dat .none) m,rt:=R} (bY N ds) m):FnOk P w K mg base fU (k+1) fa fd ps (LSp K ps.length sp):=j1 F S (fun cdv A outer s H E hr=>(hb cdv A outer s H E hr).pe) hv
end
end DL
namespace DL
open PySem PySem.Spec PyProof.Rows L2
section
variable {P:Program}{w:World}{K:PySem.W.Frag}{mg:Str->Option Value}{base:Heap}
def Df(K:PySem.W.Frag)(mg:Str->Option Value)(nm:Str)(st:Stmt)(a:Addr):Prop:=∃ fd,Fun K nm nm st a fd/\mg nm=some (.ref a)
def aS(P:Program)(w:World)(K:PySem.W.Frag)(mg:Str->Option Value)(base:Heap)(nm:Str)(st:Stmt)(a:Addr)(ps:List Str)(k:Nat)(sp:DC):Prop :=
 ∃ fd,Fun K nm nm st a fd/\Binds K fd ps []/\mg nm=some (.ref a)/\FnOk P w K mg base fU k a fd ps (LSp K ps.length sp)
abbrev cJ(ps N:List Str)(sp:DC)(b:DS):Prop:=∀ ds m R,ds.length=ps.length->sp ds m R->b {nx:=fun _ m=>R (.dat .none) m,rt:=R} (bY N ds) m
abbrev Cm(nm:Str)(st:Stmt)(ps:List Str):Prop:=∀ (kV doc pm:Value) (an:Option Addr) (cdv ct:Value) (us:List Value),us.length=ps.length->bindArgs (PySem.W.fnOf nm nm (oQ st) (jI st) (bP st) .none kV doc pm an cdv ct) ⟨us,[]⟩=pure (ps.zip us)
theorem cK{nm:Str}{st:Stmt}{a:Addr}{N ps:List Str}{k:Nat}{sp:DC}{body:DS}(D:Df K mg nm st a)(hb:Cm nm st ps)(S:FnScope N ps (bP st))
  (hq:∀ (cdv:Value) (A:Around) (outer:List Env) (s:Shared) (H:Hp) (E:XK),Room k (A.deeper (envOfC nm (bP st) s.heap.objs.size a cdv))->N.Nodup->QSs (kD fU P w K mg base N nm (bP st) a cdv A outer s H E).nox (jI st) (LS K body))
  (hv:cJ ps N sp body):aS P w K mg base nm st a ps (k+1) sp:=by
 obtain⟨fd,F,M⟩:=D;exact⟨fd,F,F.binds hb,M,ET F S (fun cdv A outer s H E hr=>hq cdv A outer s H E hr S.nd) hv⟩
theorem vE{nm:Str}{st:Stmt}{a:Addr}{ps:List Str}{k:Nat}{sp:DC}(D:Df K mg nm st a)(hb:Cm nm st ps)(h:∀ ds m R,sp ds m R->False):aS P w K mg base nm st a ps k sp:=by
 obtain⟨fd,F,M⟩:=D;exact⟨fd,F,F.binds hb,M,Uy h⟩
end
section
variable {X:Cx}{pos p:Pos}{nm:Str}{st:Stmt}{a:Addr}{ps:List Str}{k:Nat}{sp:DC}
theorem aU{e:Expr}{es:List Expr}{ga:DA}(C:aS X.prog X.w X.K X.mg X.base nm st a ps k sp)(hr:Room k X.A)(hx:X.xe=fun _ _=>False)(ha:QA X (e::es) (LA X.K ga))(hg:Gl X nm:=by rfl)(hdb:(nm==("__debug__" : Str))=false:=by decide)(he:starEach (e::es) X.env=(false,eval e X.env)::starEach es X.env:=by rfl)(hpl:(backTo pos (starEach es X.env)).any (·.1)=false:=by rfl) :
  QE X (.Call (.Name nm p) (e::es) [] pos) (LE X.K (aP ps.length sp ga)):=by
 obtain⟨fd,F,B,M,C⟩:=C;exact H0 C hr M F.kp B hx ha hg hdb he hpl
end
section
variable {K:PySem.W.Frag}{h:Heap}{mg:Str->Option Value}
def Hw(K:PySem.W.Frag)(d:Str×Stmt×Addr):Prop:=PySem.W.nsIn K mainGlobals d.1=some (some (.ref d.2.2))/\∃ fd,Fun K d.1 d.1 d.2.1 d.2.2 fd
theorem di{nm:Str}{st:Stmt}{f:Addr}{oc:Value}{od an:Option Addr}{osl:Array (Option Value)}{kV doc pm cdv ct:Value}(n:PySem.W.nsIn K mainGlobals nm=some (some (.ref f)))(l:K.lookup f=some ⟨oc,od,.func (PySem.W.fnOf nm nm (oQ st) (jI st) (bP st) .none kV doc pm an cdv ct),osl⟩)
  (c:PySem.W.codeIn K cdv nm=true) (k:PySem.W.keepIn K (.ref f)=true):Hw K (nm,st,f):=⟨n,_,B4 l c k⟩
def Go(K:PySem.W.Frag):List (Str×Stmt×Addr)->Prop
 | []=>True
 | d::r=>Hw K d/\Go K r
theorem dfs_of(X:K.In h)(G:h.Ns mainGlobals mg):∀ (l:List (Str×Stmt×Addr)),Go K l->∀ (i:Nat) (nm:Str) (st:Stmt) (a:Addr),l[i]?=some (nm,st,a)->Df K mg nm st a
 | [],_,i,nm,st,a,e=>by simp at e
 | d::r,⟨⟨n,fd,F⟩,_⟩,0,nm,st,a,e=>by
  simp at e;subst e;exact⟨fd,F,PySem.W.mg_of X G n⟩
 | d::r,⟨_,h⟩,i+1,nm,st,a,e=>dfs_of X G r h i nm st a (by simpa using e)
def Hk(K:PySem.W.Frag):List Str->Prop
 | []=>True
 | x::r=>PySem.W.nsIn K mainGlobals x=some none/\Hk K r
theorem nos_of(X:K.In h)(G:h.Ns mainGlobals mg):∀ (l:List Str),Hk K l->∀ (i:Nat) (x:Str),l[i]?=some x->mg x=none
 | [],_,i,x,e=>by simp at e
 | d::r,⟨n,_⟩,0,x,e=>by
  simp at e;subst e;exact PySem.W.mg_none_of X G n
 | d::r,⟨_,h⟩,i+1,x,e=>nos_of X G r h i x (by simpa using e)
theorem u6{P:Program}{w:World}{st:Stmt}{a fa:Addr}{y:Str}{k:Nat}{sp:DC}(D:Df K mg "law" st a)(hfa:mg "law"=some (.ref fa))(hb:Cm "law" st [y])(C:∀ base:Heap,aS P w K mg base "law" st a [y] k sp) :
  ∃ fd:FuncData,(∀ (s:Shared) (v:Value),BindsTo s fd ⟨[v],[]⟩ [(y,v)])/\∀ base:Heap,K.In base->base.Ns mainGlobals mg->FnOk P w K mg base fU k fa fd [y] (LSp K 1 sp):=by
 obtain⟨fd,F,M⟩:=D;have e:=hfa.symm.trans M
 cases e
 have B:∀ (s:Shared) (v:Value),BindsTo s fd ⟨[v],[]⟩ [(y,v)]:=fun s v=>by
  obtain⟨oc,od,kV,doc,pm,an,cdv,ct,osl,rfl,lk,hcd⟩:=F.ex;exact .of_eq (hb kV doc pm an cdv ct [v] rfl)
 refine⟨fd,B,fun base _ _=>?_⟩;obtain⟨fd',F',_,_,C⟩:=C base;obtain⟨oc,od,kV,doc,pm,an,cdv,ct,osl,rfl,lk,hcd⟩:=F.ex;obtain⟨oc',od',kV',doc',pm',an',cdv',ct',osl',rfl,lk',hcd'⟩:=F'.ex;rw[lk]at lk'
 cases lk'
 exact C
end
end DL
set_option maxHeartbeats 1000000
namespace K01
open PySem PySem.Spec PyProof.Rows L2 DL
theorem O3(a b:Int):Int.gcd b (a.fmod b)=Int.gcd a b:=by
 have h:a.fmod b=a-b*a.fdiv b:=by
  have:=Int.mul_fdiv_add_fmod a b
  omega
 rw[h];have h2:a-b*a.fdiv b=a+b*(-(a.fdiv b)):=by rw[Int.mul_neg];omega
 rw[h2,Int.gcd_add_mul_left_right,Int.gcd_comm]
theorem P8(a b:Int)(h:b≠0):(a.fmod b).natAbs<b.natAbs:=by
 rcases Int.lt_or_gt_of_ne h with h | h
 ·have h1:=Int.neg_fmod_neg a b
  have h2:=Int.fmod_lt_of_pos (-a) (show 0 < -b by omega)
  have h3:=Int.fmod_nonneg_of_pos (-a) (show 0 < -b by omega)
  omega
 ·have h2:=Int.fmod_lt_of_pos a h
  have h3:=Int.fmod_nonneg_of_pos a h
  omega
theorem log2_lt{n k:Nat}(h:n<2^k)(hk:0<k):n.log2<k:=by
 by_cases hn:n=0
 ·subst hn;simpa using hk
 ·exact(Nat.log2_lt hn).mpr h
def Bd(n:Nat)(i:Int):Prop:=i.natAbs<2^n
theorem Bd.mono{m n:Nat}{i:Int}(h:Bd m i)(hl:m<=n):Bd n i:=Nat.lt_of_lt_of_le h (Nat.pow_le_pow_right (by decide) hl)
theorem Bd.mul{m n:Nat}{i j:Int}(h:Bd m i)(g:Bd n j):Bd (m+n) (i*j):=by
 unfold Bd at *;rw[Int.natAbs_mul,Nat.pow_add];exact Nat.mul_lt_mul'' h g
theorem Bd.add{n:Nat}{i j:Int}(h:Bd n i)(g:Bd n j):Bd (n+1) (i+j):=by
 unfold Bd at *;have:=Int.natAbs_add_le i j
 rw[Nat.pow_succ];omega
theorem Bd.neg{n:Nat}{i:Int}(h:Bd n i):Bd n (-i):=by
 unfold Bd at *;rw[Int.natAbs_neg];exact h
theorem Bd.sub{n:Nat}{i j:Int}(h:Bd n i)(g:Bd n j):Bd (n+1) (i-j):=by
 rw[Int.sub_eq_add_neg];exact h.add g.neg
theorem Bd.log{n:Nat}{i:Int}(h:Bd n i)(hn:0<n):i.natAbs.log2<n:=log2_lt h hn
theorem Bd.mulOk{m n:Nat}{i j:Int}(h:Bd m i)(g:Bd n j)(hm:m+n<=134217728):IntMulOk i j :=
 IntMulOk.of_le (intBits_le_iff.mpr h) (intBits_le_iff.mpr g) hm
def fr(t b:Int):PyData:=.tuple [.int (t / (Int.gcd t b:Int)),.int (b / (Int.gcd t b:Int))]
theorem Jx{t b:Int}(h:b≠0):(0:Int)<(Int.gcd t b:Int):=by
 have:=Int.gcd_pos_of_ne_zero_right t h
 omega
theorem M8{x g:Int}(hg:0<g)(hd:g∣x):0<x / g↔0<x:=by
 obtain⟨y,rfl⟩:=hd;rw[Int.mul_ediv_cancel_left _ (by omega)]
 constructor
 ·intro h;exact Int.mul_pos hg h
 ·intro h;exact Int.pos_of_mul_pos_right h hg
end K01
namespace K01
open PySem PySem.Spec PyProof.Rows L2 DL
section
variable {κ:Type}[DecidableEq κ]
theorem Gp(kvs:List (κ×PyData))(k:κ)(p:PyData):(fA kvs k p).length<=kvs.length+1:=by
 unfold fA
 split<;>simp
end
def Sv(B w e:Nat)(p:PyData):Prop:=p.showable=true/\p.leavesShort B=true/\p.weight<=w/\p.depth<=e
theorem Sv.mono{B w e w' e':Nat}{p:PyData}(h:Sv B w e p)(h1:w<=w')(h2:e<=e'):Sv B w' e' p:=⟨h.1,h.2.1,Nat.le_trans h.2.2.1 h1,Nat.le_trans h.2.2.2 h2⟩
end K01
namespace K29
open PySem PySem.Spec PyProof.Rows L2 DL K01
abbrev I(i:Int):D:=.dat (.int i)
def Tp(n:Int)(m:Mu)(a:Addr):Prop:=∃ (ns:List Int) (i j t:Int),m a=some (.l [.list (ns.map .int),.int i,.int j,.int t])/\0<ns.length/\0<=t/\t<=n
def Fed(b:Int)(n:Int)(m m':Mu)(a:Addr):Prop:=Tp (n+b) m' a/\∀ c,c≠a->(m c).isSome=true->m' c=m c
def Kn(m m':Mu):Prop:=∀ c,(m c).isSome=true->m' c=m c
def cE:List Str:=["ahead","meets","overlaps","begins","within","ends","same","ended","holds","begun","lapped","met","behind"]
def tn(z:Str):Str:=cE.getD (12-cE.idxOf z) ""
def kd(k:Bool):Str:=if k then "stretch" else "point"
def WS:Bool->Bool->List Str
 | true,true=>cE
 | false,false=>["ahead","same","behind"]
 | false,true=>["ahead","begins","within","ends","behind"]
 | true,false=>["ahead","ended","holds","begun","behind"]
abbrev fO(k l:Bool):PyData:=.tuple [.str (kd k),.str (kd l)]
abbrev TH(ts:List (Str×Bool)):PyData:=.tuple (ts.map fun t=>.tuple [.str t.1,.str (kd t.2)])
def iY(z:Str):Prop:=z.cps.toList.all (fun c=>decide (c<1114112))=true/\z.length<=20
def Nm(zs:List Str):Prop:=zs.Nodup/\zs.length<=6/\∀ z∈zs,iY z
abbrev fq(x:Int×Int):PyData:=.tuple [.int x.1,.int x.2]
def WT:List (Str×List Int):=[("ahead",[-1,-1,-1,-1]),("meets",[-1,-1,0,-1]),("overlaps",[-1,-1,1,-1]),("begins",[0,-1,1,-1]),("within",[1,-1,1,-1]),("ends",[1,-1,1,0]),("same",[0,-1,1,0]),("ended",[-1,-1,1,0]),("holds",[-1,-1,1,1]),("begun",[0,-1,1,1]),("lapped",[1,-1,1,1]),("met",[1,0,1,1]),("behind",[1,1,1,1])]
def w4(z:Str):List Int:=((WT.find? fun kv=>decide (kv.1=z)).map (·.2)).getD []
def WB(k l:Bool)(z:Str):List Int:=match k,l with
 | true,true=>w4 z
 | false,false=>(w4 z).take 1
 | _,_=>[(w4 z).getD 0 0,(w4 z).getD 3 0]
def cZ(k:Bool):Int:=if k then 2 else 1
def sg(k l:Bool)(z:Str)(x y:Int):Int:=(WB k l z).getD (x*cZ l+y).toNat 0
def jG:List Str:=["ahead","meets","overlaps","begins","within","ends","same"]
abbrev dQ(x:Str×Bool):PyData:=.tuple [.str x.1,.int (if x.2 then 1 else 0)]
def dZ:List (Str×Bool)->List (Str×Bool)
 | []=>[]
 | t::ts=>(t.1,false)::((if t.2 then [(t.1,true)] else [])++dZ ts)
inductive Stp (α:Type) where
 | told (i:Int)
 | one (w:Str) (i:Int) (r:List PyData)
 | two (w:Str) (i j:Int)
 | nop (w:Str) (r:List PyData)
 | cas (i:Int) (ps:List (List Str×List α))
def Stp.D{α:Type}(f:α->PyData):Stp α->PyData
 | .told i=>.tuple [.str "told",.int i]
 | .one w i r=>.tuple (.str w::.int i::r)
 | .two w i j=>.tuple [.str w,.int i,.int j]
 | .nop w r=>.tuple (.str w::r)
 | .cas i ps=>.tuple [.str "cases",.int i,.tuple (ps.map fun p=>.tuple [.tuple (p.1.map .str),.tuple (p.2.map f)])]
def Stp.sh{α:Type}(g:α->α)(f:Int->Int)(k:Int):Stp α->Stp α
 | .told i=>.told (f i)
 | .one w i r=>.one w (i+k) r
 | .two w i j=>.two w (i+k) (j+k)
 | .nop w r=>.nop w r
 | .cas i ps=>.cas (i+k) (ps.map fun p=>(p.1,p.2.map g))
def Stp.rows{α:Type}:Stp α->List Int
 | .told _=>[]
 | .one _ i _=>[i]
 | .two _ i j=>[i,j]
 | .nop _ _=>[]
 | .cas i _=>[i]
def Stp.shr{α:Type}(k:Int):Stp α->Stp α:=Stp.sh id id k
def lY(x:PyData):Prop:=(∃ z,x=.str z/\iY z)\/∃ e:Str×Bool,x=dQ e/\iY e.1
def Stp.Ok{α:Type}(o:α->Prop)(c b:Int):Stp α->Prop
 | .told i=>0<=i/\i<c
 | .one w i r=>w∈(["turned","ends"]:List Str)/\0<=i/\i<=b/\r.length<=2/\∀ x∈r,lY x
 | .two w i j=>w∈(["behind","both","strike","add"]:List Str)/\0<=i/\i<=b/\0<=j/\j<=b
 | .nop w r=>w∈(["any","long"]:List Str)/\r.length<=2/\∀ x∈r,lY x
 | .cas i ps=>0<=i/\i<=b/\ps.length<=3/\∀ p∈ps,p.1.length<=13/\(∀ z∈p.1,z∈cE)/\p.2.length<=8/\∀ s∈p.2,o s
def Stp.W{α:Type}:Stp α->Prop
 | .told _=>True
 | .one w _ r=>w∈(["turned","ends"]:List Str)/\r.length<=2
 | .two w _ _=>w∈(["behind","both","strike","add"]:List Str)
 | .nop w r=>w∈(["any","long"]:List Str)/\r.length<=2
 | .cas _ _=>True
def Stp.wt{α:Type}(g:α->Nat):Stp α->Nat
 | .told _=>100
 | .one _ _ _=>250
 | .two _ _ _=>100
 | .nop _ _=>200
 | .cas _ ps=>100+(ps.map fun p=>400+(p.2.map g).sum).sum
def A:Nat->Type
 | 0=>Empty
 | n+1=>Stp (A n)
def dJ:(n:Nat)->A n->PyData
 | 0,e=>nomatch e
 | n+1,s=>Stp.D (dJ n) s
def SH:(n:Nat)->(Int->Int)->Int->A n->A n
 | 0,_,_,e=>nomatch e
 | n+1,f,k,s=>Stp.sh (SH n f k) f k s
def SO:(n:Nat)->(c b:Int)->A n->Prop
 | 0,_,_,e=>nomatch e
 | n+1,c,b,s=>Stp.Ok (SO n c b) c b s
def WE:(n:Nat)->A n->Nat
 | 0,e=>nomatch e
 | n+1,s=>Stp.wt (WE n) s
abbrev cO(n:Nat)(P:List (A n)):PyData:=.tuple (P.map (dJ n))
def PaO(n:Nat)(c b:Int)(w:Nat)(P:List (A n)):Prop:=P.length<=8/\(∀ s∈P,SO n c b s)/\(P.map (WE n)).sum<=w
def fT(ns:List Int)(i:Int):Int:=ns.getD i.toNat 0
def sQ:DC:=fun ds m R=>∃ (α:Type) (f:α->PyData) (s:Stp α),ds=[.dat (s.D f)]/\s.W/\R (.dat (.tuple (s.rows.map .int))) m
def nP:DC:=fun ds m R=>∃ (α:Type) (f:α->PyData) (s:Stp α) (k:Int),ds=[.dat (s.D f),.dat (.list ((s.rows.map (· + k)).map .int))]/\s.W/\R (.dat ((s.shr k).D f)) m
def nR(j:Nat):DC:=fun ds m R=>∃ (n:Nat) (s:Stp (A n)) (k c b:Int),ds=[.dat (dJ (n+1) s),I k]/\n<j/\SO (n+1) c b s/\R (.dat (dJ (n+1) (SH (n+1) id k s))) m
def gD(j:Nat):DC:=fun ds m R=>∃ (n:Nat) (P:List (A n)) (k c b:Int),ds=[.dat (cO n P),I k]/\n<j/\P.length<=8/\(∀ s∈P,SO n c b s)/\R (.dat (cO n (P.map (SH n id k)))) m
def oM(j:Nat):DC:=fun ds m R=>∃ (n:Nat) (s:Stp (A n)) (ns:List Int) (b:Int),ds=[.dat (dJ (n+1) s),.dat (.tuple (ns.map .int))]/\n<j/\SO (n+1) ns.length b s/\R (.dat (dJ (n+1) (SH (n+1) (fT ns) 0 s))) m
def iR(j:Nat):DC:=fun ds m R=>∃ (n:Nat) (P:List (A n)) (ns:List Int) (b:Int),ds=[.dat (cO n P),.dat (.tuple (ns.map .int))]/\n<j/\P.length<=8/\(∀ s∈P,SO n ns.length b s)/\R (.dat (cO n (P.map (SH n (fT ns) 0)))) m
def gW(j:Nat):DC:=fun ds m R=>∃ (n:Nat) (P:List (A n)) (ns:List Int) (k b:Int) (q:PyData),ds=[.dat (cO n P),I k,.dat q]/\(q=.tuple (ns.map .int)\/q=.list (ns.map .int))/\n<j/\P.length<=8/\(∀ s∈P,SO n ns.length b s)/\∀ m',Kn m m'->R (.dat (cO n (P.map (SH n (fT ns) k)))) m'
def pH:DC:=fun ds m R=>∃ ns:List Int,ds=[.dat (.list (ns.map .int))]/\ns.length<=63/\∀ a m',Tp 0 m' a->R (.cel a) m'
def bL:DC:=fun ds m R=>∃ (a:Addr) (n L:Int),ds=[.cel a,I n]/\0<n/\Bd 100 n/\L<=10000000/\Tp L m a/\∀ (r:Int) m',0<=r->r<n->Fed 1 L m m' a->R (I r) m'
def eK:DC:=fun ds m R=>∃ k l,ds=[.dat (fO k l)]/\R (.dat (.tuple ((WS k l).map .str))) m
def iN:DC:=fun ds m R=>∃ z:Str,ds=[.dat (.str z)]/\z∈cE/\R (.dat (.str (tn z))) m
def sL:DC:=fun ds m R=>∃ (a:Addr) (L:Int),ds=[.cel a,I 3,I 4]/\L<=9000000/\Tp L m a/\∀ (ts:List (Str×Bool)) m',3<=ts.length->ts.length<=4->Nm (ts.map (·.1))->Fed 20 L m m' a->R (.dat (TH ts)) m'
def fD:DC:=fun ds m R=>∃ k:Bool,ds=[.dat (.str (kd k))]/\R (.dat (.list ((if k then [0,1] else [0]).map .int))) m
def gC:DC:=fun ds m R=>∃ (ts zs:List (Str×Bool)),ds=[.dat (TH ts),.dat (.tuple (zs.map fun t=>.str t.1))]/\ts.length<=6/\(ts.map (·.1)).Nodup/\zs.length<=3/\(∀ t∈zs,t∈ts)/\∀ m',Kn m m'->R (.dat (.tuple (zs.map fun t=>.str (kd t.2)))) m'
def hU:DC:=fun ds m R=>∃ (a:Addr) (ts:List (Str×Bool)) (L:Int),ds=[.cel a,.dat (TH ts)]/\2<=ts.length/\ts.length<=6/\L<=9000000/\Tp L m a/\∀ (x y:Str) (k l:Bool) m',(x,k)∈ts->(y,l)∈ts->Fed 2 L m m' a->R (.dat (.tuple [.str x,.str y])) m'
def sW:DC:=fun ds m R=>∃ ts:List (Str×Bool),ds=[.dat (TH ts)]/\ts.length<=6/\∀ c m',m c=none->Kn m m'->m' c=some (.l ((dZ ts).map dQ))->R (.cel c) m'
def eQ:Nat->DC
 | 0=>fun _ _ _=>False
 | n+1=>fun ds m R=>∃ (k l:Bool) (z:Str) (x y:Int),ds=[.dat (fO k l),.dat (.str z),I x,I y]/\z∈WS k l/\(z∈jG\/1<=n)/\0<=x/\x<cZ k/\0<=y/\y<cZ l/\∀ m',Kn m m'->R (I (sg k l z x y)) m'
def nD:DC:=fun ds m R=>∃ k l z,ds=[.dat (fO k l),.dat (.str z)]/\z∈WS k l/\∀ m',Kn m m'->R (.dat (.tuple ((WB k l z).map .int))) m'
def lM:DC:=fun ds m R=>∃ t b:Int,ds=[I t,I b]/\0<b/\Bd 2000 b/\R (.dat (fr t b)) m
def oC:DC:=fun ds m R=>∃ (x y:Int×Int) (s:Int) (p q:Nat),ds=[.dat (fq x),.dat (fq y),I s]/\0<x.2/\0<y.2/\(s=1\/s=-1)/\p+q<=1900/\Bd p x.1/\Bd p x.2/\Bd q y.1/\Bd q y.2/\R (.dat (fr (x.1*y.2+s*y.1*x.2) (x.2*y.2))) m
def nG:DC:=fun ds m R=>∃ (a:Addr) (L:Int),ds=[.cel a]/\L<=9000000/\Tp L m a/\∀ (x:Int×Int) m',0<x.2->Int.gcd x.1 x.2=1->Bd 20 x.1->Bd 20 x.2->Fed 2 L m m' a->R (.dat (fq x)) m'
def dR(k l:Bool)(z:Str)(x:Int):Int×Int:=if sg k l z x 0<1 then (if sg k l z x 0<0 then (0,1) else (10,0)) else if sg k l z x (cZ l-1)<1 then (if sg k l z x (cZ l-1)<0 then (10,1) else (20,0)) else (20,1)
def kT:DC:=fun ds m R=>∃ (k l:Bool) (z:Str) (x:Int),ds=[.dat (fO k l),.dat (.str z),I x]/\z∈WS k l/\0<=x/\x<cZ k/\∀ m',Kn m m'->R (.dat (fq (dR k l z x))) m'
def gJ(x y:Int):Int:=(if x > y then 1 else 0)-(if x<y then 1 else 0)
def gL(xs ys:List Int):List Int:=xs.flatMap fun x=>ys.map (gJ x)
def pW:DC:=fun ds m R=>∃ (xs ys:List Int) (c:Addr),ds=[.dat (.list (xs.map .int)),.cel c]/\m c=some (.l (ys.map .int))/\xs.length<=2/\ys.length<=2/\∀ m',Kn m m'->R (.dat (.tuple ((gL xs ys).map .int))) m'
def sX:DC:=fun ds m R=>∃ (c:Addr) (k l n:Bool) (x y:Str),ds=[.cel c,.dat (.tuple [.str (kd k),.str (kd l),.str (kd n)]),.dat (.str x),.dat (.str y)]/\m c=some (.n [])/\x∈WS k l/\y∈WS l n/\∀ (zs:List Str) m',zs.length<=13->(∀ z∈zs,z∈cE)->(∀ b,b≠c->(m b).isSome=true->m' b=m b)->R (.dat (.tuple (zs.map .str))) m'
def Wd(p:PyData):Prop:=∃ zs:List Str,p=.tuple (zs.map .str)/\zs.length<=13/\∀ z∈zs,z∈cE
def qP:DC:=fun ds m R=>∃ (a:Addr) (k l:Bool) (L:Int),ds=[.cel a,.dat (.tuple ((WS k l).map .str))]/\L<=9000000/\Tp L m a/\∀ p q m',Wd p->Wd q->Fed 2 L m m' a->R (.dat (.tuple [p,q])) m'
def Cl(p:PyData):Prop:=∃ (xs:List PyData) (n:Nat) (P:List (A n)),p=.tuple [.tuple xs,cO n P]/\1<=xs.length/\xs.length<=3/\n<=2/\PaO n xs.length 5 4000 P
def mF(b M:Int):DC:=fun ds m R=>∃ (a:Addr) (ts:List (Str×Bool)) (L:Int),ds=[.cel a,.dat (TH ts)]/\3<=ts.length/\ts.length<=4/\Nm (ts.map (·.1))/\L<=M/\Tp L m a/\∀ p m',Cl p->Fed b L m m' a->R (.dat p) m'
def rH:DC:=mF 10 8000000
def mD:DC:=mF 40 8000000
def sH:DC:=mF 10 8000000
def rE:DC:=mF 10 8000000
def sC:DC:=mF 50 8000000
def rR:DC:=fun ds m R=>∃ (a:Addr) (ts:List (Str×Bool)) (L:Int),ds=[.cel a,.dat (TH ts)]/\3<=ts.length/\ts.length<=4/\Nm (ts.map (·.1))/\L<=8000000/\Tp L m a/\∀ p m',(p=.none\/Cl p)->Fed 10 L m m' a->R (.dat p) m'
def qK:DC:=mF 100 7000000
def nB:DC:=fun ds m R=>∃ ns:List Int,ds=[.dat (.list (ns.map .int))]/\ns.length<=63/\∀ m',R (.dat (.bool true)) m'
end K29
namespace K29
open PySem PySem.Spec PyProof.Rows L2 DL
-- ranks: rows_named 1,with_rows 1,laid_behind 12,laid_step 11,retold 11,retold_step 10,_law_feed 1,_law_draw 1,_law_things 2,_law_words 1,_law_back 2,_law_sign 6,_law_sides 1,_law_all_signs 7,_law_kinds 1,_law_all_ends 2,_law_lowest 1,_law_added 2,_law_time 2,_law_two 2,_law_spot 7,_law_compared 1,_law_behind 8,_law_split 2,_law_against 3,_law_ring 3,_law_word_and_gap 7,_law_by_cases 7,_law_short 4,_law_three 9,_law_some_clash 10,_law_shifted 6,law 13
def cL(i:Nat):Stmt:=PySem.Challenge.pw_whens_k29_papers_laid_and_retold.main.body.getD i (.Pass ⟨0,0,0,0⟩)
abbrev kW:List (Str×PyData):=[("turned",.int (2)),("behind",.int (3)),("both",.int (3)),("ends",.int (2)),("strike",.int (3)),("add",.int (3)),("cases",.int (2))]
abbrev pY:Stmt:=cL 2
abbrev Ad:List Str:=["step"]
abbrev pR:List Str:=["step"]
theorem X5:FnScope Ad pR (bP pY):=⟨rfl,rfl,rfl,by decide +kernel,rfl,by decide +kernel,by decide +kernel⟩
def lO:DS:=(aJ (bH (fI (aC 0) (fE (aE (.int 1))) (fE (xP kW (aI aW (aC 0) (aE (.int 0))) (aE (.int 1)))))) aR)
abbrev pP:Stmt:=cL 3
abbrev yY:List Str:=["step","numbers"]
abbrev rQ:List Str:=["step","numbers"]
theorem n9:FnScope yY rQ (bP pP):=⟨rfl,rfl,rfl,by decide +kernel,rfl,by decide +kernel,by decide +kernel⟩
def Ce:DS:=(aJ (bH (aI bS (aI bS (fI (aC 0) fR (fE (aE (.int 1)))) (bC dX (aA (aC 1) aF))) (fI (aC 0) (fE (aI bS (aE (.int 1)) (bC cY (aA (aC 1) aF)))) fR))) aR)
abbrev tI:Stmt:=cL 4
abbrev Da:List Str:=["step","many","laid"]
abbrev pV:List Str:=["step","many"]
theorem AS:FnScope Da pV (bP tI):=⟨rfl,rfl,rfl,by decide +kernel,rfl,by decide +kernel,by decide +kernel⟩
theorem EW:List.Nodup (["number","many"]:List Str):=by decide +kernel
theorem Fg:List.Nodup (["words","paper","many"]:List Str):=by decide +kernel
def Mc(j:Nat):DS:=(aJ (bH (aC 2)) aR)
def Cr(j:Nat):DS:=(aJ (cM (bQ (aI dB (aI aW (aC 0) (aE (.int 0))) (aE (.str "cases")))) (aJ (bH (aI bS (fI (aC 2) fR (fE (aE (.int 2)))) (aL (aA (bC dX (aA (cS [none,none,some 1] (cF (aI aW (aC 0) (aE (.int 2)))) (gT 2 (cD (gN 0) (cD (gN 1) eT))) cC (aL (aA (aC 0) (aA (aP 2 (gD j) (aA (aC 1) (aA (aC 2) aF))) aF)))) aF)) aF)))) aR) aR) (Mc j))
def zM(j:Nat):DS:=(aJ (aO 2 (aP 2 nP (aA (aC 0) (aA (cS [none,some 1] (cF (aP 1 sQ (aA (aC 0) aF))) (gN 0) cC (aI bS (aC 0) (aC 1))) aF)))) (Cr j))
abbrev nV:Stmt:=cL 5
abbrev wS:List Str:=["paper","many"]
abbrev lX:List Str:=["paper","many"]
theorem Pf:FnScope wS lX (bP nV):=⟨rfl,rfl,rfl,by decide +kernel,rfl,by decide +kernel,by decide +kernel⟩
theorem BM:List.Nodup (["step","many"]:List Str):=by decide +kernel
def yP(j:Nat):DS:=(aJ (bH (bC dX (aA (cS [none,some 1] (cF (aC 0)) (gN 0) cC (aP 2 (nR j) (aA (aC 0) (aA (aC 1) aF)))) aF))) aR)
abbrev qH:Stmt:=cL 6
abbrev zJ:List Str:=["step","numbers"]
abbrev pO:List Str:=["step","numbers"]
theorem V4:FnScope zJ pO (bP qH):=⟨rfl,rfl,rfl,by decide +kernel,rfl,by decide +kernel,by decide +kernel⟩
theorem Hd:List.Nodup (["words","paper","numbers"]:List Str):=by decide +kernel
def Vq(j:Nat):DS:=(aJ (bH (aC 0)) aR)
def Nb(j:Nat):DS:=(aJ (cM (bQ (aI dB (aI aW (aC 0) (aE (.int 0))) (aE (.str "cases")))) (aJ (bH (aI bS (fI (aC 0) fR (fE (aE (.int 2)))) (aL (aA (bC dX (aA (cS [none,none,some 1] (cF (aI aW (aC 0) (aE (.int 2)))) (gT 2 (cD (gN 0) (cD (gN 1) eT))) cC (aL (aA (aC 0) (aA (aP 2 (iR j) (aA (aC 1) (aA (aC 2) aF))) aF)))) aF)) aF)))) aR) aR) (Vq j))
def Dq(j:Nat):DS:=(aJ (cM (bQ (aI dB (aI aW (aC 0) (aE (.int 0))) (aE (.str "told")))) (aJ (bH (aL (aA (aE (.str "told")) (aA (aI aW (aC 1) (aI aW (aC 0) (aE (.int 1)))) aF)))) aR) aR) (Nb j))
abbrev nF:Stmt:=cL 7
abbrev wV:List Str:=["paper","numbers"]
abbrev mH:List Str:=["paper","numbers"]
theorem Sy:FnScope wV mH (bP nF):=⟨rfl,rfl,rfl,by decide +kernel,rfl,by decide +kernel,by decide +kernel⟩
theorem Wg:List.Nodup (["step","numbers"]:List Str):=by decide +kernel
def xF(j:Nat):DS:=(aJ (bH (bC dX (aA (cS [none,some 1] (cF (aC 0)) (gN 0) cC (aP 2 (oM j) (aA (aC 0) (aA (aC 1) aF)))) aF))) aR)
abbrev sN:Stmt:=cL 9
abbrev yO:List Str:=["_law_script"]
abbrev pE:List Str:=["_law_script"]
theorem Ru:FnScope yO pE (bP sN):=⟨rfl,rfl,rfl,by decide +kernel,rfl,by decide +kernel,by decide +kernel⟩
def xZ:DS:=(aJ (bH (gK (aA (aI bS (bC Cc (aA (fI (aC 0) fR (fE (aE (.int 63)))) aF)) (aI Be (gK (aA (aE (.int 7)) aF)) (bC iZ (aA (aI dB (aC 0) (dW aF)) aF)))) (aA (aE (.int 0)) (aA (aE (.int 0)) (aA (aE (.int 0)) aF)))))) aR)
abbrev fM:Stmt:=cL 10
abbrev wF:List Str:=["_law_feed_here","_law_many","_law_turn","_law_cell","_law_mixed","_law_digit"]
abbrev fL:List Str:=["_law_feed_here","_law_many"]
theorem D4:FnScope wF fL (bP fM):=⟨rfl,rfl,rfl,by decide +kernel,rfl,by decide +kernel,by decide +kernel⟩
def GL:DS:=(aJ (bH (aI fZ (aI mQ (aI fZ (aC 4) (aE (.int 2147483629))) (aE (.int 64))) (aC 1))) aR)
def R6:DS:=(aJ (aO 4 (aI bS (aI eJ (aC 4) (aI bS (aI fZ (aC 4) (aE (.int 65521))) (aE (.int 48271)))) (aC 2))) GL)
def Pz:DS:=(aJ (aO 4 (aI fZ (aI eJ (aI bS (aI fZ (aC 3) (aE (.int 2147483629))) (aE (.int 1))) (aI bS (aI bS (aI eJ (aI eJ (aE (.int 31)) (aC 2)) (aC 2)) (aI eJ (aE (.int 7919)) (aC 2))) (aE (.int 1)))) (aE (.int 2147483647)))) R6)
def EQ:DS:=(aJ (nO (aC 0) (aE (.int 2)) (aC 3)) aR)
def j2:DS:=(aJ (cM (bQ (aI gV (aC 3) (aI wG (aE (.int 10)) (aE (.int 18))))) Pz aR) EQ)
def Vo:DS:=(aJ (nO (aC 0) (aE (.int 1)) (aI bS (aI aW (aC 0) (aE (.int 1))) (aE (.int 1)))) j2)
def R7:DS:=(aJ (aO 3 (aI aW (aI aW (aC 0) (aE (.int 0))) (aI fZ (aI aW (aC 0) (aE (.int 1))) (bC cY (aA (aI aW (aC 0) (aE (.int 0))) aF))))) Vo)
def Q9:DS:=(aJ (bH (aC 5)) aR)
def Y6:DS:=(aJ (nO (aC 0) (aE (.int 2)) (aI mQ (aI aW (aC 0) (aE (.int 2))) (aC 1))) Q9)
def Fj:DS:=(aJ (aO 5 (aI fZ (aI aW (aC 0) (aE (.int 2))) (aC 1))) Y6)
def GJ:DS:=(aJ (cM (bQ (aI dB (aI aW (aC 0) (aE (.int 2))) (aE (.int 0)))) R7 aR) Fj)
def Fd:DS:=(aJ (aO 2 (aI aW (aC 0) (aE (.int 3)))) GJ)
def Os:DS:=(aJ (nO (aC 0) (aE (.int 3)) (aI bS (aI aW (aC 0) (aE (.int 3))) (aE (.int 1)))) Fd)
abbrev qS:Stmt:=cL 11
abbrev yJ:List Str:=["_law_feed_here","_law_least","_law_most","_law_some","_law_many","_law_first","_law_step","_law_names","_law_way","_law_kinds_here"]
abbrev pQ:List Str:=["_law_feed_here","_law_least","_law_most"]
theorem CA:FnScope yJ pQ (bP qS):=⟨rfl,rfl,rfl,by decide +kernel,rfl,by decide +kernel,by decide +kernel⟩
theorem Qe:List.Nodup (["_law_k","_law_some","_law_first","_law_step"]:List Str):=by decide +kernel
theorem A1:List.Nodup (["_law_name","_law_feed_here"]:List Str):=by decide +kernel
theorem Pb:List.Nodup (["_law_name","_law_way"]:List Str):=by decide +kernel
def Dd:DS:=(aJ (bH (xD (aC 7) (aC 9))) aR)
def Oc:DS:=(aJ (cM (bQ (aI gV (aC 8) (aE (.int 2)))) (aJ (aO 9 (cS [none,some 8] (cF (aC 7)) (gN 0) cC (aI aW (dW (aA (aE (.str "stretch")) (aA (aE (.str "point")) aF))) (aC 1)))) aR) aR) Dd)
def Iv:DS:=(aJ (aO 9 (cS [none,some 0] (cF (aC 7)) (gN 0) cC (aI aW (dW (aA (aE (.str "stretch")) (aA (aE (.str "stretch")) (aA (aE (.str "point")) aF)))) (aP 2 bL (aA (aC 1) (aA (aE (.int 3)) aF)))))) Oc)
def Z9:DS:=(aJ (aO 8 (aP 2 bL (aA (aC 0) (aA (aE (.int 5)) aF)))) Iv)
def W5:DS:=(aJ (aO 7 (bC Ai (aA (cS [none,some 3,some 5,some 6] (iE (aC 4)) (gN 0) cC (aI aW (aC 1) (aI fZ (aI bS (aC 2) (aI eJ (aC 3) (aC 0))) (aE (.int 11))))) aF))) Z9)
def GI:DS:=(aJ (aO 6 (aI bS (aE (.int 1)) (aP 2 bL (aA (aC 0) (aA (aE (.int 10)) aF))))) W5)
def GC:DS:=(aJ (aO 5 (aP 2 bL (aA (aC 0) (aA (aE (.int 11)) aF)))) GI)
def BZ:DS:=(aJ (aO 4 (aI bS (aC 1) (aP 2 bL (aA (aC 0) (aA (aI bS (aI gA (aC 2) (aC 1)) (aE (.int 1))) aF))))) GC)
def Ji:DS:=(aJ (aO 3 (dW (aA (aE (.str "a")) (aA (aE (.str "ab")) (aA (aE (.str "abc")) (aA (aE (.str "begin")) (aA (aE (.str "end")) (aA (aE (.str "gap")) (aA (aE (.str "may")) (aA (aE (.str "o")) (aA (aE (.str "point")) (aA (aE (.str "strict")) (aA (aE (.str "zzzzzzzz")) aF))))))))))))) BZ)
abbrev iF:Stmt:=cL 12
abbrev Cv:List Str:=["_law_kinds_here","_law_some"]
abbrev iJ:List Str:=["_law_kinds_here"]
theorem T6:FnScope Cv iJ (bP iF):=⟨rfl,rfl,rfl,by decide +kernel,rfl,by decide +kernel,by decide +kernel⟩
def Ko:DS:=(aJ (bH (aI bS (aC 1) (aL (aA (aE (.str "met")) (aA (aE (.str "behind")) aF))))) aR)
def Lp:DS:=(aJ (aO 1 (aL (aA (aE (.str "ahead")) (aA (aE (.str "meets")) (aA (aE (.str "overlaps")) (aA (aE (.str "begins")) (aA (aE (.str "within")) (aA (aE (.str "ends")) (aA (aE (.str "same")) (aA (aE (.str "ended")) (aA (aE (.str "holds")) (aA (aE (.str "begun")) (aA (aE (.str "lapped")) aF))))))))))))) Ko)
def Lh:DS:=(aJ (cM (bQ (aI dB (aC 0) (aL (aA (aE (.str "stretch")) (aA (aE (.str "point")) aF))))) (aJ (bH (aL (aA (aE (.str "ahead")) (aA (aE (.str "ended")) (aA (aE (.str "holds")) (aA (aE (.str "begun")) (aA (aE (.str "behind")) aF))))))) aR) aR) Lp)
def Il:DS:=(aJ (cM (bQ (aI dB (aC 0) (aL (aA (aE (.str "point")) (aA (aE (.str "stretch")) aF))))) (aJ (bH (aL (aA (aE (.str "ahead")) (aA (aE (.str "begins")) (aA (aE (.str "within")) (aA (aE (.str "ends")) (aA (aE (.str "behind")) aF))))))) aR) aR) Lh)
def xV:DS:=(aJ (cM (bQ (aI dB (aC 0) (aL (aA (aE (.str "point")) (aA (aE (.str "point")) aF))))) (aJ (bH (aL (aA (aE (.str "ahead")) (aA (aE (.str "same")) (aA (aE (.str "behind")) aF))))) aR) aR) Il)
abbrev lP:Stmt:=cL 13
abbrev yT:List Str:=["_law_word","_law_order"]
abbrev lS:List Str:=["_law_word"]
theorem EF:FnScope yT lS (bP lP):=⟨rfl,rfl,rfl,by decide +kernel,rfl,by decide +kernel,by decide +kernel⟩
def Lm:DS:=(aJ (bH (aI aW (aC 1) (aI gA (aE (.int 12)) (zG (aC 1) (aC 0))))) aR)
def Bm:DS:=(aJ (aO 1 (aP 1 eK (aA (aL (aA (aE (.str "stretch")) (aA (aE (.str "stretch")) aF))) aF))) Lm)
abbrev iL:Stmt:=cL 14
abbrev Aj:List Str:=["_law_kinds_here","_law_word","_law_x","_law_y","_law_some"]
abbrev jJ:List Str:=["_law_kinds_here","_law_word","_law_x","_law_y"]
theorem Vy:FnScope Aj jJ (bP iL):=⟨rfl,rfl,rfl,by decide +kernel,rfl,by decide +kernel,by decide +kernel⟩
def Ob(j:Nat):DS:=(aJ (bH (aI aW (tE (aC 4) (aC 1)) (oB (bQ (aI dB (aC 0) (aL (aA (aE (.str "stretch")) (aA (aE (.str "stretch")) aF))))) (aI bS (aI eJ (aE (.int 2)) (aC 2)) (aC 3)) (aI eJ (aE (.int 3)) (aI bS (aC 2) (aC 3)))))) aR)
def Kq(j:Nat):DS:=(aJ (cM (bQ (aI Ct (aC 1) (aC 4))) (aJ (bH (aI gA (aE (.int 0)) (aP 4 (eQ j) (aA (aL (aA (aI aW (aC 0) (aE (.int 1))) (aA (aI aW (aC 0) (aE (.int 0))) aF))) (aA (aP 1 iN (aA (aC 1) aF)) (aA (aC 3) (aA (aC 2) aF))))))) aR) aR) (Ob j))
def Ki(j:Nat):DS:=(aJ (gS (Bn (aC 4) (uX [((aE (.str "begins")),(aL (aA (aE (.int 0)) (aA (dG (aE (.int 1))) (aA (aE (.int 1)) (aA (dG (aE (.int 1))) aF)))))),((aE (.str "within")),(aL (aA (aE (.int 1)) (aA (dG (aE (.int 1))) (aA (aE (.int 1)) (aA (dG (aE (.int 1))) aF)))))),((aE (.str "ends")),(aL (aA (aE (.int 1)) (aA (dG (aE (.int 1))) (aA (aE (.int 1)) (aA (aE (.int 0)) aF)))))),((aE (.str "same")),(aL (aA (aE (.int 0)) (aA (dG (aE (.int 1))) (aA (aE (.int 1)) (aA (aE (.int 0)) aF))))))]))) (Kq j))
def Ab(j:Nat):DS:=(aJ (aO 4 (uX [((aE (.str "ahead")),(aL (aA (dG (aE (.int 1))) (aA (dG (aE (.int 1))) (aA (dG (aE (.int 1))) (aA (dG (aE (.int 1))) aF)))))),((aE (.str "meets")),(aL (aA (dG (aE (.int 1))) (aA (dG (aE (.int 1))) (aA (aE (.int 0)) (aA (dG (aE (.int 1))) aF)))))),((aE (.str "overlaps")),(aL (aA (dG (aE (.int 1))) (aA (dG (aE (.int 1))) (aA (aE (.int 1)) (aA (dG (aE (.int 1))) aF))))))])) (Ki j))
abbrev iO:Stmt:=cL 15
abbrev Am:List Str:=["_law_kind"]
abbrev jC:List Str:=["_law_kind"]
theorem J6:FnScope Am jC (bP iO):=⟨rfl,rfl,rfl,by decide +kernel,rfl,by decide +kernel,by decide +kernel⟩
def Cz:DS:=(aJ (bH (oB (bQ (aI dB (aC 0) (aE (.str "stretch")))) (dW (aA (aE (.int 0)) (aA (aE (.int 1)) aF))) (dW (aA (aE (.int 0)) aF)))) aR)
abbrev qA:Stmt:=cL 16
abbrev wK:List Str:=["_law_kinds_here","_law_word","_law_found","_law_x"]
abbrev oX:List Str:=["_law_kinds_here","_law_word"]
theorem DQ:FnScope wK oX (bP qA):=⟨rfl,rfl,rfl,by decide +kernel,rfl,by decide +kernel,by decide +kernel⟩
theorem C2:List.Nodup (["_law_y","_law_kinds_here","_law_word","_law_x"]:List Str):=by decide +kernel
def xJ:DS:=(aJ (gS (sV (aC 2) (jW [none,some 0,some 1,some 3] (cF (aP 1 fD (aA (aI aW (aC 0) (aE (.int 1))) aF))) (gN 0) cC (aP 4 (eQ 3) (aA (aC 1) (aA (aC 2) (aA (aC 3) (aA (aC 0) aF)))))))) aR)
def Vf:DS:=(aJ (bH (bC dX (aA (aC 2) aF))) aR)
def Nx:DS:=(aJ (fS (cF (aP 1 fD (aA (aI aW (aC 0) (aE (.int 0))) aF))) (gN 3) xJ) Vf)
def Lk:DS:=(aJ (aO 2 (gK aF)) Nx)
abbrev kH:Stmt:=cL 17
abbrev zQ:List Str:=["_law_things_here","_law_names","_law_own"]
abbrev jS:List Str:=["_law_things_here","_law_names"]
theorem AJ:FnScope zQ jS (bP kH):=⟨rfl,rfl,rfl,by decide +kernel,rfl,by decide +kernel,by decide +kernel⟩
theorem B8:List.Nodup (["_law_name","_law_own"]:List Str):=by decide +kernel
def Od:DS:=(aJ (bH (bC dX (aA (cS [none,some 2] (cF (aC 1)) (gN 0) cC (tE (aC 1) (aC 0))) aF))) aR)
def Dg:DS:=(aJ (aO 2 (yI (aC 0))) Od)
abbrev qB:Stmt:=cL 18
abbrev wI:List Str:=["_law_things_here","_law_found","_law_name","_law_kind"]
abbrev rO:List Str:=["_law_things_here"]
theorem X8:FnScope wI rO (bP qB):=⟨rfl,rfl,rfl,by decide +kernel,rfl,by decide +kernel,by decide +kernel⟩
theorem g8:List.Nodup (["_law_side","_law_name"]:List Str):=by decide +kernel
def uH:DS:=(aJ (gS (sV (aC 1) (jW [none,some 2] (cF (aP 1 fD (aA (aC 3) aF))) (gN 0) cC (aL (aA (aC 1) (aA (aC 0) aF)))))) aR)
def Ch:DS:=(aJ (bH (aC 1)) aR)
def Hb:DS:=(aJ (fS (cF (aC 0)) (gT 2 (cD (gN 2) (cD (gN 3) eT))) uH) Ch)
def yA:DS:=(aJ (aO 1 (gK aF)) Hb)
abbrev oH:Stmt:=cL 19
abbrev vX:List Str:=["_law_top","_law_bottom","_law_one","_law_other"]
abbrev oT:List Str:=["_law_top","_law_bottom"]
theorem C8:FnScope vX oT (bP oH):=⟨rfl,rfl,rfl,by decide +kernel,rfl,by decide +kernel,by decide +kernel⟩
def Hg:DS:=(aJ (Dh 2 3 (aA (aC 3) (aA (aI fZ (aC 2) (aC 3)) aF))) aR)
def Hh:DS:=(aJ (bH (aL (aA (aI mQ (aC 0) (aC 2)) (aA (aI mQ (aC 1) (aC 2)) aF)))) aR)
def En:DS:=(aJ (As (bQ (aI oE (aC 3) (aE (.int 0)))) Hg) Hh)
def Ht:DS:=(aJ (aO 3 (aC 1)) En)
def Ak:DS:=(aJ (aO 2 (bC zC (aA (aC 0) aF))) Ht)
abbrev pD:Stmt:=cL 20
abbrev xC:List Str:=["_law_one","_law_other","_law_sign_here","_law_top"]
abbrev qC:List Str:=["_law_one","_law_other","_law_sign_here"]
theorem G2:FnScope xC qC (bP pD):=⟨rfl,rfl,rfl,by decide +kernel,rfl,by decide +kernel,by decide +kernel⟩
def Jc:DS:=(aJ (bH (aP 2 lM (aA (aC 3) (aA (aI eJ (aI aW (aC 0) (aE (.int 1))) (aI aW (aC 1) (aE (.int 1)))) aF)))) aR)
def Dn:DS:=(aJ (aO 3 (aI bS (aI eJ (aI aW (aC 0) (aE (.int 0))) (aI aW (aC 1) (aE (.int 1)))) (aI eJ (aI eJ (aC 2) (aI aW (aC 1) (aE (.int 0)))) (aI aW (aC 0) (aE (.int 1)))))) Jc)
abbrev rY:Stmt:=cL 21
abbrev Aa:List Str:=["_law_feed_here","_law_top","_law_bottom"]
abbrev pZ:List Str:=["_law_feed_here"]
theorem C7:FnScope Aa pZ (bP rY):=⟨rfl,rfl,rfl,by decide +kernel,rfl,by decide +kernel,by decide +kernel⟩
def E2:DS:=(aJ (bH (aP 2 lM (aA (aC 1) (aA (aC 2) aF)))) aR)
def Yt:DS:=(aJ (aO 2 (aI aW (dW (aA (aE (.int 1)) (aA (aE (.int 1)) (aA (aE (.int 2)) (aA (aE (.int 3)) aF))))) (aP 2 bL (aA (aC 0) (aA (aE (.int 4)) aF))))) E2)
def Ft:DS:=(aJ (aO 1 (aI gA (aP 2 bL (aA (aC 0) (aA (aE (.int 7)) aF))) (aE (.int 2)))) Yt)
abbrev kZ:Stmt:=cL 23
abbrev wM:List Str:=["_law_feed_here","_law_things_here","_law_one","_law_other"]
abbrev lI:List Str:=["_law_feed_here","_law_things_here"]
theorem i5:FnScope wM lI (bP kZ):=⟨rfl,rfl,rfl,by decide +kernel,rfl,by decide +kernel,by decide +kernel⟩
def Ow:DS:=(aJ (bH (aL (aA (aI aW (aI aW (aC 1) (aC 2)) (aE (.int 0))) (aA (aI aW (aI aW (aC 1) (aC 3)) (aE (.int 0))) aF)))) aR)
def Fi:DS:=(aJ (aO 3 (aI fZ (aI bS (aI bS (aC 2) (aE (.int 1))) (aP 2 bL (aA (aC 0) (aA (aI gA (bC cY (aA (aC 1) aF)) (aE (.int 1))) aF)))) (bC cY (aA (aC 1) aF)))) Ow)
def Ac:DS:=(aJ (aO 2 (aP 2 bL (aA (aC 0) (aA (bC cY (aA (aC 1) aF)) aF)))) Fi)
abbrev sP:Stmt:=cL 24
abbrev yL:List Str:=["_law_kinds_here","_law_word","_law_x","_law_first","_law_last"]
abbrev qR:List Str:=["_law_kinds_here","_law_word","_law_x"]
theorem CJ:FnScope yL qR (bP sP):=⟨rfl,rfl,rfl,by decide +kernel,rfl,by decide +kernel,by decide +kernel⟩
def uC:DS:=(aJ (bH (aI aW (dW (aA (aL (aA (aE (.int 20)) (aA (aE (.int 1)) aF))) (aA (aI aW (dW (aA (aL (aA (aE (.int 20)) (aA (aE (.int 0)) aF))) (aA (aL (aA (aE (.int 10)) (aA (aE (.int 1)) aF))) aF))) (bC iZ (aA (aI gV (aC 4) (aE (.int 0))) aF))) aF))) (bC iZ (aA (aI gV (aC 4) (aE (.int 1))) aF)))) aR)
def oD:DS:=(aJ (cM (bQ (aI gV (aC 3) (aE (.int 1)))) (aJ (bH (aI aW (dW (aA (aL (aA (aE (.int 10)) (aA (aE (.int 0)) aF))) (aA (aL (aA (aE (.int 0)) (aA (aE (.int 1)) aF))) aF))) (bC iZ (aA (aI gV (aC 3) (aE (.int 0))) aF)))) aR) aR) uC)
def Hi:DS:=(aJ (aO 4 (aP 4 (eQ 3) (aA (aC 0) (aA (aC 1) (aA (aC 2) (aA (aI gA (bC cY (aA (aP 1 fD (aA (aI aW (aC 0) (aE (.int 1))) aF)) aF)) (aE (.int 1))) aF)))))) oD)
def wU:DS:=(aJ (aO 3 (aP 4 (eQ 3) (aA (aC 0) (aA (aC 1) (aA (aC 2) (aA (aE (.int 0)) aF)))))) Hi)
abbrev pL:Stmt:=cL 25
abbrev Aw:List Str:=["_law_ones","_law_others","_law_found","_law_one"]
abbrev pU:List Str:=["_law_ones","_law_others"]
theorem Za:FnScope Aw pU (bP pL):=⟨rfl,rfl,rfl,by decide +kernel,rfl,by decide +kernel,by decide +kernel⟩
theorem K0:List.Nodup (["_law_other","_law_one"]:List Str):=by decide +kernel
def uN:DS:=(aJ (gS (vV (aC 2) (Cw 1 [none,some 3] (gN 0) cC (aI gA (bC iZ (aA (aI oE (aC 1) (aC 0)) aF)) (bC iZ (aA (aI gV (aC 1) (aC 0)) aF)))))) aR)
def xA:DS:=(aJ (bH (bC dX (aA (aC 2) aF))) aR)
def Q7:DS:=(aJ (fS (cF (aC 0)) (gN 3) uN) xA)
def yR:DS:=(aJ (aO 2 (gK aF)) Q7)
abbrev rC:Stmt:=cL 26
abbrev Bh:List Str:=["_law_known","_law_kinds_here","_law_one","_law_other","_law_outer","_law_order","_law_by_signs","_law_here","_law_ones","_law_inner","_law_there","_law_found","_law_grid","_law_high","_law_others","_law_k","_law_some"]
abbrev tH:List Str:=["_law_known","_law_kinds_here","_law_one","_law_other"]
theorem Vp:FnScope Bh tH (bP rC):=⟨rfl,rfl,rfl,by decide +kernel,rfl,by decide +kernel,by decide +kernel⟩
theorem Xe:List.Nodup (["_law_word","_law_outer"]:List Str):=by decide +kernel
theorem AX:List.Nodup (["_law_x","_law_kinds_here","_law_one"]:List Str):=by decide +kernel
theorem Qi:List.Nodup (["_law_k","_law_here"]:List Str):=by decide +kernel
theorem Qr:List.Nodup (["_law_x","_law_other","_law_inner"]:List Str):=by decide +kernel
theorem Xo:List.Nodup (["_law_word","_law_found"]:List Str):=by decide +kernel
def Dl:DS:=(aJ (gS (mV (aC 14) (aI bS (aI aW (aI aW (aC 10) (aC 15)) (aE (.int 0))) (aI eJ (aI aW (aI aW (aC 10) (aC 15)) (aE (.int 1))) (aI aW (aC 13) (aC 15)))))) aR)
def tZ:DS:=(aJ (cM (bQ (aI Oe (aC 14) (xY (aC 14)))) (aJ (Ay (aC 11) (tU (aC 6) (aP 2 pW (aA (aC 8) (aA (aC 14) aF)))) (aE (.bool true))) aR) aR) aR)
def zN:DS:=(aJ (fS (iE (bC cY (aA (aC 10) aF))) (gN 15) Dl) tZ)
def Mq:DS:=(aJ (aO 14 (gK aF)) zN)
def Bw:DS:=(aJ (aO 13 (dW (aA (aI bS (aE (.int 1)) (aI fZ (aC 12) (aE (.int 8)))) (aA (aI bS (aE (.int 1)) (aI mQ (aC 12) (aE (.int 8)))) aF)))) Mq)
def Nt:DS:=(aJ (Ae (aC 0) (aL (aA (aC 1) (aA (aC 2) (aA (aC 3) aF)))) (bC dX (aA (aC 16) aF))) aR)
def Ng:DS:=(aJ (aO 16 (cS [none,some 11] (cF (aC 5)) (gN 0) (bQ (aI uV (aC 0) (aC 1))) (aC 0))) Nt)
def Fn:DS:=(aJ (fS (iE (aE (.int 64))) (gN 12) Bw) Ng)
def B7:DS:=(aJ (aO 11 Cn) Fn)
def Ii:DS:=(aJ (aO 10 (cS [none,some 3,some 9] (cF (aP 1 fD (aA (aI aW (aC 1) (aE (.int 2))) aF))) (gN 0) cC (aP 3 kT (aA (aC 2) (aA (aP 1 iN (aA (aC 1) aF)) (aA (aC 0) aF)))))) B7)
def Mi:DS:=(aJ (aO 9 (aL (aA (aI aW (aC 1) (aE (.int 2))) (aA (aI aW (aC 1) (aE (.int 1))) aF)))) Ii)
def Fe:DS:=(aJ (aO 8 (cS [none,some 7] (iE (bC cY (aA (aC 7) aF))) (gN 0) cC (aI bS (aI aW (aI aW (aC 1) (aC 0)) (aE (.int 0))) (aI eJ (aI aW (aI aW (aC 1) (aC 0)) (aE (.int 1))) (aI bS (aE (.int 3)) (aI eJ (aE (.int 3)) (aC 0))))))) Mi)
def Fa:DS:=(aJ (aO 7 (cS [none,some 1,some 2] (cF (aP 1 fD (aA (aI aW (aC 1) (aE (.int 0))) aF))) (gN 0) cC (aP 3 kT (aA (fI (aC 1) fR (fE (aE (.int 2)))) (aA (aC 2) (aA (aC 0) aF)))))) Fe)
def Gg:DS:=(aJ (aO 6 (Cu (cS [none,some 4] (cF (aC 5)) (gN 0) cC (aL (aA (aP 2 nD (aA (aC 1) (aA (aC 0) aF))) (aA (aC 0) aF)))))) Fa)
def G4:DS:=(aJ (aO 5 (aP 1 eK (aA (aC 4) aF))) Gg)
def Mt:DS:=(aJ (aO 4 (aL (aA (aI aW (aC 1) (aE (.int 0))) (aA (aI aW (aC 1) (aE (.int 2))) aF)))) G4)
def Kx:DS:=(aJ (bH (tU (aC 0) (aL (aA (aC 1) (aA (aC 2) (aA (aC 3) aF)))))) aR)
def vY:DS:=(aJ (cM (bQ (aI xH (aL (aA (aC 1) (aA (aC 2) (aA (aC 3) aF)))) (aC 0))) Mt aR) Kx)
abbrev sI:Stmt:=cL 28
abbrev By:List Str:=["_law_feed_here","_law_order","_law_at","_law_turn","_law_turned_ones","_law_one"]
abbrev sF:List Str:=["_law_feed_here","_law_order"]
theorem g7:FnScope By sF (bP sI):=⟨rfl,rfl,rfl,by decide +kernel,rfl,by decide +kernel,by decide +kernel⟩
theorem Vg:List.Nodup (["_law_word","_law_at","_law_turned_ones"]:List Str):=by decide +kernel
theorem CC:List.Nodup (["_law_word","_law_one"]:List Str):=by decide +kernel
def Gz:DS:=(aJ (bH (aL (aA (aC 5) (aA (bC dX (aA (cS [none,some 5] (cF (aC 1)) (gN 0) (bQ (aI tV (aC 0) (aC 1))) (aC 0)) aF)) aF)))) aR)
def Jo:DS:=(aJ (aO 5 (bC dX (aA (cS [none,some 2,some 4] (cF (aC 1)) (gN 0) (bQ (aI nC (aC 0) (fI (aC 2) fR (fE (aC 1))))) (aC 0)) aF))) Gz)
def Ho:DS:=(aJ (aO 4 (aI bS (fI (aC 1) (fE (aC 3)) fR) (fI (aC 1) fR (fE (aC 3))))) Jo)
def Oa:DS:=(aJ (aO 3 (aP 2 bL (aA (aC 0) (aA (bC cY (aA (aC 1) aF)) aF)))) Ho)
def xI:DS:=(aJ (aO 2 (aI bS (aE (.int 1)) (aP 2 bL (aA (aC 0) (aA (aI gA (bC cY (aA (aC 1) aF)) (aE (.int 1))) aF))))) Oa)
abbrev qF:Stmt:=cL 29
abbrev yH:List Str:=["_law_feed_here","_law_things_here","_law_a","_law_b","_law_kinds_here","_law_one","_law_other","_law_sayings","_law_order","_law_back_here"]
abbrev sB:List Str:=["_law_feed_here","_law_things_here"]
theorem A9:FnScope yH sB (bP qF):=⟨rfl,rfl,rfl,by decide +kernel,rfl,by decide +kernel,by decide +kernel⟩
theorem J2:List.Nodup (["_law_word","_law_other"]:List Str):=by decide +kernel
def Lv:DS:=(aJ (bH (aL (aA (aC 7) (aA (aL (aA (aL (aA (aE (.str "told")) (aA (aE (.int 0)) aF))) (aA (aL (aA (aE (.str "told")) (aA (aE (.int 1)) aF))) (aA (aL (aA (aE (.str "both")) (aA (aE (.int 0)) (aA (aE (.int 1)) aF)))) aF)))) aF)))) aR)
def Kf:DS:=(aJ (aO 7 (aL (aA (aL (aA (aE (.str "may")) (aA (aC 2) (aA (aC 3) (aA (aC 5) aF))))) (aA (aL (aA (aE (.str "may")) (aA (aC 2) (aA (aC 3) (aA (aC 6) aF))))) aF)))) Lv)
def Gx:DS:=(aJ (bH (aL (aA (aC 7) (aA (aL (aA (aL (aA (aE (.str "told")) (aA (aE (.int 0)) aF))) (aA (aL (aA (aE (.str "told")) (aA (aE (.int 1)) aF))) (aA (aL (aA (aE (.str "turned")) (aA (aE (.int 1)) aF))) (aA (aL (aA (aE (.str "both")) (aA (aE (.int 2)) (aA (aE (.int 0)) aF)))) aF))))) aF)))) aR)
def Fz:DS:=(aJ (aO 7 (aL (aA (aL (aA (aE (.str "may")) (aA (aC 2) (aA (aC 3) (aA (aC 5) aF))))) (aA (aL (aA (aE (.str "may")) (aA (aC 3) (aA (aC 2) (aA (aC 9) aF))))) aF)))) Gx)
def Ir:DS:=(aJ (aO 9 (bC dX (aA (cS [none,some 6] (cF (aC 8)) (gN 0) (bQ (aI nC (aP 1 iN (aA (aC 0) aF)) (aC 1))) (aC 0)) aF))) Fz)
def Fq:DS:=(aJ (aO 8 (aP 1 eK (aA (aL (aA (aI aW (aC 4) (aE (.int 1))) (aA (aI aW (aC 4) (aE (.int 0))) aF))) aF))) Ir)
def AB:DS:=(aJ (cM (bQ (aI dB (aP 2 bL (aA (aC 0) (aA (aE (.int 2)) aF))) (aE (.int 0)))) Kf aR) Fq)
def Lb:DS:=(aJ (lL (aP 2 qP (aA (aC 0) (aA (aP 1 eK (aA (aC 4) aF)) aF))) (gT 2 (cD (gN 5) (cD (gN 6) eT)))) AB)
def u9:DS:=(aJ (aO 4 (aP 2 gC (aA (aC 1) (aA (aL (aA (aC 2) (aA (aC 3) aF))) aF)))) Lb)
def Gi:DS:=(aJ (lL (aP 2 hU (aA (aC 0) (aA (aC 1) aF))) (gT 2 (cD (gN 2) (cD (gN 3) eT)))) u9)
abbrev nX:Stmt:=cL 30
abbrev zV:List Str:=["_law_feed_here","_law_things_here","_law_some","_law_ends","_law_k","_law_numbers","_law_last","_law_number","_law_strict","_law_sayings","_law_other","_law_steps"]
abbrev nK:List Str:=["_law_feed_here","_law_things_here"]
theorem EH:FnScope zV nK (bP nX):=⟨rfl,rfl,rfl,by decide +kernel,rfl,by decide +kernel,by decide +kernel⟩
theorem BY:List.Nodup (["_law_k","_law_feed_here"]:List Str):=by decide +kernel
def Hq:DS:=(aJ (gS (mV (aC 3) (rZ (aC 2) (aP 2 bL (aA (aC 0) (aA (bC cY (aA (aC 2) aF)) aF)))))) aR)
def zO:DS:=(aJ (aO 6 (aP 3 oC (aA (aC 6) (aA (aC 7) (aA (dG (aE (.int 1))) aF))))) aR)
def Mg:DS:=(aJ (gS (mV (aC 9) (aL (aA (aE (.str "gap")) (aA (aI aW (aC 3) (aC 4)) (aA (aC 10) (aA (aC 7) (aA (aI dB (aC 4) (aC 8)) aF)))))))) aR)
def Ix:DS:=(aJ (aO 7 (aI aW (aI bS (aC 5) (dW (aA (aC 6) aF))) (aC 4))) Mg)
def Js:DS:=(aJ (aO 10 (aI aW (aC 3) (aI fZ (aI bS (aC 4) (aE (.int 1))) (bC cY (aA (aC 3) aF))))) Ix)
def vG:DS:=(aJ (aO 11 (aI bS (aC 11) (dW (aA (aL (aA (aE (.str "told")) (aA (aC 4) aF))) (aA (aL (aA (aE (.str "add")) (aA (aI gA (aI eJ (aE (.int 2)) (aC 4)) (aE (.int 2))) (aA (aI gA (aI eJ (aE (.int 2)) (aC 4)) (aE (.int 1))) aF)))) aF))))) aR)
def Q3:DS:=(aJ (bH (aL (aA (bC dX (aA (aC 9) aF)) (aA (bC dX (aA (aC 11) aF)) aF)))) aR)
def EI:DS:=(aJ (fS (yZ (aE (.int 1)) (bC cY (aA (aC 3) aF))) (gN 4) vG) Q3)
def Rs:DS:=(aJ (aO 11 (dW (aA (aL (aA (aE (.str "told")) (aA (aE (.int 0)) aF))) aF))) EI)
def AM:DS:=(aJ (fS (iE (bC cY (aA (aC 3) aF))) (gN 4) Js) Rs)
def Tr:DS:=(aJ (aO 9 (gK aF)) AM)
def Tu:DS:=(aJ (aO 8 (aP 2 bL (aA (aC 0) (aA (bC cY (aA (aC 3) aF)) aF)))) Tr)
def Ev:DS:=(aJ (fS (cF (aC 5)) (gN 7) zO) Tu)
def Ut:DS:=(aJ (aO 6 (aI aW (dW (aA (aL (aA (aE (.int 0)) (aA (aE (.int 1)) aF))) (aA (aL (aA (dG (aE (.int 1))) (aA (aE (.int 1)) aF))) (aA (aL (aA (dG (aE (.int 1))) (aA (aE (.int 3)) aF))) (aA (aL (aA (dG (aE (.int 7))) (aA (aE (.int 2)) aF))) aF))))) (aP 2 bL (aA (aC 0) (aA (aE (.int 4)) aF))))) Ev)
def Eu:DS:=(aJ (aO 5 (cS [none,some 0] (iE (aI gA (bC cY (aA (aC 3) aF)) (aE (.int 1)))) (gN 0) cC (aP 1 nG (aA (aC 1) aF)))) Ut)
def Ez:DS:=(aJ (fS (iE (bC xW (aA (bC cY (aA (aC 2) aF)) (aA (aI bS (aE (.int 2)) (aP 2 bL (aA (aC 0) (aA (aE (.int 2)) aF)))) aF)))) (gN 4) Hq) Eu)
def Yd:DS:=(aJ (aO 3 (gK aF)) Ez)
def Bc:DS:=(aJ (aO 2 (aP 1 sW (aA (aC 1) aF))) Yd)
abbrev tD:Stmt:=cL 31
abbrev xB:List Str:=["_law_feed_here","_law_things_here","_law_a","_law_b","_law_kinds_here","_law_x","_law_y","_law_order","_law_words_here","_law_number","_law_gap","_law_sayings"]
abbrev rG:List Str:=["_law_feed_here","_law_things_here"]
theorem Ta:FnScope xB rG (bP tD):=⟨rfl,rfl,rfl,by decide +kernel,rfl,by decide +kernel,by decide +kernel⟩
theorem x8:List.Nodup (["_law_word","_law_kinds_here","_law_x","_law_y"]:List Str):=by decide +kernel
def Jb:DS:=(aJ (bH (aL (aA (aC 11) (aA (aL (aA (aL (aA (aE (.str "told")) (aA (aE (.int 0)) aF))) (aA (aL (aA (aE (.str "told")) (aA (aE (.int 1)) aF))) (aA (aL (aA (aE (.str "ends")) (aA (aE (.int 0)) (aA (aL (aA (aC 2) (aA (aC 5) aF))) (aA (aL (aA (aC 3) (aA (aC 6) aF))) aF))))) (aA (aL (aA (aE (.str "add")) (aA (aE (.int 2)) (aA (aE (.int 1)) aF)))) aF))))) aF)))) aR)
def Oj:DS:=(aJ (cM (bQ (aI dB (aP 2 bL (aA (aC 0) (aA (aE (.int 2)) aF))) (aE (.int 0)))) (aJ (bH (aL (aA (aC 11) (aA (aL (aA (aL (aA (aE (.str "told")) (aA (aE (.int 1)) aF))) (aA (aL (aA (aE (.str "told")) (aA (aE (.int 0)) aF))) (aA (aL (aA (aE (.str "strike")) (aA (aE (.int 1)) (aA (aE (.int 0)) aF)))) aF)))) aF)))) aR) aR) Jb)
def Sr:DS:=(aJ (aO 11 (aL (aA (aL (aA (aE (.str "may")) (aA (aC 2) (aA (aC 3) (aA (bC dX (aA (aC 8) aF)) aF))))) (aA (aC 10) aF)))) Oj)
def Ig:DS:=(aJ (aO 10 (aL (aA (aE (.str "gap")) (aA (aL (aA (aC 3) (aA (aC 6) aF))) (aA (aL (aA (aC 2) (aA (aC 5) aF))) (aA (aC 9) (aA (aI dB (aC 9) (aL (aA (aE (.int 0)) (aA (aE (.int 1)) aF)))) aF))))))) Sr)
def Pw:DS:=(aJ (aO 9 (aI aW (dW (aA (aL (aA (dG (aE (.int 1))) (aA (aE (.int 1)) aF))) (aA (aL (aA (dG (aE (.int 1))) (aA (aE (.int 999983)) aF))) (aA (aL (aA (aE (.int 0)) (aA (aE (.int 1)) aF))) aF)))) (aP 2 bL (aA (aC 0) (aA (aE (.int 3)) aF))))) Ig)
def Hv:DS:=(aJ (aO 8 (cS [none,some 4,some 5,some 6] (cF (aC 7)) (gN 0) (bQ (aI gV (aP 4 (eQ 3) (aA (aC 1) (aA (aC 0) (aA (aC 2) (aA (aC 3) aF))))) (aE (.int 1)))) (aC 0))) Pw)
def O9:DS:=(aJ (aO 7 (aP 1 eK (aA (aC 4) aF))) Hv)
def Gk:DS:=(aJ (aO 6 (aP 2 bL (aA (aC 0) (aA (bC cY (aA (aP 1 fD (aA (aI aW (aC 4) (aE (.int 1))) aF)) aF)) aF)))) O9)
def Ol:DS:=(aJ (aO 5 (aP 2 bL (aA (aC 0) (aA (bC cY (aA (aP 1 fD (aA (aI aW (aC 4) (aE (.int 0))) aF)) aF)) aF)))) Gk)
def Nk:DS:=(aJ (aO 4 (aP 2 gC (aA (aC 1) (aA (aL (aA (aC 2) (aA (aC 3) aF))) aF)))) Ol)
def Mk:DS:=(aJ (lL (aP 2 hU (aA (aC 0) (aA (aC 1) aF))) (gT 2 (cD (gN 2) (cD (gN 3) eT)))) Nk)
abbrev rN:Stmt:=cL 32
abbrev De:List Str:=["_law_feed_here","_law_things_here","_law_a","_law_b","_law_kinds_here","_law_x","_law_order","_law_low","_law_high","_law_first","_law_sayings","_law_parts"]
abbrev pI:List Str:=["_law_feed_here","_law_things_here"]
theorem Vb:FnScope De pI (bP rN):=⟨rfl,rfl,rfl,by decide +kernel,rfl,by decide +kernel,by decide +kernel⟩
theorem EJ:List.Nodup (["_law_word","_law_kinds_here","_law_x"]:List Str):=by decide +kernel
theorem Xl:List.Nodup (["_law_word","_law_kinds_here","_law_x"]:List Str):=by decide +kernel
def Dj:DS:=(aJ (bH (aL (aA (aC 10) (aA (aL (aA (aL (aA (aE (.str "any")) (aA (aC 2) (aA (aC 3) aF)))) (aA (aL (aA (aE (.str "told")) (aA (aE (.int 0)) aF))) (aA (aL (aA (aE (.str "told")) (aA (aE (.int 1)) aF))) (aA (aL (aA (aE (.str "cases")) (aA (aE (.int 0)) (aA (aC 11) aF)))) aF))))) aF)))) aR)
def Fl:DS:=(aJ (cM (bQ (aI dB (aP 2 bL (aA (aC 0) (aA (aE (.int 2)) aF))) (aE (.int 0)))) (aJ (aO 11 (aI bS (Ar (aC 11)) (fI (aC 11) fR (fE (aE (.int 1)))))) aR) aR) Dj)
def CN:DS:=(aJ (aO 11 (aL (aA (aL (aA (aC 7) (aA (aL (aA (aL (aA (aE (.str "strike")) (aA (aE (.int 3)) (aA (aE (.int 1)) aF)))) aF)) aF))) (aA (aL (aA (aC 8) (aA (aL (aA (aL (aA (aE (.str "strike")) (aA (aE (.int 3)) (aA (aE (.int 2)) aF)))) aF)) aF))) aF)))) Fl)
def Eo:DS:=(aJ (aO 10 (aL (aA (aC 9) (aA (aL (aA (aE (.str "gap")) (aA (aL (aA (aC 2) (aA (aC 5) aF))) (aA (aL (aA (aC 3) (aA (aE (.int 0)) aF))) (aA (aL (aA (aE (.int 0)) (aA (aE (.int 1)) aF))) (aA (aE (.bool true)) aF)))))) aF)))) CN)
def He:DS:=(aJ (aO 9 (aL (aA (aE (.str "gap")) (aA (aL (aA (aC 3) (aA (aE (.int 0)) aF))) (aA (aL (aA (aC 2) (aA (aC 5) aF))) (aA (aL (aA (dG (aE (.int 1))) (aA (aE (.int 1)) aF))) (aA (aE (.bool false)) aF))))))) Eo)
def Fv:DS:=(aJ (aO 8 (bC dX (aA (cS [none,some 4,some 5] (cF (aC 6)) (gN 0) (bQ (aI oE (aP 4 (eQ 3) (aA (aC 1) (aA (aC 0) (aA (aC 2) (aA (aE (.int 0)) aF))))) (dG (aE (.int 1))))) (aC 0)) aF))) He)
def Fp:DS:=(aJ (aO 7 (bC dX (aA (cS [none,some 4,some 5] (cF (aC 6)) (gN 0) (bQ (aI gV (aP 4 (eQ 3) (aA (aC 1) (aA (aC 0) (aA (aC 2) (aA (aE (.int 0)) aF))))) (aE (.int 1)))) (aC 0)) aF))) Fv)
def y9:DS:=(aJ (aO 6 (aP 1 eK (aA (aC 4) aF))) Fp)
def Fx:DS:=(aJ (aO 5 (aP 2 bL (aA (aC 0) (aA (bC cY (aA (aP 1 fD (aA (aI aW (aC 4) (aE (.int 0))) aF)) aF)) aF)))) y9)
def Ks:DS:=(aJ (aO 4 (aP 2 gC (aA (aC 1) (aA (aL (aA (aC 2) (aA (aC 3) aF))) aF)))) Fx)
def Jq:DS:=(aJ (lL (aP 2 hU (aA (aC 0) (aA (aC 1) aF))) (gT 2 (cD (gN 2) (cD (gN 3) eT)))) Ks)
abbrev qN:Stmt:=cL 33
abbrev Cp:List Str:=["_law_feed_here","_law_things_here","_law_some","_law_own","_law_number","_law_sayings"]
abbrev rW:List Str:=["_law_feed_here","_law_things_here"]
theorem Vr:FnScope Cp rW (bP qN):=⟨rfl,rfl,rfl,by decide +kernel,rfl,by decide +kernel,by decide +kernel⟩
theorem Ic:List.Nodup (["_law_name","_law_kind"]:List Str):=by decide +kernel
def CP:DS:=(aJ (bH (aL (aA (aC 5) (aA (aL (aA (aL (aA (aE (.str "long")) (aA (aC 3) aF))) (aA (aL (aA (aE (.str "told")) (aA (aE (.int 0)) aF))) (aA (aL (aA (aE (.str "add")) (aA (aE (.int 0)) (aA (aE (.int 1)) aF)))) aF)))) aF)))) aR)
def P7:DS:=(aJ (aO 5 (aL (aA (aL (aA (aE (.str "gap")) (aA (aL (aA (aC 3) (aA (aE (.int 1)) aF))) (aA (aL (aA (aC 3) (aA (aE (.int 0)) aF))) (aA (aC 4) (aA (aE (.bool false)) aF)))))) aF))) CP)
def Z0:DS:=(aJ (aO 4 (aI aW (dW (aA (aL (aA (aE (.int 0)) (aA (aE (.int 1)) aF))) (aA (aL (aA (dG (aE (.int 1))) (aA (aE (.int 2)) aF))) aF))) (aP 2 bL (aA (aC 0) (aA (aE (.int 2)) aF))))) P7)
def Gd:DS:=(aJ (aO 3 (aI aW (aC 2) (aP 2 bL (aA (aC 0) (aA (bC cY (aA (aC 2) aF)) aF))))) Z0)
def Jd:DS:=(aJ (cM (bQ (aI dB (aC 2) (dW aF))) (aJ (bH (aP 2 mD (aA (aC 0) (aA (aC 1) aF)))) aR) aR) Gd)
def Bp:DS:=(aJ (aO 2 (cS [none,none] (cF (aC 1)) (gT 2 (cD (gN 0) (cD (gN 1) eT))) (bQ (aI dB (aC 1) (aE (.str "stretch")))) (aC 0))) Jd)
abbrev rF:Stmt:=cL 34
abbrev xM:List Str:=["_law_feed_here","_law_things_here","_law_names","_law_a","_law_b","_law_c","_law_kinds_here","_law_one","_law_other","_law_found","_law_order","_law_rest","_law_sayings","_law_steps"]
abbrev qM:List Str:=["_law_feed_here","_law_things_here"]
theorem Zf:FnScope xM qM (bP rF):=⟨rfl,rfl,rfl,by decide +kernel,rfl,by decide +kernel,by decide +kernel⟩
theorem Jw:List.Nodup (["_law_name","_law_kind"]:List Str):=by decide +kernel
theorem GE:List.Nodup (["_law_word","_law_found"]:List Str):=by decide +kernel
def v3:DS:=(aJ (bH (aL (aA (aC 12) (aA (aC 13) aF)))) aR)
def V6:DS:=(aJ (aO 13 (aL (aA (aL (aA (aE (.str "told")) (aA (aE (.int 1)) aF))) (aA (aL (aA (aE (.str "told")) (aA (aE (.int 2)) aF))) (aA (aL (aA (aE (.str "behind")) (aA (aE (.int 0)) (aA (aE (.int 1)) aF)))) (aA (aL (aA (aE (.str "told")) (aA (aE (.int 0)) aF))) (aA (aL (aA (aE (.str "both")) (aA (aE (.int 3)) (aA (aE (.int 2)) aF)))) aF))))))) v3)
def T7:DS:=(aJ (aO 12 (aI bS (aC 12) (aL (aA (aL (aA (aE (.str "may")) (aA (aC 4) (aA (aC 5) (aA (aL (aA (aC 8) aF)) aF))))) aF)))) V6)
def AQ:DS:=(aJ (aO 12 (aL (aA (aL (aA (aE (.str "may")) (aA (aC 3) (aA (aC 5) (aA (aC 11) aF))))) (aA (aL (aA (aE (.str "may")) (aA (aC 3) (aA (aC 4) (aA (aL (aA (aC 7) aF)) aF))))) aF)))) T7)
def Na:DS:=(aJ (cM (bQ (aI dB (aC 11) (aL aF))) (aJ (bH (aE .none)) aR) aR) AQ)
def Dz:DS:=(aJ (aO 11 (bC dX (aA (cS [none,some 9] (cF (aC 10)) (gN 0) (bQ (aI tV (aC 0) (aC 1))) (aC 0)) aF))) Na)
def Rc:DS:=(aJ (aO 10 (aP 1 eK (aA (aL (aA (aI aW (aC 6) (aE (.int 0))) (aA (aI aW (aC 6) (aE (.int 2))) aF))) aF))) Dz)
def Ni:DS:=(aJ (aO 9 (aP 4 sX (aA wB (aA (aC 6) (aA (aC 7) (aA (aC 8) aF)))))) Rc)
def Rk:DS:=(aJ (aO 8 (aI aW (aC 8) (aP 2 bL (aA (aC 0) (aA (bC cY (aA (aC 8) aF)) aF))))) Ni)
def Ot:DS:=(aJ (aO 8 (aP 1 eK (aA (fI (aC 6) (fE (aE (.int 1))) fR) aF))) Rk)
def W8:DS:=(aJ (aO 7 (aI aW (aC 7) (aP 2 bL (aA (aC 0) (aA (bC cY (aA (aC 7) aF)) aF))))) Ot)
def Kl:DS:=(aJ (aO 7 (aP 1 eK (aA (fI (aC 6) fR (fE (aE (.int 2)))) aF))) W8)
def Uj:DS:=(aJ (aO 6 (aP 2 gC (aA (aC 1) (aA (aL (aA (aC 3) (aA (aC 4) (aA (aC 5) aF)))) aF)))) Kl)
def Fc:DS:=(aJ (aO 5 (aI aW (aC 2) (aP 2 bL (aA (aC 0) (aA (bC cY (aA (aC 2) aF)) aF))))) Uj)
def xN:DS:=(aJ (aO 4 (rZ (aC 2) (aP 2 bL (aA (aC 0) (aA (bC cY (aA (aC 2) aF)) aF))))) Fc)
def Md:DS:=(aJ (aO 3 (rZ (aC 2) (aP 2 bL (aA (aC 0) (aA (bC cY (aA (aC 2) aF)) aF))))) xN)
def xL:DS:=(aJ (aO 2 (jW [none,none] (cF (aC 1)) (gT 2 (cD (gN 0) (cD (gN 1) eT))) cC (aC 0))) Md)
abbrev rK:Stmt:=cL 35
abbrev Cj:List Str:=["_law_feed_here","_law_things_here","_law_way","_law_found"]
abbrev pX:List Str:=["_law_feed_here","_law_things_here"]
theorem a7:FnScope Cj pX (bP rK):=⟨rfl,rfl,rfl,by decide +kernel,rfl,by decide +kernel,by decide +kernel⟩
def Ib:DS:=(aJ (bH (oB (bQ (aI Dc (aC 3) (aE .none))) (aP 2 mD (aA (aC 0) (aA (aC 1) aF))) (aC 3))) aR)
def wQ:DS:=(aJ (aO 3 (oB (bQ (aI dB (aC 2) (aE (.int 4)))) (aP 2 rR (aA (aC 0) (aA (aC 1) aF))) (aE .none))) Ib)
def vD:DS:=(aJ (cM (bQ (aI dB (aC 2) (aE (.int 3)))) (aJ (bH (aP 2 rE (aA (aC 0) (aA (aC 1) aF)))) aR) aR) wQ)
def sA:DS:=(aJ (cM (bQ (aI dB (aC 2) (aE (.int 2)))) (aJ (bH (aP 2 sH (aA (aC 0) (aA (aC 1) aF)))) aR) aR) vD)
def mY:DS:=(aJ (cM (bQ (aI dB (aC 2) (aE (.int 1)))) (aJ (bH (aP 2 sC (aA (aC 0) (aA (aC 1) aF)))) aR) aR) sA)
def mT:DS:=(aJ (cM (bQ (aI dB (aC 2) (aE (.int 0)))) (aJ (bH (aP 2 rH (aA (aC 0) (aA (aC 1) aF)))) aR) aR) mY)
def Ax:DS:=(aJ (aO 2 (aP 2 bL (aA (aC 0) (aA (aE (.int 6)) aF)))) mT)
abbrev mU:Stmt:=cL 36
abbrev wL:List Str:=["_law_paper","_law_many","_law_numbers","_law_found","_law_step","_law_parts","_law_words_here","_law_one"]
abbrev mG:List Str:=["_law_paper","_law_many","_law_numbers"]
theorem Vz:FnScope wL mG (bP mU):=⟨rfl,rfl,rfl,by decide +kernel,rfl,by decide +kernel,by decide +kernel⟩
def uK(j:Nat):DS:=(aJ (gS (mV (aC 5) (aL (aA (aC 6) (aA (aP 3 (gW j) (aA (aC 7) (aA (aC 1) (aA (aC 2) aF)))) aF))))) aR)
def vT(j:Nat):DS:=(aJ (aO 4 (aL (aA (aE (.str "cases")) (aA (aI bS (aI aW (aC 4) (aE (.int 1))) (aC 1)) (aA (bC dX (aA (aC 5) aF)) aF))))) aR)
def j5(j:Nat):DS:=(aJ (fS (cF (aI aW (aC 4) (aE (.int 2)))) (gT 2 (cD (gN 6) (cD (gN 7) eT))) (uK j)) (vT j))
def Uu(j:Nat):DS:=(aJ (aO 5 (gK aF)) (j5 j))
def Kz(j:Nat):DS:=(aJ (gS (mV (aC 3) (aC 4))) aR)
def oZ(j:Nat):DS:=(aJ (cM (bQ (aI dB (aI aW (aC 4) (aE (.int 0))) (aE (.str "told")))) (aJ (aO 4 (aL (aA (aE (.str "told")) (aA (aI aW (aC 2) (aI aW (aC 4) (aE (.int 1)))) aF)))) aR) (aJ (cM (bQ (aI nC (aI aW (aC 4) (aE (.int 0))) (aL (aA (aE (.str "turned")) (aA (aE (.str "ends")) aF))))) (aJ (aO 4 (aI bS (aL (aA (aI aW (aC 4) (aE (.int 0))) (aA (aI bS (aI aW (aC 4) (aE (.int 1))) (aC 1)) aF))) (fI (aC 4) (fE (aE (.int 2))) fR))) aR) (aJ (cM (bQ (aI nC (aI aW (aC 4) (aE (.int 0))) (aL (aA (aE (.str "behind")) (aA (aE (.str "both")) (aA (aE (.str "strike")) (aA (aE (.str "add")) aF))))))) (aJ (aO 4 (aL (aA (aI aW (aC 4) (aE (.int 0))) (aA (aI bS (aI aW (aC 4) (aE (.int 1))) (aC 1)) (aA (aI bS (aI aW (aC 4) (aE (.int 2))) (aC 1)) aF))))) aR) (aJ (cM (bQ (aI dB (aI aW (aC 4) (aE (.int 0))) (aE (.str "cases")))) (Uu j) aR) aR)) aR)) aR)) (Kz j))
def qG(j:Nat):DS:=(aJ (bH (bC dX (aA (aC 3) aF))) aR)
def Ye(j:Nat):DS:=(aJ (fS (cF (aC 0)) (gN 4) (oZ j)) (qG j))
def yV(j:Nat):DS:=(aJ (aO 3 (gK aF)) (Ye j))
abbrev uI:Stmt:=cL 37
abbrev Bi:List Str:=["_law_script","_law_feed_here","_law_k","_law_things_here","_law_sayings","_law_paper","_law_own","_law_turn","_law_pair","_law_words_here","_law_inner","_law_many","_law_numbers","_law_stood","_law_later"]
abbrev vF:List Str:=["_law_script"]
theorem V8:FnScope Bi vF (bP uI):=⟨rfl,rfl,rfl,by decide +kernel,rfl,by decide +kernel,by decide +kernel⟩
theorem t8:List.Nodup (["_law_number","_law_feed_here"]:List Str):=by decide +kernel
def Um:DS:=(aJ (aO 5 (aL (aA (aI bS (aL (aA (aE (.str "any")) aF)) (aC 8)) (aA (aL (aA (aE (.str "cases")) (aA (aE (.int 0)) (aA (aC 10) aF)))) aF)))) aR)
def ES:DS:=(aJ (aO 10 (aL (aA (aL (aA (aC 9) (aA (aP 3 (gW 5) (aA (aC 5) (aA (aE (.int 2)) (aA (aC 6) aF)))) aF))) aF))) Um)
def Ve:DS:=(aJ (aO 9 (aP 1 eK (aA (aP 2 gC (aA (aC 3) (aA (aC 8) aF))) aF))) ES)
def M4:DS:=(aJ (aO 8 (aP 2 hU (aA (aC 1) (aA (aC 3) aF)))) Ve)
def K4:DS:=(aJ (cM (bQ (aI lT (bC gY (aA (aL (aA (aC 5) (aA (aC 12) aF))) aF)) (aC 13))) (aJ (bH (aE (.bool false))) aR) aR) aR)
def Qg:DS:=(aJ (cM (bQ (aI lT (bC gY (aA (aP 2 (iR 5) (aA (aC 5) (aA (aC 12) aF))) aF)) (bC gY (aA (aP 3 (gW 5) (aA (aC 5) (aA (aE (.int 0)) (aA (aC 12) aF)))) aF)))) (aJ (bH (aE (.bool false))) aR) aR) K4)
def Vk:DS:=(aJ (cM (bQ (aI lT (bC gY (aA (aP 2 (gD 5) (aA (aC 5) (aA (aE (.int 0)) aF))) aF)) (bC gY (aA (aC 5) aF)))) (aJ (bH (aE (.bool false))) aR) aR) Qg)
def F1:DS:=(aJ (cM (bQ (aI lT (bC gY (aA (aP 2 (gD 5) (aA (aC 14) (aA (aE (.int 3)) aF))) aF)) (bC gY (aA (aP 2 (gD 5) (aA (aC 5) (aA (aI bS (aC 11) (aE (.int 3))) aF))) aF)))) (aJ (bH (aE (.bool false))) aR) aR) Vk)
def O6:DS:=(aJ (cM (bQ (aI lT (bC gY (aA (aC 14) aF)) (bC gY (aA (aP 3 (gW 5) (aA (aC 5) (aA (aC 11) (aA (aC 6) aF)))) aF)))) (aJ (bH (aE (.bool false))) aR) aR) F1)
def B1:DS:=(aJ (aO 14 (aP 2 (gD 5) (aA (aC 5) (aA (aC 11) aF)))) O6)
def AO:DS:=(aJ (aO 13 (bC gY (aA (aL (aA (aC 5) (aA (aC 12) aF))) aF))) B1)
def FZ:DS:=(aJ (aO 12 (bC dX (aA (cS [none,some 1] (cF (aC 6)) (gN 0) cC (aP 2 bL (aA (aC 1) (aA (aE (.int 24)) aF)))) aF))) AO)
def g9:DS:=(aJ (aO 11 (aI aW (dW (aA (aE (.int 0)) (aA (aE (.int 1)) (aA (aE (.int 2)) (aA (aE (.int 100)) (aA (aP 2 bL (aA (aC 1) (aA (aE (.int 9)) aF))) aF)))))) (aP 2 bL (aA (aC 1) (aA (aE (.int 5)) aF))))) FZ)
def DJ:DS:=(aJ (fS (iE (aP 2 bL (aA (aC 1) (aA (aE (.int 3)) aF)))) (gN 7) M4) g9)
def Vv:DS:=(aJ (aO 6 (xU (bC cY (aA (aC 4) aF)))) DJ)
def Pd:DS:=(aJ (lL (aP 2 qK (aA (aC 1) (aA (aC 3) aF))) (gT 2 (cD (gN 4) (cD (gN 5) eT)))) Vv)
def Pa:DS:=(aJ (aO 3 (aP 3 sL (aA (aC 1) (aA (aE (.int 3)) (aA (aE (.int 4)) aF))))) Pd)
def Qx:DS:=(aJ (bH (aE (.bool true))) aR)
def FL:DS:=(aJ (fS (iE (aE (.int 6))) (gN 2) Pa) Qx)
def Ma:DS:=(aJ (aO 1 (aP 1 pH (aA (aC 0) aF))) FL)
end K29
namespace K29
open PySem PySem.Spec PyProof.Rows L2 DL
section
variable {P:Program}{w:World}{K:PySem.W.Frag}{mg:Str->Option Value}{base:Heap}
theorem uT{P:List Value->Prop}(h:P []):∀ us:List Value,us.length=0->P us
 | [],_=>h
 | _::_,e=>nomatch e
theorem jO{P:List Value->Prop}{n:Nat}(h:∀ a us,us.length=n->P (a::us)):∀ us:List Value,us.length=n+1->P us
 | [],e=>nomatch e
 | a::us,e=>h a us (Nat.succ.inj e)
theorem kI{fd:FuncData}{ps:List Str}(h:∀ a0,bindArgs fd {pos:=[a0]}=pure (ps.zip [a0]))(us:List Value)(hl:us.length=1):bindArgs fd {pos:=us}=pure (ps.zip us) :=
 (jO (P:=fun us=>bindArgs fd {pos:=us}=pure (ps.zip (us))) (fun a0=>uT (P:=fun us=>bindArgs fd {pos:=a0::us}=pure (ps.zip (a0::us))) (h a0))) us hl
theorem eE{fd:FuncData}{ps:List Str}(h:∀ a0 a1,bindArgs fd {pos:=[a0,a1]}=pure (ps.zip [a0,a1]))(us:List Value)(hl:us.length=2):bindArgs fd {pos:=us}=pure (ps.zip us) :=
 (jO (P:=fun us=>bindArgs fd {pos:=us}=pure (ps.zip (us))) (fun a0=>jO (P:=fun us=>bindArgs fd {pos:=a0::us}=pure (ps.zip (a0::us))) (fun a1=>uT (P:=fun us=>bindArgs fd {pos:=a0::a1::us}=pure (ps.zip (a0::a1::us))) (h a0 a1)))) us hl
theorem qI{fd:FuncData}{ps:List Str}(h:∀ a0 a1 a2,bindArgs fd {pos:=[a0,a1,a2]}=pure (ps.zip [a0,a1,a2]))(us:List Value)(hl:us.length=3):bindArgs fd {pos:=us}=pure (ps.zip us) :=
 (jO (P:=fun us=>bindArgs fd {pos:=us}=pure (ps.zip (us))) (fun a0=>jO (P:=fun us=>bindArgs fd {pos:=a0::us}=pure (ps.zip (a0::us))) (fun a1=>jO (P:=fun us=>bindArgs fd {pos:=a0::a1::us}=pure (ps.zip (a0::a1::us))) (fun a2=>uT (P:=fun us=>bindArgs fd {pos:=a0::a1::a2::us}=pure (ps.zip (a0::a1::a2::us))) (h a0 a1 a2))))) us hl
theorem Bf{fd:FuncData}{ps:List Str}(h:∀ a0 a1 a2 a3,bindArgs fd {pos:=[a0,a1,a2,a3]}=pure (ps.zip [a0,a1,a2,a3]))(us:List Value)(hl:us.length=4):bindArgs fd {pos:=us}=pure (ps.zip us) :=
 (jO (P:=fun us=>bindArgs fd {pos:=us}=pure (ps.zip (us))) (fun a0=>jO (P:=fun us=>bindArgs fd {pos:=a0::us}=pure (ps.zip (a0::us))) (fun a1=>jO (P:=fun us=>bindArgs fd {pos:=a0::a1::us}=pure (ps.zip (a0::a1::us))) (fun a2=>jO (P:=fun us=>bindArgs fd {pos:=a0::a1::a2::us}=pure (ps.zip (a0::a1::a2::us))) (fun a3=>uT (P:=fun us=>bindArgs fd {pos:=a0::a1::a2::a3::us}=pure (ps.zip (a0::a1::a2::a3::us))) (h a0 a1 a2 a3)))))) us hl
theorem BN(D:Df K mg "rows_named" pY 22){kL:Addr}(Bk:mg "ROW_NUMBERS_END"=some (.ref kL))(Af:KD K w kL kW)(vc:cJ pR Ad sQ lO):aS P w K mg base "rows_named" pY 22 pR 1 sQ :=
 cK D (fun _ _ _ _ _ _=>kI (by intros;rfl)) X5 (fun _ _ _ _ _ _ hr nd=>(aK (bK (fY (aD 0) (fV aH) (fV (Qm rfl Bk Af (aZ (aD 0) aH) aH)))) aT)) vc
theorem DP(D:Df K mg "with_rows" pP 29)(bB:mg "tuple"=none)(bN:mg "len"=none)(vc:cJ rQ yY nP Ce):aS P w K mg base "with_rows" pP 29 rQ 1 nP :=
 cK D (fun _ _ _ _ _ _=>eE (by intros;rfl)) n9 (fun _ _ _ _ _ _ hr nd=>(aK (bK (aX bW (aX bW (fY (aD 0) gH (fV aH)) (dA eF rfl bB dY (aB (aD 1) aG))) (fY (aD 0) (fV (aX bW aH (bX dH rfl bN dE (aB (aD 1) aG)))) gH))) aT)) vc
theorem qT{j:Nat}(D:Df K mg "laid_step" tI 34)(lV:aS P w K mg base "with_rows" pP 29 rQ 1 nP)(mN:aS P w K mg base "rows_named" pY 22 pR 1 sQ)(lE:aS P w K mg base "laid_behind" nV 39 lX (2*j+2) (gD j))(bB:mg "tuple"=none)(vc:cJ pV Da (nR j) (zM j)):aS P w K mg base "laid_step" tI 34 pV (2*j+2+1) (nR j) :=
 cK D (fun _ _ _ _ _ _=>eE (by intros;rfl)) AS (fun _ _ _ _ _ _ hr nd=>(aK (aV 2 nd (aU lV (hr.mono (by omega)) rfl (aB (aD 0) (aB (fQ ["number","many"] [none,some 1] rfl (cT (aU mN (hr.mono (by omega)) rfl (aB (aD 0) aG))) (fun cl C s2 H2 pins fp=>(bI 0 EW)) (fun cl C s2 H2 pins fp=>eP) (fun cl C s2 H2 pins fp=>(aX bW (aD 0) (aD 1)))) aG)))) (aK (cR (bV (dP hr.u100) (aZ (aD 0) aH) aQ) (aK (bK (aX bW (fY (aD 2) gH (fV aH)) (aM (aB (dA eF rfl bB dY (aB (fQ ["words","paper","many"] [none,none,some 1] rfl (cT (aZ (aD 0) aH)) (fun cl C s2 H2 pins fp=>(iC rfl (eA (bI 0 Fg) (eA (bI 1 Fg) iD)))) (fun cl C s2 H2 pins fp=>eP) (fun cl C s2 H2 pins fp=>(aM (aB (aD 0) (aB (aU lE (hr.mono (by omega)) rfl (aB (aD 1) (aB (aD 2) aG))) aG))))) aG)) aG)))) aT) aT) (aK (bK (aD 2)) aT)))) vc
theorem sD{j:Nat}(D:Df K mg "laid_behind" nV 39)(z8:aS P w K mg base "laid_step" tI 34 pV (2*j+2+1) (nR j))(bB:mg "tuple"=none)(vc:cJ lX wS (gD (j+1)) (yP j)):aS P w K mg base "laid_behind" nV 39 lX (2*j+2+1+1) (gD (j+1)) :=
 cK D (fun _ _ _ _ _ _=>eE (by intros;rfl)) Pf (fun _ _ _ _ _ _ hr nd=>(aK (bK (dA eF rfl bB dY (aB (fQ ["step","many"] [none,some 1] rfl (cT (aD 0)) (fun cl C s2 H2 pins fp=>(bI 0 BM)) (fun cl C s2 H2 pins fp=>eP) (fun cl C s2 H2 pins fp=>(aU z8 (hr.mono (by omega)) rfl (aB (aD 0) (aB (aD 1) aG))))) aG))) aT)) vc
theorem qZ{j:Nat}(D:Df K mg "retold_step" qH 44)(pB:aS P w K mg base "retold" nF 49 mH (2*j+1) (iR j))(bB:mg "tuple"=none)(vc:cJ pO zJ (oM j) (Dq j)):aS P w K mg base "retold_step" qH 44 pO (2*j+1+1) (oM j) :=
 cK D (fun _ _ _ _ _ _=>eE (by intros;rfl)) V4 (fun _ _ _ _ _ _ hr nd=>(aK (cR (bV (dP hr.u100) (aZ (aD 0) aH) aQ) (aK (bK (aM (aB aQ (aB (aZ (aD 1) (aZ (aD 0) aH)) aG)))) aT) aT) (aK (cR (bV (dP hr.u100) (aZ (aD 0) aH) aQ) (aK (bK (aX bW (fY (aD 0) gH (fV aH)) (aM (aB (dA eF rfl bB dY (aB (fQ ["words","paper","numbers"] [none,none,some 1] rfl (cT (aZ (aD 0) aH)) (fun cl C s2 H2 pins fp=>(iC rfl (eA (bI 0 Hd) (eA (bI 1 Hd) iD)))) (fun cl C s2 H2 pins fp=>eP) (fun cl C s2 H2 pins fp=>(aM (aB (aD 0) (aB (aU pB (hr.mono (by omega)) rfl (aB (aD 1) (aB (aD 2) aG))) aG))))) aG)) aG)))) aT) aT) (aK (bK (aD 0)) aT)))) vc
theorem rA{j:Nat}(D:Df K mg "retold" nF 49)(Qb:aS P w K mg base "retold_step" qH 44 pO (2*j+1+1) (oM j))(bB:mg "tuple"=none)(vc:cJ mH wV (iR (j+1)) (xF j)):aS P w K mg base "retold" nF 49 mH (2*j+1+1+1) (iR (j+1)) :=
 cK D (fun _ _ _ _ _ _=>eE (by intros;rfl)) Sy (fun _ _ _ _ _ _ hr nd=>(aK (bK (dA eF rfl bB dY (aB (fQ ["step","numbers"] [none,some 1] rfl (cT (aD 0)) (fun cl C s2 H2 pins fp=>(bI 0 Wg)) (fun cl C s2 H2 pins fp=>eP) (fun cl C s2 H2 pins fp=>(aU Qb (hr.mono (by omega)) rfl (aB (aD 0) (aB (aD 1) aG))))) aG))) aT)) vc
theorem V9(D:Df K mg "_law_feed" sN 56)(nA:mg "list"=none)(hX:mg "int"=none)(vc:cJ pE yO pH xZ):aS P w K mg base "_law_feed" sN 56 pE 1 pH :=
 cK D (fun _ _ _ _ _ _=>kI (by intros;rfl)) Ru (fun _ _ _ _ _ _ hr nd=>(aK (bK (iP (aB (aX bW (dA F0 rfl nA Ef (aB (fY (aD 0) gH (fV aH)) aG)) (aX ER (iP (aB aH aG)) (dA oA rfl hX nL (aB (kU (dP hr.u100) (aD 0) (eO aG)) aG)))) (aB aH (aB aH (aB aH aG)))))) aT)) vc
theorem Z1(D:Df K mg "_law_draw" fM 63)(bN:mg "len"=none)(vc:cJ fL wF bL Os):aS P w K mg base "_law_draw" fM 63 fL 1 bL :=
 cK D (fun _ _ _ _ _ _=>eE (by intros;rfl)) D4 (fun _ _ _ _ _ _ hr nd=>(aK (tN (aX bW (aZ (aD 0) aH) aH) (aD 0) aH) (aK (aV 2 nd (aZ (aD 0) aH)) (aK (cR (bV (dP hr.u100) (aZ (aD 0) aH) aH) (aK (aV 3 nd (aZ (aZ (aD 0) aH) (aX gM (aZ (aD 0) aH) (bX dH rfl bN dE (aB (aZ (aD 0) aH) aG))))) (aK (tN (aX bW (aZ (aD 0) aH) aH) (aD 0) aH) (aK (cR (bV jX (aD 3) (aX Ph aH aH)) (aK (aV 4 nd (aX gM (aX fF (aX bW (aX gM (aD 3) aH) aH) (aX bW (aX bW (aX fF (aX fF aH (aD 2)) (aD 2)) (aX fF aH (aD 2))) aH)) aH)) (aK (aV 4 nd (aX bW (aX fF (aD 4) (aX bW (aX gM (aD 4) aH) aH)) (aD 2))) (aK (bK (aX gM (aX qQ (aX gM (aD 4) aH) aH) (aD 1))) aT))) aT) (aK (tN (aD 3) (aD 0) aH) aT)))) aT) (aK (aV 5 nd (aX gM (aZ (aD 0) aH) (aD 1))) (aK (tN (aX qQ (aZ (aD 0) aH) (aD 1)) (aD 0) aH) (aK (bK (aD 5)) aT))))))) vc
theorem a9(D:Df K mg "_law_things" qS 68)(bG:aS P w K mg base "_law_draw" fM 63 fL 1 bL)(nT:mg "sorted"=none)(eM:mg "range"=none)(bB:mg "tuple"=none)(Aq:mg "zip"=none)(vc:cJ pQ yJ sL Ji):aS P w K mg base "_law_things" qS 68 pQ 2 sL :=
 cK D (fun _ _ _ _ _ _=>qI (by intros;rfl)) CA (fun _ _ _ _ _ _ hr nd=>(aK (aV 3 nd (eO (aB aQ (aB aQ (aB aQ (aB aQ (aB aQ (aB aQ (aB aQ (aB aQ (aB aQ (aB aQ (aB aQ aG))))))))))))) (aK (aV 4 nd (aX bW (aD 1) (aU bG (hr.mono (by decide)) rfl (aB (aD 0) (aB (aX bW (aX iG (aD 2) (aD 1)) aH) aG))))) (aK (aV 5 nd (aU bG (hr.mono (by decide)) rfl (aB (aD 0) (aB aH aG)))) (aK (aV 6 nd (aX bW aH (aU bG (hr.mono (by decide)) rfl (aB (aD 0) (aB aH aG))))) (aK (aV 7 nd (bX Wh rfl nT Jt (aB (fQ ["_law_k","_law_some","_law_first","_law_step"] [none,some 3,some 5,some 6] rfl (kC rfl eM (aD 4)) (fun cl C s2 H2 pins fp=>(bI 0 Qe)) (fun cl C s2 H2 pins fp=>eP) (fun cl C s2 H2 pins fp=>(aZ (aD 1) (aX gM (aX bW (aD 2) (aX fF (aD 3) (aD 0))) aH)))) aG))) (aK (aV 8 nd (aU bG (hr.mono (by decide)) rfl (aB (aD 0) (aB aH aG)))) (aK (kN 9 ["_law_name","_law_feed_here"] [none,some 0] rfl nd (cT (aD 7)) (fun cl C s2 H2 pins fp=>(bI 0 A1)) (fun cl C s2 H2 pins fp=>eP) (fun cl C s2 H2 pins fp=>(aZ (eO (aB aQ (aB aQ (aB aQ aG)))) (aU bG (hr.mono (by decide)) rfl (aB (aD 1) (aB aH aG)))))) (aK (cR (bV jX (aD 8) aH) (aK (kN 9 ["_law_name","_law_way"] [none,some 8] rfl nd (cT (aD 7)) (fun cl C s2 H2 pins fp=>(bI 0 Pb)) (fun cl C s2 H2 pins fp=>eP) (fun cl C s2 H2 pins fp=>(aZ (eO (aB aQ (aB aQ aG))) (aD 1)))) aT) aT) (aK (bK (I0 rfl rfl bB rfl Aq (aD 7) (aD 9))) aT)))))))))) vc
theorem Sm(D:Df K mg "_law_words" iF 75)  (vc:cJ iJ Cv eK xV):aS P w K mg base "_law_words" iF 75 iJ 1 eK :=
 cK D (fun _ _ _ _ _ _=>kI (by intros;rfl)) T6 (fun _ _ _ _ _ _ hr nd=>(aK (cR (bV (dP hr.u100) (aD 0) (aM (aB aQ (aB aQ aG)))) (aK (bK (aM (aB aQ (aB aQ (aB aQ aG))))) aT) aT) (aK (cR (bV (dP hr.u100) (aD 0) (aM (aB aQ (aB aQ aG)))) (aK (bK (aM (aB aQ (aB aQ (aB aQ (aB aQ (aB aQ aG))))))) aT) aT) (aK (cR (bV (dP hr.u100) (aD 0) (aM (aB aQ (aB aQ aG)))) (aK (bK (aM (aB aQ (aB aQ (aB aQ (aB aQ (aB aQ aG))))))) aT) aT) (aK (aV 1 nd (aM (aB aQ (aB aQ (aB aQ (aB aQ (aB aQ (aB aQ (aB aQ (aB aQ (aB aQ (aB aQ (aB aQ aG))))))))))))) (aK (bK (aX bW (aD 1) (aM (aB aQ (aB aQ aG))))) aT)))))) vc
theorem FB(D:Df K mg "_law_back" lP 82)(dU:aS P w K mg base "_law_words" iF 75 iJ 1 eK)(vc:cJ lS yT iN Bm):aS P w K mg base "_law_back" lP 82 lS 2 iN :=
 cK D (fun _ _ _ _ _ _=>kI (by intros;rfl)) EF (fun _ _ _ _ _ _ hr nd=>(aK (aV 1 nd (aU dU (hr.mono (by decide)) rfl (aB (aM (aB aQ (aB aQ aG))) aG))) (aK (bK (aZ (aD 1) (aX iG aH (h9 (aD 1) (aD 0))))) aT))) vc
theorem zW{j:Nat}(D:Df K mg "_law_sign" iL 89)(fN:aS P w K mg base "_law_sign" iL 89 jJ (j+3) (eQ j))(iA:aS P w K mg base "_law_back" lP 82 lS 2 iN)(vc:cJ jJ Aj (eQ (j+1)) (Ab j)):aS P w K mg base "_law_sign" iL 89 jJ (j+3+1) (eQ (j+1)) :=
 cK D (fun _ _ _ _ _ _=>Bf (by intros;rfl)) Vy (fun _ _ _ _ _ _ hr nd=>(aK (aV 4 nd (Ou (mK aQ (aM (aB (dM aH) (aB (dM aH) (aB (dM aH) (aB (dM aH) aG))))) (mK aQ (aM (aB (dM aH) (aB (dM aH) (aB aH (aB (dM aH) aG))))) (mK aQ (aM (aB (dM aH) (aB (dM aH) (aB aH (aB (dM aH) aG))))) Hx))))) (aK (kG (Zm (aD 4) (Ou (mK aQ (aM (aB aH (aB (dM aH) (aB aH (aB (dM aH) aG))))) (mK aQ (aM (aB aH (aB (dM aH) (aB aH (aB (dM aH) aG))))) (mK aQ (aM (aB aH (aB (dM aH) (aB aH (aB aH aG))))) (mK aQ (aM (aB aH (aB (dM aH) (aB aH (aB aH aG))))) Hx))))))) (aK (cR (bV (l9 hr.u100) (aD 1) (aD 4) (hm:=by with_unfolding_all rfl)) (aK (bK (aX iG aH (aU fN (hr.mono (by omega)) rfl (aB (aM (aB (aZ (aD 0) aH) (aB (aZ (aD 0) aH) aG))) (aB (aU iA (hr.mono (by omega)) rfl (aB (aD 1) aG)) (aB (aD 3) (aB (aD 2) aG))))))) aT) aT) (aK (bK (aZ (Nu hr.u100 (aD 4) (aD 1)) (vK (bV (dP hr.u100) (aD 0) (aM (aB aQ (aB aQ aG)))) (aX bW (aX fF aH (aD 2)) (aD 3)) (aX fF aH (aX bW (aD 2) (aD 3)))))) aT))))) vc
theorem Ud(D:Df K mg "_law_sides" iO 96)  (vc:cJ jC Am fD Cz):aS P w K mg base "_law_sides" iO 96 jC 1 fD :=
 cK D (fun _ _ _ _ _ _=>kI (by intros;rfl)) J6 (fun _ _ _ _ _ _ hr nd=>(aK (bK (vK (bV (dP hr.u100) (aD 0) aQ) (eO (aB aH (aB aH aG))) (eO (aB aH aG)))) aT)) vc
theorem GB(D:Df K mg "_law_all_signs" qA 101)(eD:aS P w K mg base "_law_sides" iO 96 jC 1 fD)(fN:aS P w K mg base "_law_sign" iL 89 jJ 6 (eQ 3))(bB:mg "tuple"=none)(vc:cJ oX wK nD Lk):aS P w K mg base "_law_all_signs" qA 101 oX 7 nD :=
 cK D (fun _ _ _ _ _ _=>eE (by intros;rfl)) DQ (fun _ _ _ _ _ _ hr nd=>(aK (aV 2 nd (iP aG)) (aK (gI PassesOwn.never rfl (cT (aU eD (hr.mono (by decide)) rfl (aB (aZ (aD 0) aH) aG))) (bI 3 nd) (aK (kG (Je (aD 2) (Ml ["_law_y","_law_kinds_here","_law_word","_law_x"] [none,some 0,some 1,some 3] rfl (cT (aU eD (hr.mono (by decide)) rfl (aB (aZ (aD 0) aH) aG))) (fun cl C s2 H2 pins fp=>(bI 0 C2)) (fun cl C s2 H2 pins fp=>eP) (fun cl C s2 H2 pins fp=>(aU fN (hr.mono (by decide)) rfl (aB (aD 1) (aB (aD 2) (aB (aD 3) (aB (aD 0) aG))))))))) aT)) (aK (bK (dA eF rfl bB dY (aB (aD 2) aG))) aT)))) vc
theorem Zx(D:Df K mg "_law_kinds" kH 106)(oV:mg "dict"=none)(bB:mg "tuple"=none)(vc:cJ jS zQ gC Dg):aS P w K mg base "_law_kinds" kH 106 jS 1 gC :=
 cK D (fun _ _ _ _ _ _=>eE (by intros;rfl)) AJ (fun _ _ _ _ _ _ hr nd=>(aK (aV 2 nd (C0 rfl rfl oV (aD 0))) (aK (bK (dA eF rfl bB dY (aB (fQ ["_law_name","_law_own"] [none,some 2] rfl (cT (aD 1)) (fun cl C s2 H2 pins fp=>(bI 0 B8)) (fun cl C s2 H2 pins fp=>eP) (fun cl C s2 H2 pins fp=>(Nu hr.u100 (aD 1) (aD 0)))) aG))) aT))) vc
theorem EZ(D:Df K mg "_law_all_ends" qB 111)(eD:aS P w K mg base "_law_sides" iO 96 jC 1 fD)(vc:cJ rO wI sW yA):aS P w K mg base "_law_all_ends" qB 111 rO 2 sW :=
 cK D (fun _ _ _ _ _ _=>kI (by intros;rfl)) X8 (fun _ _ _ _ _ _ hr nd=>(aK (aV 1 nd (iP aG)) (aK (gI PassesOwn.never rfl (cT (aD 0)) (iC rfl (eA (bI 2 nd) (eA (bI 3 nd) iD))) (aK (kG (Je (aD 1) (Ml ["_law_side","_law_name"] [none,some 2] rfl (cT (aU eD (hr.mono (by decide)) rfl (aB (aD 3) aG))) (fun cl C s2 H2 pins fp=>(bI 0 g8)) (fun cl C s2 H2 pins fp=>eP) (fun cl C s2 H2 pins fp=>(aM (aB (aD 1) (aB (aD 0) aG))))))) aT)) (aK (bK (aD 1)) aT)))) vc
theorem Wy(D:Df K mg "_law_lowest" oH 118)(xE:mg "abs"=none)(vc:cJ oT vX lM Ak):aS P w K mg base "_law_lowest" oH 118 oT 1 lM :=
 cK D (fun _ _ _ _ _ _=>eE (by intros;rfl)) C8 (fun _ _ _ _ _ _ hr nd=>(aK (aV 2 nd (bX Zd rfl xE u7 (aB (aD 0) aG))) (aK (aV 3 nd (aD 1)) (aK (R3 PassesOwn.never (bV Ba (aD 3) aH) (aK (Ri 2 3 rfl nd (aB (aD 3) (aB (aX gM (aD 2) (aD 3)) aG))) aT)) (aK (bK (aM (aB (aX qQ (aD 0) (aD 2)) (aB (aX qQ (aD 1) (aD 2)) aG)))) aT))))) vc
theorem CT(D:Df K mg "_law_added" pD 125)(oI:aS P w K mg base "_law_lowest" oH 118 oT 1 lM)(vc:cJ qC xC oC Dn):aS P w K mg base "_law_added" pD 125 qC 2 oC :=
 cK D (fun _ _ _ _ _ _=>qI (by intros;rfl)) G2 (fun _ _ _ _ _ _ hr nd=>(aK (aV 3 nd (aX bW (aX fF (aZ (aD 0) aH) (aZ (aD 1) aH)) (aX fF (aX fF (aD 2) (aZ (aD 1) aH)) (aZ (aD 0) aH)))) (aK (bK (aU oI (hr.mono (by decide)) rfl (aB (aD 3) (aB (aX fF (aZ (aD 0) aH) (aZ (aD 1) aH)) aG)))) aT))) vc
theorem t4(D:Df K mg "_law_time" rY 132)(bG:aS P w K mg base "_law_draw" fM 63 fL 1 bL)(oI:aS P w K mg base "_law_lowest" oH 118 oT 1 lM)(vc:cJ pZ Aa nG Ft):aS P w K mg base "_law_time" rY 132 pZ 2 nG :=
 cK D (fun _ _ _ _ _ _=>kI (by intros;rfl)) C7 (fun _ _ _ _ _ _ hr nd=>(aK (aV 1 nd (aX iG (aU bG (hr.mono (by decide)) rfl (aB (aD 0) (aB aH aG))) aH)) (aK (aV 2 nd (aZ (eO (aB aH (aB aH (aB aH (aB aH aG))))) (aU bG (hr.mono (by decide)) rfl (aB (aD 0) (aB aH aG))))) (aK (bK (aU oI (hr.mono (by decide)) rfl (aB (aD 1) (aB (aD 2) aG)))) aT)))) vc
theorem Pq(D:Df K mg "_law_two" kZ 144)(bG:aS P w K mg base "_law_draw" fM 63 fL 1 bL)(bN:mg "len"=none)(vc:cJ lI wM hU Ac):aS P w K mg base "_law_two" kZ 144 lI 2 hU :=
 cK D (fun _ _ _ _ _ _=>eE (by intros;rfl)) i5 (fun _ _ _ _ _ _ hr nd=>(aK (aV 2 nd (aU bG (hr.mono (by decide)) rfl (aB (aD 0) (aB (bX dH rfl bN dE (aB (aD 1) aG)) aG)))) (aK (aV 3 nd (aX gM (aX bW (aX bW (aD 2) aH) (aU bG (hr.mono (by decide)) rfl (aB (aD 0) (aB (aX iG (bX dH rfl bN dE (aB (aD 1) aG)) aH) aG)))) (bX dH rfl bN dE (aB (aD 1) aG)))) (aK (bK (aM (aB (aZ (aZ (aD 1) (aD 2)) aH) (aB (aZ (aZ (aD 1) (aD 3)) aH) aG)))) aT)))) vc
theorem Vj(D:Df K mg "_law_spot" sP 151)(fN:aS P w K mg base "_law_sign" iL 89 jJ 6 (eQ 3))(eD:aS P w K mg base "_law_sides" iO 96 jC 1 fD)(bN:mg "len"=none)(hX:mg "int"=none)(vc:cJ qR yL kT wU):aS P w K mg base "_law_spot" sP 151 qR 7 kT :=
 cK D (fun _ _ _ _ _ _=>qI (by intros;rfl)) CJ (fun _ _ _ _ _ _ hr nd=>(aK (aV 3 nd (aU fN (hr.mono (by decide)) rfl (aB (aD 0) (aB (aD 1) (aB (aD 2) (aB aH aG)))))) (aK (aV 4 nd (aU fN (hr.mono (by decide)) rfl (aB (aD 0) (aB (aD 1) (aB (aD 2) (aB (aX iG (bX dH rfl bN dE (aB (aU eD (hr.mono (by decide)) rfl (aB (aZ (aD 0) aH) aG)) aG)) aH) aG)))))) (aK (cR (bV jX (aD 3) aH) (aK (bK (aZ (eO (aB (aM (aB aH (aB aH aG))) (aB (aM (aB aH (aB aH aG))) aG))) (dA oA rfl hX nL (aB (kU jX (aD 3) aH) aG)))) aT) aT) (aK (bK (aZ (eO (aB (aM (aB aH (aB aH aG))) (aB (aZ (eO (aB (aM (aB aH (aB aH aG))) (aB (aM (aB aH (aB aH aG))) aG))) (dA oA rfl hX nL (aB (kU jX (aD 4) aH) aG))) aG))) (dA oA rfl hX nL (aB (kU jX (aD 4) aH) aG)))) aT))))) vc
theorem z7(D:Df K mg "_law_compared" pL 156)(hX:mg "int"=none)(bB:mg "tuple"=none)(vc:cJ pU Aw pW yR):aS P w K mg base "_law_compared" pL 156 pU 1 pW :=
 cK D (fun _ _ _ _ _ _=>eE (by intros;rfl)) Za (fun _ _ _ _ _ _ hr nd=>(aK (aV 2 nd (iP aG)) (aK (gI PassesOwn.never rfl (cT (aD 0)) (bI 3 nd) (aK (kG (e6 (aD 2) (w9 1 ["_law_other","_law_one"] [none,some 3] rfl (fun cl C s2 H2 pins fp=>(bI 0 K0)) (fun cl C s2 H2 pins fp=>eP) (fun cl C s2 H2 pins fp=>(aX iG (dA oA rfl hX nL (aB (kU Ba (aD 1) (aD 0)) aG)) (dA oA rfl hX nL (aB (kU jX (aD 1) (aD 0)) aG))))))) aT)) (aK (bK (dA eF rfl bB dY (aB (aD 2) aG))) aT)))) vc
theorem v6(D:Df K mg "_law_behind" rC 161)(dU:aS P w K mg base "_law_words" iF 75 iJ 1 eK)(yN:aS P w K mg base "_law_all_signs" qA 101 oX 7 nD)(eD:aS P w K mg base "_law_sides" iO 96 jC 1 fD)(uE:aS P w K mg base "_law_spot" sP 151 qR 7 kT)(iA:aS P w K mg base "_law_back" lP 82 lS 2 iN)(xK:aS P w K mg base "_law_compared" pL 156 pU 1 pW)(oV:mg "dict"=none)(eM:mg "range"=none)(bN:mg "len"=none)(nT:mg "sorted"=none)(xR:mg "set"=none)(bB:mg "tuple"=none)(vc:cJ tH Bh sX vY):aS P w K mg base "_law_behind" rC 161 tH 8 sX :=
 cK D (fun _ _ _ _ _ _=>Bf (by intros;rfl)) Vp (fun _ _ _ _ _ _ hr nd=>(aK (cR (bV (Yq hr.u100) (aM (aB (aD 1) (aB (aD 2) (aB (aD 3) aG)))) (aD 0) (hm:=by with_unfolding_all rfl)) (aK (aV 4 nd (aM (aB (aZ (aD 1) aH) (aB (aZ (aD 1) aH) aG)))) (aK (aV 5 nd (aU dU (hr.mono (by decide)) rfl (aB (aD 4) aG))) (aK (aV 6 nd (K7 hr.u100 rfl rfl oV (fQ ["_law_word","_law_outer"] [none,some 4] rfl (cT (aD 5)) (fun cl C s2 H2 pins fp=>(bI 0 Xe)) (fun cl C s2 H2 pins fp=>eP) (fun cl C s2 H2 pins fp=>(aM (aB (aU yN (hr.mono (by decide)) rfl (aB (aD 1) (aB (aD 0) aG))) (aB (aD 0) aG))))))) (aK (aV 7 nd (fQ ["_law_x","_law_kinds_here","_law_one"] [none,some 1,some 2] rfl (cT (aU eD (hr.mono (by decide)) rfl (aB (aZ (aD 1) aH) aG))) (fun cl C s2 H2 pins fp=>(bI 0 AX)) (fun cl C s2 H2 pins fp=>eP) (fun cl C s2 H2 pins fp=>(aU uE (hr.mono (by decide)) rfl (aB (fY (aD 1) gH (fV aH)) (aB (aD 2) (aB (aD 0) aG))))))) (aK (kN 8 ["_law_k","_law_here"] [none,some 7] rfl nd (kC rfl eM (bX dH rfl bN dE (aB (aD 7) aG))) (fun cl C s2 H2 pins fp=>(bI 0 Qi)) (fun cl C s2 H2 pins fp=>eP) (fun cl C s2 H2 pins fp=>(aX bW (aZ (aZ (aD 1) (aD 0)) aH) (aX fF (aZ (aZ (aD 1) (aD 0)) aH) (aX bW aH (aX fF aH (aD 0))))))) (aK (aV 9 nd (aM (aB (aZ (aD 1) aH) (aB (aZ (aD 1) aH) aG)))) (aK (kN 10 ["_law_x","_law_other","_law_inner"] [none,some 3,some 9] rfl nd (cT (aU eD (hr.mono (by decide)) rfl (aB (aZ (aD 1) aH) aG))) (fun cl C s2 H2 pins fp=>(bI 0 Qr)) (fun cl C s2 H2 pins fp=>eP) (fun cl C s2 H2 pins fp=>(aU uE (hr.mono (by decide)) rfl (aB (aD 2) (aB (aU iA (hr.mono (by decide)) rfl (aB (aD 1) aG)) (aB (aD 0) aG)))))) (aK (aV 11 nd Q5) (aK (gI PassesOwn.never rfl (kC rfl eM aH) (bI 12 nd) (aK (aV 13 nd (eO (aB (aX bW aH (aX gM (aD 12) aH)) (aB (aX bW aH (aX qQ (aD 12) aH)) aG)))) (aK (aV 14 nd (iP aG)) (aK (gI PassesOwn.never rfl (kC rfl eM (bX dH rfl bN dE (aB (aD 10) aG))) (bI 15 nd) (aK (kG (rB (aD 14) (aX bW (aZ (aZ (aD 10) (aD 15)) aH) (aX fF (aZ (aZ (aD 10) (aD 15)) aH) (aZ (aD 13) (aD 15)))))) aT)) (aK (cR (bV (AG hr.u100) (aD 14) (So rfl rfl nT rfl xR (aD 14))) (aK (Wb hr.u100 iQ (aD 11) (Oi hr.u100 (aD 6) (aU xK (hr.mono (by decide)) rfl (aB (aD 8) (aB (aD 14) aG))))) aT) aT) aT))))) (aK (kN 16 ["_law_word","_law_found"] [none,some 11] rfl nd (cT (aD 5)) (fun cl C s2 H2 pins fp=>(bI 0 Xo)) (fun cl C s2 H2 pins fp=>(kA (bV (F3 hr.u100) (aD 0) (aD 1) (hm:=by with_unfolding_all rfl)))) (fun cl C s2 H2 pins fp=>(aD 0))) (aK (CS hr.u100 (dA eF rfl bB dY (aB (aD 16) aG)) (aD 0) (aM (aB (aD 1) (aB (aD 2) (aB (aD 3) aG))))) aT))))))))))) aT) (aK (bK (Oi hr.u100 (aD 0) (aM (aB (aD 1) (aB (aD 2) (aB (aD 3) aG)))))) aT))) vc
theorem Zo(D:Df K mg "_law_split" sI 171)(bG:aS P w K mg base "_law_draw" fM 63 fL 1 bL)(bN:mg "len"=none)(bB:mg "tuple"=none)(vc:cJ sF By qP xI):aS P w K mg base "_law_split" sI 171 sF 2 qP :=
 cK D (fun _ _ _ _ _ _=>eE (by intros;rfl)) g7 (fun _ _ _ _ _ _ hr nd=>(aK (aV 2 nd (aX bW aH (aU bG (hr.mono (by decide)) rfl (aB (aD 0) (aB (aX iG (bX dH rfl bN dE (aB (aD 1) aG)) aH) aG))))) (aK (aV 3 nd (aU bG (hr.mono (by decide)) rfl (aB (aD 0) (aB (bX dH rfl bN dE (aB (aD 1) aG)) aG)))) (aK (aV 4 nd (aX bW (fY (aD 1) (fV (aD 3)) gH) (fY (aD 1) gH (fV (aD 3))))) (aK (aV 5 nd (dA eF rfl bB dY (aB (fQ ["_law_word","_law_at","_law_turned_ones"] [none,some 2,some 4] rfl (cT (aD 1)) (fun cl C s2 H2 pins fp=>(bI 0 Vg)) (fun cl C s2 H2 pins fp=>(kA (bV vA (aD 0) (fY (aD 2) gH (fV (aD 1))) (hm:=by with_unfolding_all rfl)))) (fun cl C s2 H2 pins fp=>(aD 0))) aG))) (aK (bK (aM (aB (aD 5) (aB (dA eF rfl bB dY (aB (fQ ["_law_word","_law_one"] [none,some 5] rfl (cT (aD 1)) (fun cl C s2 H2 pins fp=>(bI 0 CC)) (fun cl C s2 H2 pins fp=>(kA (bV Gn (aD 0) (aD 1) (hm:=by with_unfolding_all rfl)))) (fun cl C s2 H2 pins fp=>(aD 0))) aG)) aG)))) aT)))))) vc
theorem Wx(D:Df K mg "_law_against" qF 176)(gP:aS P w K mg base "_law_two" kZ 144 lI 2 hU)(fW:aS P w K mg base "_law_kinds" kH 106 jS 1 gC)(Dt:aS P w K mg base "_law_split" sI 171 sF 2 qP)(dU:aS P w K mg base "_law_words" iF 75 iJ 1 eK)(bG:aS P w K mg base "_law_draw" fM 63 fL 1 bL)(iA:aS P w K mg base "_law_back" lP 82 lS 2 iN)(bB:mg "tuple"=none)(vc:cJ sB yH rH Gi):aS P w K mg base "_law_against" qF 176 sB 3 rH :=
 cK D (fun _ _ _ _ _ _=>eE (by intros;rfl)) A9 (fun _ _ _ _ _ _ hr nd=>(aK (sE (aU gP (hr.mono (by decide)) rfl (aB (aD 0) (aB (aD 1) aG))) (iC rfl (eA (bI 2 nd) (eA (bI 3 nd) iD)))) (aK (aV 4 nd (aU fW (hr.mono (by decide)) rfl (aB (aD 1) (aB (aM (aB (aD 2) (aB (aD 3) aG))) aG)))) (aK (sE (aU Dt (hr.mono (by decide)) rfl (aB (aD 0) (aB (aU dU (hr.mono (by decide)) rfl (aB (aD 4) aG)) aG))) (iC rfl (eA (bI 5 nd) (eA (bI 6 nd) iD)))) (aK (cR (bV (dP hr.u100) (aU bG (hr.mono (by decide)) rfl (aB (aD 0) (aB aH aG))) aH) (aK (aV 7 nd (aM (aB (aM (aB aQ (aB (aD 2) (aB (aD 3) (aB (aD 5) aG))))) (aB (aM (aB aQ (aB (aD 2) (aB (aD 3) (aB (aD 6) aG))))) aG)))) (aK (bK (aM (aB (aD 7) (aB (aM (aB (aM (aB aQ (aB aH aG))) (aB (aM (aB aQ (aB aH aG))) (aB (aM (aB aQ (aB aH (aB aH aG)))) aG)))) aG)))) aT)) aT) (aK (aV 8 nd (aU dU (hr.mono (by decide)) rfl (aB (aM (aB (aZ (aD 4) aH) (aB (aZ (aD 4) aH) aG))) aG))) (aK (aV 9 nd (dA eF rfl bB dY (aB (fQ ["_law_word","_law_other"] [none,some 6] rfl (cT (aD 8)) (fun cl C s2 H2 pins fp=>(bI 0 J2)) (fun cl C s2 H2 pins fp=>(kA (bV vA (aU iA (hr.mono (by decide)) rfl (aB (aD 0) aG)) (aD 1) (hm:=by with_unfolding_all rfl)))) (fun cl C s2 H2 pins fp=>(aD 0))) aG))) (aK (aV 7 nd (aM (aB (aM (aB aQ (aB (aD 2) (aB (aD 3) (aB (aD 5) aG))))) (aB (aM (aB aQ (aB (aD 3) (aB (aD 2) (aB (aD 9) aG))))) aG)))) (aK (bK (aM (aB (aD 7) (aB (aM (aB (aM (aB aQ (aB aH aG))) (aB (aM (aB aQ (aB aH aG))) (aB (aM (aB aQ (aB aH aG))) (aB (aM (aB aQ (aB aH (aB aH aG)))) aG))))) aG)))) aT))))))))) vc
theorem J5(D:Df K mg "_law_ring" nX 181)(Bb:aS P w K mg base "_law_all_ends" qB 111 rO 2 sW)(bG:aS P w K mg base "_law_draw" fM 63 fL 1 bL)(Ca:aS P w K mg base "_law_time" rY 132 pZ 2 nG)(zF:aS P w K mg base "_law_added" pD 125 qC 2 oC)(bN:mg "len"=none)(eM:mg "range"=none)(zY:mg "min"=none)(bB:mg "tuple"=none)(vc:cJ nK zV mD Bc):aS P w K mg base "_law_ring" nX 181 nK 3 mD :=
 cK D (fun _ _ _ _ _ _=>eE (by intros;rfl)) EH (fun _ _ _ _ _ _ hr nd=>(aK (aV 2 nd (aU Bb (hr.mono (by decide)) rfl (aB (aD 1) aG))) (aK (aV 3 nd (iP aG)) (aK (gI PassesOwn.never rfl (kC rfl eM (bX (Tv rfl) rfl zY EL (aB (bX dH rfl bN dE (aB (aD 2) aG)) (aB (aX bW aH (aU bG (hr.mono (by decide)) rfl (aB (aD 0) (aB aH aG)))) aG)))) (bI 4 nd) (aK (kG (rB (aD 3) (Ck (aD 2) (aU bG (hr.mono (by decide)) rfl (aB (aD 0) (aB (bX dH rfl bN dE (aB (aD 2) aG)) aG)))))) aT)) (aK (kN 5 ["_law_k","_law_feed_here"] [none,some 0] rfl nd (kC rfl eM (aX iG (bX dH rfl bN dE (aB (aD 3) aG)) aH)) (fun cl C s2 H2 pins fp=>(bI 0 BY)) (fun cl C s2 H2 pins fp=>eP) (fun cl C s2 H2 pins fp=>(aU Ca (hr.mono (by decide)) rfl (aB (aD 1) aG)))) (aK (aV 6 nd (aZ (eO (aB (aM (aB aH (aB aH aG))) (aB (aM (aB (dM aH) (aB aH aG))) (aB (aM (aB (dM aH) (aB aH aG))) (aB (aM (aB (dM aH) (aB aH aG))) aG))))) (aU bG (hr.mono (by decide)) rfl (aB (aD 0) (aB aH aG))))) (aK (gI PassesOwn.never rfl (cT (aD 5)) (bI 7 nd) (aK (aV 6 nd (aU zF (hr.mono (by decide)) rfl (aB (aD 6) (aB (aD 7) (aB (dM aH) aG))))) aT)) (aK (aV 8 nd (aU bG (hr.mono (by decide)) rfl (aB (aD 0) (aB (bX dH rfl bN dE (aB (aD 3) aG)) aG)))) (aK (aV 9 nd (iP aG)) (aK (gI PassesOwn.never rfl (kC rfl eM (bX dH rfl bN dE (aB (aD 3) aG))) (bI 4 nd) (aK (aV 10 nd (aZ (aD 3) (aX gM (aX bW (aD 4) aH) (bX dH rfl bN dE (aB (aD 3) aG))))) (aK (aV 7 nd (aZ (aX bW (aD 5) (eO (aB (aD 6) aG))) (aD 4))) (aK (kG (rB (aD 9) (aM (aB aQ (aB (aZ (aD 3) (aD 4)) (aB (aD 10) (aB (aD 7) (aB (kU (dP hr.u100) (aD 4) (aD 8)) aG)))))))) aT)))) (aK (aV 11 nd (eO (aB (aM (aB aQ (aB aH aG))) aG))) (aK (gI PassesOwn.never rfl (FY rfl eM aH (bX dH rfl bN dE (aB (aD 3) aG))) (bI 4 nd) (aK (aV 11 nd (aX bW (aD 11) (eO (aB (aM (aB aQ (aB (aD 4) aG))) (aB (aM (aB aQ (aB (aX iG (aX fF aH (aD 4)) aH) (aB (aX iG (aX fF aH (aD 4)) aH) aG)))) aG))))) aT)) (aK (bK (aM (aB (dA eF rfl bB dY (aB (aD 9) aG)) (aB (dA eF rfl bB dY (aB (aD 11) aG)) aG)))) aT))))))))))))) vc
theorem Sc(D:Df K mg "_law_word_and_gap" tD 186)(gP:aS P w K mg base "_law_two" kZ 144 lI 2 hU)(fW:aS P w K mg base "_law_kinds" kH 106 jS 1 gC)(bG:aS P w K mg base "_law_draw" fM 63 fL 1 bL)(eD:aS P w K mg base "_law_sides" iO 96 jC 1 fD)(dU:aS P w K mg base "_law_words" iF 75 iJ 1 eK)(fN:aS P w K mg base "_law_sign" iL 89 jJ 6 (eQ 3))(bN:mg "len"=none)(bB:mg "tuple"=none)(vc:cJ rG xB sH Mk):aS P w K mg base "_law_word_and_gap" tD 186 rG 7 sH :=
 cK D (fun _ _ _ _ _ _=>eE (by intros;rfl)) Ta (fun _ _ _ _ _ _ hr nd=>(aK (sE (aU gP (hr.mono (by decide)) rfl (aB (aD 0) (aB (aD 1) aG))) (iC rfl (eA (bI 2 nd) (eA (bI 3 nd) iD)))) (aK (aV 4 nd (aU fW (hr.mono (by decide)) rfl (aB (aD 1) (aB (aM (aB (aD 2) (aB (aD 3) aG))) aG)))) (aK (aV 5 nd (aU bG (hr.mono (by decide)) rfl (aB (aD 0) (aB (bX dH rfl bN dE (aB (aU eD (hr.mono (by decide)) rfl (aB (aZ (aD 4) aH) aG)) aG)) aG)))) (aK (aV 6 nd (aU bG (hr.mono (by decide)) rfl (aB (aD 0) (aB (bX dH rfl bN dE (aB (aU eD (hr.mono (by decide)) rfl (aB (aZ (aD 4) aH) aG)) aG)) aG)))) (aK (aV 7 nd (aU dU (hr.mono (by decide)) rfl (aB (aD 4) aG))) (aK (kN 8 ["_law_word","_law_kinds_here","_law_x","_law_y"] [none,some 4,some 5,some 6] rfl nd (cT (aD 7)) (fun cl C s2 H2 pins fp=>(bI 0 x8)) (fun cl C s2 H2 pins fp=>(kA (bV jX (aU fN (hr.mono (by decide)) rfl (aB (aD 1) (aB (aD 0) (aB (aD 2) (aB (aD 3) aG))))) aH))) (fun cl C s2 H2 pins fp=>(aD 0))) (aK (aV 9 nd (aZ (eO (aB (aM (aB (dM aH) (aB aH aG))) (aB (aM (aB (dM aH) (aB aH aG))) (aB (aM (aB aH (aB aH aG))) aG)))) (aU bG (hr.mono (by decide)) rfl (aB (aD 0) (aB aH aG))))) (aK (aV 10 nd (aM (aB aQ (aB (aM (aB (aD 3) (aB (aD 6) aG))) (aB (aM (aB (aD 2) (aB (aD 5) aG))) (aB (aD 9) (aB (kU (dP hr.u100) (aD 9) (aM (aB aH (aB aH aG)))) aG))))))) (aK (aV 11 nd (aM (aB (aM (aB aQ (aB (aD 2) (aB (aD 3) (aB (dA eF rfl bB dY (aB (aD 8) aG)) aG))))) (aB (aD 10) aG)))) (aK (cR (bV (dP hr.u100) (aU bG (hr.mono (by decide)) rfl (aB (aD 0) (aB aH aG))) aH) (aK (bK (aM (aB (aD 11) (aB (aM (aB (aM (aB aQ (aB aH aG))) (aB (aM (aB aQ (aB aH aG))) (aB (aM (aB aQ (aB aH (aB aH aG)))) aG)))) aG)))) aT) aT) (aK (bK (aM (aB (aD 11) (aB (aM (aB (aM (aB aQ (aB aH aG))) (aB (aM (aB aQ (aB aH aG))) (aB (aM (aB aQ (aB aH (aB (aM (aB (aD 2) (aB (aD 5) aG))) (aB (aM (aB (aD 3) (aB (aD 6) aG))) aG))))) (aB (aM (aB aQ (aB aH (aB aH aG)))) aG))))) aG)))) aT)))))))))))) vc
theorem DX(D:Df K mg "_law_by_cases" rN 191)(gP:aS P w K mg base "_law_two" kZ 144 lI 2 hU)(fW:aS P w K mg base "_law_kinds" kH 106 jS 1 gC)(bG:aS P w K mg base "_law_draw" fM 63 fL 1 bL)(eD:aS P w K mg base "_law_sides" iO 96 jC 1 fD)(dU:aS P w K mg base "_law_words" iF 75 iJ 1 eK)(fN:aS P w K mg base "_law_sign" iL 89 jJ 6 (eQ 3))(bN:mg "len"=none)(bB:mg "tuple"=none)(vc:cJ pI De rE Jq):aS P w K mg base "_law_by_cases" rN 191 pI 7 rE :=
 cK D (fun _ _ _ _ _ _=>eE (by intros;rfl)) Vb (fun _ _ _ _ _ _ hr nd=>(aK (sE (aU gP (hr.mono (by decide)) rfl (aB (aD 0) (aB (aD 1) aG))) (iC rfl (eA (bI 2 nd) (eA (bI 3 nd) iD)))) (aK (aV 4 nd (aU fW (hr.mono (by decide)) rfl (aB (aD 1) (aB (aM (aB (aD 2) (aB (aD 3) aG))) aG)))) (aK (aV 5 nd (aU bG (hr.mono (by decide)) rfl (aB (aD 0) (aB (bX dH rfl bN dE (aB (aU eD (hr.mono (by decide)) rfl (aB (aZ (aD 4) aH) aG)) aG)) aG)))) (aK (aV 6 nd (aU dU (hr.mono (by decide)) rfl (aB (aD 4) aG))) (aK (aV 7 nd (dA eF rfl bB dY (aB (fQ ["_law_word","_law_kinds_here","_law_x"] [none,some 4,some 5] rfl (cT (aD 6)) (fun cl C s2 H2 pins fp=>(bI 0 EJ)) (fun cl C s2 H2 pins fp=>(kA (bV jX (aU fN (hr.mono (by decide)) rfl (aB (aD 1) (aB (aD 0) (aB (aD 2) (aB aH aG))))) aH))) (fun cl C s2 H2 pins fp=>(aD 0))) aG))) (aK (aV 8 nd (dA eF rfl bB dY (aB (fQ ["_law_word","_law_kinds_here","_law_x"] [none,some 4,some 5] rfl (cT (aD 6)) (fun cl C s2 H2 pins fp=>(bI 0 Xl)) (fun cl C s2 H2 pins fp=>(kA (bV Ba (aU fN (hr.mono (by decide)) rfl (aB (aD 1) (aB (aD 0) (aB (aD 2) (aB aH aG))))) (dM aH)))) (fun cl C s2 H2 pins fp=>(aD 0))) aG))) (aK (aV 9 nd (aM (aB aQ (aB (aM (aB (aD 3) (aB aH aG))) (aB (aM (aB (aD 2) (aB (aD 5) aG))) (aB (aM (aB (dM aH) (aB aH aG))) (aB iQ aG))))))) (aK (aV 10 nd (aM (aB (aD 9) (aB (aM (aB aQ (aB (aM (aB (aD 2) (aB (aD 5) aG))) (aB (aM (aB (aD 3) (aB aH aG))) (aB (aM (aB aH (aB aH aG))) (aB iQ aG)))))) aG)))) (aK (aV 11 nd (aM (aB (aM (aB (aD 7) (aB (aM (aB (aM (aB aQ (aB aH (aB aH aG)))) aG)) aG))) (aB (aM (aB (aD 8) (aB (aM (aB (aM (aB aQ (aB aH (aB aH aG)))) aG)) aG))) aG)))) (aK (cR (bV (dP hr.u100) (aU bG (hr.mono (by decide)) rfl (aB (aD 0) (aB aH aG))) aH) (aK (aV 11 nd (aX bW (Wf (aD 11)) (fY (aD 11) gH (fV aH)))) aT) aT) (aK (bK (aM (aB (aD 10) (aB (aM (aB (aM (aB aQ (aB (aD 2) (aB (aD 3) aG)))) (aB (aM (aB aQ (aB aH aG))) (aB (aM (aB aQ (aB aH aG))) (aB (aM (aB aQ (aB aH (aB (aD 11) aG)))) aG))))) aG)))) aT)))))))))))) vc
theorem DF(D:Df K mg "_law_short" qN 196)(nY:aS P w K mg base "_law_ring" nX 181 nK 3 mD)(bG:aS P w K mg base "_law_draw" fM 63 fL 1 bL)(bN:mg "len"=none)(vc:cJ rW Cp sC Bp):aS P w K mg base "_law_short" qN 196 rW 4 sC :=
 cK D (fun _ _ _ _ _ _=>eE (by intros;rfl)) Vr (fun _ _ _ _ _ _ hr nd=>(aK (kN 2 ["_law_name","_law_kind"] [none,none] rfl nd (cT (aD 1)) (fun cl C s2 H2 pins fp=>(iC rfl (eA (bI 0 Ic) (eA (bI 1 Ic) iD)))) (fun cl C s2 H2 pins fp=>(kA (bV (dP hr.u100) (aD 1) aQ))) (fun cl C s2 H2 pins fp=>(aD 0))) (aK (cR (bV (dP hr.u100) (aD 2) (eO aG)) (aK (bK (aU nY (hr.mono (by decide)) rfl (aB (aD 0) (aB (aD 1) aG)))) aT) aT) (aK (aV 3 nd (aZ (aD 2) (aU bG (hr.mono (by decide)) rfl (aB (aD 0) (aB (bX dH rfl bN dE (aB (aD 2) aG)) aG))))) (aK (aV 4 nd (aZ (eO (aB (aM (aB aH (aB aH aG))) (aB (aM (aB (dM aH) (aB aH aG))) aG))) (aU bG (hr.mono (by decide)) rfl (aB (aD 0) (aB aH aG))))) (aK (aV 5 nd (aM (aB (aM (aB aQ (aB (aM (aB (aD 3) (aB aH aG))) (aB (aM (aB (aD 3) (aB aH aG))) (aB (aD 4) (aB iQ aG)))))) aG))) (aK (bK (aM (aB (aD 5) (aB (aM (aB (aM (aB aQ (aB (aD 3) aG))) (aB (aM (aB aQ (aB aH aG))) (aB (aM (aB aQ (aB aH (aB aH aG)))) aG)))) aG)))) aT))))))) vc
theorem U7(D:Df K mg "_law_three" rF 201)(bG:aS P w K mg base "_law_draw" fM 63 fL 1 bL)(fW:aS P w K mg base "_law_kinds" kH 106 jS 1 gC)(dU:aS P w K mg base "_law_words" iF 75 iJ 1 eK)(wA:aS P w K mg base "_law_behind" rC 161 tH 8 sX)(bN:mg "len"=none)(bB:mg "tuple"=none)(vc:cJ qM xM rR xL):aS P w K mg base "_law_three" rF 201 qM 9 rR :=
 cK D (fun _ _ _ _ _ _=>eE (by intros;rfl)) Zf (fun _ _ _ _ _ _ hr nd=>(aK (i7 2 ["_law_name","_law_kind"] [none,none] rfl nd (cT (aD 1)) (fun cl C s2 H2 pins fp=>(iC rfl (eA (bI 0 Jw) (eA (bI 1 Jw) iD)))) (fun cl C s2 H2 pins fp=>eP) (fun cl C s2 H2 pins fp=>(aD 0))) (aK (aV 3 nd (Ck (aD 2) (aU bG (hr.mono (by decide)) rfl (aB (aD 0) (aB (bX dH rfl bN dE (aB (aD 2) aG)) aG))))) (aK (aV 4 nd (Ck (aD 2) (aU bG (hr.mono (by decide)) rfl (aB (aD 0) (aB (bX dH rfl bN dE (aB (aD 2) aG)) aG))))) (aK (aV 5 nd (aZ (aD 2) (aU bG (hr.mono (by decide)) rfl (aB (aD 0) (aB (bX dH rfl bN dE (aB (aD 2) aG)) aG))))) (aK (aV 6 nd (aU fW (hr.mono (by decide)) rfl (aB (aD 1) (aB (aM (aB (aD 3) (aB (aD 4) (aB (aD 5) aG)))) aG)))) (aK (aV 7 nd (aU dU (hr.mono (by decide)) rfl (aB (fY (aD 6) gH (fV aH)) aG))) (aK (aV 7 nd (aZ (aD 7) (aU bG (hr.mono (by decide)) rfl (aB (aD 0) (aB (bX dH rfl bN dE (aB (aD 7) aG)) aG))))) (aK (aV 8 nd (aU dU (hr.mono (by decide)) rfl (aB (fY (aD 6) (fV aH) gH) aG))) (aK (aV 8 nd (aZ (aD 8) (aU bG (hr.mono (by decide)) rfl (aB (aD 0) (aB (bX dH rfl bN dE (aB (aD 8) aG)) aG))))) (aK (aV 9 nd (aU wA (hr.mono (by decide)) rfl (aB FU (aB (aD 6) (aB (aD 7) (aB (aD 8) aG)))))) (aK (aV 10 nd (aU dU (hr.mono (by decide)) rfl (aB (aM (aB (aZ (aD 6) aH) (aB (aZ (aD 6) aH) aG))) aG))) (aK (aV 11 nd (dA eF rfl bB dY (aB (fQ ["_law_word","_law_found"] [none,some 9] rfl (cT (aD 10)) (fun cl C s2 H2 pins fp=>(bI 0 GE)) (fun cl C s2 H2 pins fp=>(kA (bV Gn (aD 0) (aD 1) (hm:=by with_unfolding_all rfl)))) (fun cl C s2 H2 pins fp=>(aD 0))) aG))) (aK (cR (bV (dP hr.u100) (aD 11) (aM aG)) (aK (bK vZ) aT) aT) (aK (aV 12 nd (aM (aB (aM (aB aQ (aB (aD 3) (aB (aD 5) (aB (aD 11) aG))))) (aB (aM (aB aQ (aB (aD 3) (aB (aD 4) (aB (aM (aB (aD 7) aG)) aG))))) aG)))) (aK (aV 12 nd (aX bW (aD 12) (aM (aB (aM (aB aQ (aB (aD 4) (aB (aD 5) (aB (aM (aB (aD 8) aG)) aG))))) aG)))) (aK (aV 13 nd (aM (aB (aM (aB aQ (aB aH aG))) (aB (aM (aB aQ (aB aH aG))) (aB (aM (aB aQ (aB aH (aB aH aG)))) (aB (aM (aB aQ (aB aH aG))) (aB (aM (aB aQ (aB aH (aB aH aG)))) aG))))))) (aK (bK (aM (aB (aD 12) (aB (aD 13) aG)))) aT)))))))))))))))))) vc
theorem y4(D:Df K mg "_law_some_clash" rK 208)(bG:aS P w K mg base "_law_draw" fM 63 fL 1 bL)(Di:aS P w K mg base "_law_against" qF 176 sB 3 rH)(wT:aS P w K mg base "_law_short" qN 196 rW 4 sC)(wR:aS P w K mg base "_law_word_and_gap" tD 186 rG 7 sH)(Br:aS P w K mg base "_law_by_cases" rN 191 pI 7 rE)(Ah:aS P w K mg base "_law_three" rF 201 qM 9 rR)(nY:aS P w K mg base "_law_ring" nX 181 nK 3 mD)(vc:cJ pX Cj qK Ax):aS P w K mg base "_law_some_clash" rK 208 pX 10 qK :=
 cK D (fun _ _ _ _ _ _=>eE (by intros;rfl)) a7 (fun _ _ _ _ _ _ hr nd=>(aK (aV 2 nd (aU bG (hr.mono (by decide)) rfl (aB (aD 0) (aB aH aG)))) (aK (cR (bV (dP hr.u100) (aD 2) aH) (aK (bK (aU Di (hr.mono (by decide)) rfl (aB (aD 0) (aB (aD 1) aG)))) aT) aT) (aK (cR (bV (dP hr.u100) (aD 2) aH) (aK (bK (aU wT (hr.mono (by decide)) rfl (aB (aD 0) (aB (aD 1) aG)))) aT) aT) (aK (cR (bV (dP hr.u100) (aD 2) aH) (aK (bK (aU wR (hr.mono (by decide)) rfl (aB (aD 0) (aB (aD 1) aG)))) aT) aT) (aK (cR (bV (dP hr.u100) (aD 2) aH) (aK (bK (aU Br (hr.mono (by decide)) rfl (aB (aD 0) (aB (aD 1) aG)))) aT) aT) (aK (aV 3 nd (vK (bV (dP hr.u100) (aD 2) aH) (aU Ah (hr.mono (by decide)) rfl (aB (aD 0) (aB (aD 1) aG))) vZ)) (aK (bK (vK (bV Qd (aD 3) vZ) (aU nY (hr.mono (by decide)) rfl (aB (aD 0) (aB (aD 1) aG))) (aD 3))) aT)))))))) vc
theorem sG{j:Nat}(D:Df K mg "_law_shifted" mU 215)(mE:aS P w K mg base "_law_shifted" mU 215 mG (j+1) (gW j))(bB:mg "tuple"=none)(vc:cJ mG wL (gW (j+1)) (yV j)):aS P w K mg base "_law_shifted" mU 215 mG (j+1+1) (gW (j+1)) :=
 cK D (fun _ _ _ _ _ _=>qI (by intros;rfl)) Vz (fun _ _ _ _ _ _ hr nd=>(aK (aV 3 nd (iP aG)) (aK (gI PassesOwn.never rfl (cT (aD 0)) (bI 4 nd) (aK (cR (bV (dP hr.u100) (aZ (aD 4) aH) aQ) (aK (aV 4 nd (aM (aB aQ (aB (aZ (aD 2) (aZ (aD 4) aH)) aG)))) aT) (aK (cR (bV vA (aZ (aD 4) aH) (aM (aB aQ (aB aQ aG))) (hm:=by with_unfolding_all rfl)) (aK (aV 4 nd (aX bW (aM (aB (aZ (aD 4) aH) (aB (aX bW (aZ (aD 4) aH) (aD 1)) aG))) (fY (aD 4) (fV aH) gH))) aT) (aK (cR (bV vA (aZ (aD 4) aH) (aM (aB aQ (aB aQ (aB aQ (aB aQ aG))))) (hm:=by with_unfolding_all rfl)) (aK (aV 4 nd (aM (aB (aZ (aD 4) aH) (aB (aX bW (aZ (aD 4) aH) (aD 1)) (aB (aX bW (aZ (aD 4) aH) (aD 1)) aG))))) aT) (aK (cR (bV (dP hr.u100) (aZ (aD 4) aH) aQ) (aK (aV 5 nd (iP aG)) (aK (gI PassesOwn.never rfl (cT (aZ (aD 4) aH)) (iC rfl (eA (bI 6 nd) (eA (bI 7 nd) iD))) (aK (kG (rB (aD 5) (aM (aB (aD 6) (aB (aU mE (hr.mono (by omega)) rfl (aB (aD 7) (aB (aD 1) (aB (aD 2) aG)))) aG))))) aT)) (aK (aV 4 nd (aM (aB aQ (aB (aX bW (aZ (aD 4) aH) (aD 1)) (aB (dA eF rfl bB dY (aB (aD 5) aG)) aG))))) aT))) aT) aT)) aT)) aT)) (aK (kG (rB (aD 3) (aD 4))) aT))) (aK (bK (dA eF rfl bB dY (aB (aD 3) aG))) aT)))) vc
theorem f6(D:Df K mg "law" uI 220)(wP:aS P w K mg base "_law_feed" sN 56 pE 1 pH)(Dw:aS P w K mg base "_law_things" qS 68 pQ 2 sL)(wD:aS P w K mg base "_law_some_clash" rK 208 pX 10 qK)(gP:aS P w K mg base "_law_two" kZ 144 lI 2 hU)(dU:aS P w K mg base "_law_words" iF 75 iJ 1 eK)(fW:aS P w K mg base "_law_kinds" kH 106 jS 1 gC)(mE:aS P w K mg base "_law_shifted" mU 215 mG 6 (gW 5))(bG:aS P w K mg base "_law_draw" fM 63 fL 1 bL)(lE:aS P w K mg base "laid_behind" nV 39 lX 12 (gD 5))(pB:aS P w K mg base "retold" nF 49 mH 11 (iR 5))(nA:mg "list"=none)(eM:mg "range"=none)(bN:mg "len"=none)(bB:mg "tuple"=none)(gX:mg "repr"=none)(vc:cJ vF Bi nB Ma):aS P w K mg base "law" uI 220 vF 13 nB :=
 cK D (fun _ _ _ _ _ _=>kI (by intros;rfl)) V8 (fun _ _ _ _ _ _ hr nd=>(aK (aV 1 nd (aU wP (hr.mono (by decide)) rfl (aB (aD 0) aG))) (aK (gI PassesOwn.never rfl (kC rfl eM aH) (bI 2 nd) (aK (aV 3 nd (aU Dw (hr.mono (by decide)) rfl (aB (aD 1) (aB aH (aB aH aG))))) (aK (sE (aU wD (hr.mono (by decide)) rfl (aB (aD 1) (aB (aD 3) aG))) (iC rfl (eA (bI 4 nd) (eA (bI 5 nd) iD)))) (aK (aV 6 nd (i9 rfl rfl nA rfl eM (bX dH rfl bN dE (aB (aD 4) aG)))) (aK (gI PassesOwn.never rfl (kC rfl eM (aU bG (hr.mono (by decide)) rfl (aB (aD 1) (aB aH aG)))) (bI 7 nd) (aK (aV 8 nd (aU gP (hr.mono (by decide)) rfl (aB (aD 1) (aB (aD 3) aG)))) (aK (aV 9 nd (aU dU (hr.mono (by decide)) rfl (aB (aU fW (hr.mono (by decide)) rfl (aB (aD 3) (aB (aD 8) aG))) aG))) (aK (aV 10 nd (aM (aB (aM (aB (aD 9) (aB (aU mE (hr.mono (by decide)) rfl (aB (aD 5) (aB aH (aB (aD 6) aG)))) aG))) aG))) (aK (aV 5 nd (aM (aB (aX bW (aM (aB aQ aG)) (aD 8)) (aB (aM (aB aQ (aB aH (aB (aD 10) aG)))) aG)))) aT))))) (aK (aV 11 nd (aZ (eO (aB aH (aB aH (aB aH (aB aH (aB (aU bG (hr.mono (by decide)) rfl (aB (aD 1) (aB aH aG))) aG)))))) (aU bG (hr.mono (by decide)) rfl (aB (aD 1) (aB aH aG))))) (aK (aV 12 nd (dA eF rfl bB dY (aB (fQ ["_law_number","_law_feed_here"] [none,some 1] rfl (cT (aD 6)) (fun cl C s2 H2 pins fp=>(bI 0 t8)) (fun cl C s2 H2 pins fp=>eP) (fun cl C s2 H2 pins fp=>(aU bG (hr.mono (by decide)) rfl (aB (aD 1) (aB aH aG))))) aG))) (aK (aV 13 nd (bX (jP hr.u200 hr.gd) rfl gX iT (aB (aM (aB (aD 5) (aB (aD 12) aG))) aG))) (aK (aV 14 nd (aU lE (hr.mono (by decide)) rfl (aB (aD 5) (aB (aD 11) aG)))) (aK (cR (bV (pJ hr.u100) (bX (jP hr.u200 hr.gd) rfl gX iT (aB (aD 14) aG)) (bX (jP hr.u200 hr.gd) rfl gX iT (aB (aU mE (hr.mono (by decide)) rfl (aB (aD 5) (aB (aD 11) (aB (aD 6) aG)))) aG))) (aK (bK iQ) aT) aT) (aK (cR (bV (pJ hr.u100) (bX (jP hr.u200 hr.gd) rfl gX iT (aB (aU lE (hr.mono (by decide)) rfl (aB (aD 14) (aB aH aG))) aG)) (bX (jP hr.u200 hr.gd) rfl gX iT (aB (aU lE (hr.mono (by decide)) rfl (aB (aD 5) (aB (aX bW (aD 11) aH) aG))) aG))) (aK (bK iQ) aT) aT) (aK (cR (bV (pJ hr.u100) (bX (jP hr.u200 hr.gd) rfl gX iT (aB (aU lE (hr.mono (by decide)) rfl (aB (aD 5) (aB aH aG))) aG)) (bX (jP hr.u200 hr.gd) rfl gX iT (aB (aD 5) aG))) (aK (bK iQ) aT) aT) (aK (cR (bV (pJ hr.u100) (bX (jP hr.u200 hr.gd) rfl gX iT (aB (aU pB (hr.mono (by decide)) rfl (aB (aD 5) (aB (aD 12) aG))) aG)) (bX (jP hr.u200 hr.gd) rfl gX iT (aB (aU mE (hr.mono (by decide)) rfl (aB (aD 5) (aB aH (aB (aD 12) aG)))) aG))) (aK (bK iQ) aT) aT) (aK (cR (bV (pJ hr.u100) (bX (jP hr.u200 hr.gd) rfl gX iT (aB (aM (aB (aD 5) (aB (aD 12) aG))) aG)) (aD 13)) (aK (bK iQ) aT) aT) aT)))))))))))))) (aK (bK iQ) aT)))) vc
end
end K29
namespace K29
open PySem PySem.Spec PyProof.Rows L2 DL K01
abbrev EN(R:DK):Ends2:={nx:=fun _ m=>R (.dat .none) m,rt:=R}
theorem sz{n:Nat}(h:n<=1000):n<=sizeLine:=Nat.le_trans h (by rw[sizeLine_eq];decide)
theorem BW{ns:List Int}{i:Int}(h0:0<=i)(h:i<(ns.length:Int)):∃ v:Int,cA (ns.map PyData.int) i=some (.int v):=by
 obtain⟨k,rfl⟩:∃ k:Nat,i=k:=⟨i.toNat,by omega⟩
 have hk:k<ns.length:=by omega
 exact⟨ns[k],kB (by rw[List.getElem?_map,List.getElem?_eq_getElem hk]<;>rfl)⟩
theorem eR{i j:Int}(h:Bd 64 i):IntMulOk i j:=IntMulOk.of_left (intBits_le_iff.mpr h)
theorem Mb{i j:Int}(h:Bd 64 j):IntMulOk i j:=IntMulOk.of_right (intBits_le_iff.mpr h)
set_option exponentiation.threshold 3000 in
theorem iI{i:Int}{n:Nat}(h:i.natAbs<2^n:=by decide):Bd n i:=h
theorem oF{xs:List PyData}{P:PyData->Prop}{r:Int}(h:∀ p∈xs,P p)(h0:0<=r)(h1:r<(xs.length:Int)):∃ p,cA xs r=some p/\P p:=by
 obtain⟨k,rfl⟩:∃ k:Nat,r=k:=⟨r.toNat,by omega⟩
 have hk:k<xs.length:=by omega
 exact⟨xs[k],kB (List.getElem?_eq_getElem hk),h _ (List.getElem_mem hk)⟩
theorem Gf{t u:DS}{E:Ends2}{d:bO}{m:Mu}(J:bO->Mu->Prop)(hJ:∀ d m,J d m->u E d m)(hh:∀ NX:bO->Mu->Prop,(∀ d m,J d m->NX d m)->t {E with nx:=NX} d m):aJ t u E d m:=hh _ hJ
theorem tL{g:DG}{t:DT}{f:DE}{Q:List PyData->Mu->Prop}(J:List D->List PyData->bO->Mu->Prop)(fin:∀ acc d m,J [] acc d m->Q acc m)
  (step:∀ x xs acc d m (k:List PyData->bO->Mu->Prop),J (x::xs) acc d m->(∀ acc' d' m',J xs acc' d' m'->k acc' d' m')->g x d m fun d1 m1=>t d1 m1 fun b m2=>if b=true then f d1 m2 fun y m3=>∃ p,y=.dat p/\acc.length<sizeLine/\k (acc++[p]) d1 m3 else k acc d1 m2) :
  ∀ xs acc d m,J xs acc d m->bD g t f xs acc d m Q
 | [],acc,d,m,h=>fin acc d m h
 | x::xs,acc,d,m,h=>step x xs acc d m (fun acc' d' m'=>bD g t f xs acc' d' m' Q) h (tL J fin step xs)
@[simp] theorem GS:PyData.strOk (Str.ofString "point")=true:=by decide +kernel
@[simp] theorem GU:PyData.strOk (Str.ofString "stretch")=true:=by decide +kernel
@[simp] theorem cW(x:PyData)(xs:List PyData):cA (x::xs) 0=some x:=by simp[cA,gB]
@[simp] theorem lG(x y:PyData)(xs:List PyData):cA (x::y::xs) 1=some y:=by
 have:(1:Int)<xs.length+1+1:=by omega
 simp[cA,gB,this]
theorem EA(k l:Bool):1<=(WS k l).length/\(WS k l).length<=13:=by cases k<;>cases l<;>decide
theorem sM:∀ ns:List Int,PyData.canLayAll0 (ns.map .int)=true/\PyData.depthAll (ns.map .int)<=1
 | []=>by simp[PyData.canLayAll0,PyData.depthAll]
 | n::ns=>by
  obtain⟨h1,h2⟩:=sM ns;simp only[List.map_cons,PyData.canLayAll0,PyData.depthAll,PyData.canLay0,PyData.depth,h1,Bool.and_self];exact⟨trivial,by omega⟩
theorem eZ{i:Int}(h0:-100000000<=i)(h1:i<=100000000):Bd 64 i:=by
 unfold Bd;have e:(2:Nat)^64=18446744073709551616:=by decide
 omega
theorem Fed.trans{b c n:Int}{m m1 m2:Mu}{a:Addr}(h:Fed b n m m1 a)(q:Fed c (n+b) m1 m2 a):Fed (b+c) n m m2 a:=by
 refine⟨by have:=q.1;rwa [Int.add_assoc]at this,fun x hx hs=>?_⟩
 have e:=h.2 x hx hs
 rw[q.2 x hx (by rw[e];exact hs),e]
theorem Fed.refl{n:Int}{m:Mu}{a:Addr}(h:Tp n m a):Fed 0 n m m a:=⟨by simpa using h,fun _ _ _=>rfl⟩
theorem dD{a:Addr}{n b L:Int}{m0 m:Mu}{R:DK}(h0:0<n)(hb:n<1000000)(hL:L<=9000000)(hbb:b<=100000)(hf:Fed b L m0 m a)(h:∀ (r:Int) m',0<=r->r<n->Fed (b+1) L m0 m' a->R (I r) m'):bL [.cel a,I n] m R:=by
 refine⟨a,n,L+b,rfl,h0,?_,by omega,hf.1,fun r m' q0 q1 q2=>h r m' q0 q1 (hf.trans q2)⟩
 refine Bd.mono (m:=20) ?_ (by decide)
 unfold Bd;have e:(2:Nat)^20=1048576:=by decide
 omega
theorem No{n i:Nat}(h:i<n):(dC 0 n).drop i=I (i:Int)::(dC 0 n).drop (i+1):=by
 have hl:i<(dC 0 n).length:=by unfold dC;simpa using h
 rw[List.drop_eq_getElem_cons hl]
 congr 1
 unfold dC;simp
theorem T5{n:Nat}:(dC 0 n).drop n=[]:=by
 rw[List.drop_eq_nil_iff];unfold dC;simp
theorem Kj{g:DG}{t:DT}{f:DE}{Q:List PyData->Mu->Prop}{n:Nat}(J:Nat->List PyData->bO->Mu->Prop)(fin:∀ acc d m,J n acc d m->Q acc m)
  (step:∀ i acc d m (k:List PyData->bO->Mu->Prop),i<n->J i acc d m->(∀ acc' d' m',J (i+1) acc' d' m'->k acc' d' m')->g (I (i:Int)) d m fun d1 m1=>t d1 m1 fun b m2=>if b=true then f d1 m2 fun y m3=>∃ p,y=.dat p/\acc.length<sizeLine/\k (acc++[p]) d1 m3 else k acc d1 m2) :
  ∀ acc d m,J 0 acc d m->bD g t f (dC 0 n) acc d m Q:=by
 intro acc d m h;refine tL (fun rest acc d m=>∃ i,i<=n/\rest=(dC 0 n).drop i/\J i acc d m) ?_ ?_ _ _ _ _ ⟨0,Nat.zero_le _,rfl,h⟩
 ·rintro acc d m ⟨i,hi,e,hj⟩;have:i=n:=by
   have:=congrArg List.length e
   unfold dC at this;simp at this;omega
  subst this;exact fin _ _ _ hj
 ·rintro x xs acc d m k ⟨i,hi,e,hj⟩ hk;have hlt:i<n:=by
   have:=congrArg List.length e
   unfold dC at this;simp at this;omega
  rw[No hlt]at e;obtain⟨rfl,rfl⟩:=List.cons.inj e;exact step i acc d m k hlt hj fun acc' d' m' h'=>hk _ _ _ ⟨i+1,hlt,rfl,h'⟩
theorem sR{g:DG}{b:DS}{E:Ends2}{n:Nat}(J:Nat->bO->Mu->Prop)(hd:∀ d m,J n d m->E.nx d m)
  (step:∀ i,i<n->∀ (k:bO->Mu->Prop),(∀ d m,J (i+1) d m->k d m)->∀ d m,J i d m->g (I (i:Int)) d m fun d' m'=>b {E with nx:=k,ct:=k,bk:=E.nx} d' m'):∀ d m,J 0 d m->cH g b E (dC 0 n) d m:=by
 have key:∀ (r i:Nat),r+i=n->∀ d m,J i d m->cH g b E ((dC 0 n).drop i) d m:=by
  intro r
  induction r with
  | zero =>
   intro i hi d m hj;have:i=n:=by omega
   subst this;rw[T5];exact hd d m hj
  | succ r ih =>
   intro i hi d m hj;rw[No (by omega)]
   exact step i (by omega) _ (ih (i+1) (by omega)) d m hj
 intro d m h;have:=key n 0 (by omega) d m h
 simpa using this
theorem FM:∀ z∈cE,cA (cE.map PyData.str) (12-(cE.idxOf z:Int))=some (.str (tn z)):=by
 intro z hz;have h1:cE.idxOf z<cE.length:=List.idxOf_lt_length_iff.mpr hz
 have h2:cE.length=13:=rfl
 obtain⟨k,hk⟩:∃ k,cE.idxOf z=k:=⟨_,rfl⟩;rw[h2,hk]at h1;unfold tn;rw[hk,show(12:Int)-(k:Int)=((12-k:Nat):Int) by omega]
 refine kB ?_;rw[List.getElem?_map,List.getD_eq_getElem?_getD,List.getElem?_eq_getElem (by omega)]
 rfl
theorem Lf{zs:List Str}(h:∀ z∈zs,PyData.strOk z=true):PyData.canLayAll0 (zs.map .str)=true:=by
 induction zs with
 | nil=>simp[PyData.canLayAll0]
 | cons z zs ih =>
  simp only[List.map_cons,PyData.canLayAll0,PyData.canLay0,h z List.mem_cons_self,ih fun y hy=>h y (List.mem_cons_of_mem _ hy),Bool.and_self]
theorem nE:∀ z∈cE,PyData.strOk z=true:=by decide +kernel
theorem hZ(k l:Bool):∀ z∈WS k l,z∈cE:=by cases k<;>cases l<;>decide +kernel
theorem Nl{k j:aN}{p:PyData}:∀ {kvs:List (aN×PyData)},(∃ q,cG kvs j=some q)\/j=k->∃ q,cG (fA kvs k p) j=some q:=by
 intro kvs h;unfold fA
 split
 ·rename_i ha;rcases h with⟨q,hq⟩ | rfl
  ·unfold cG at hq ⊢;rw[List.find?_map]
   cases e:kvs.find? (fun kv=>decide (kv.1=j)) with
   | none=>rw[e]at hq;cases hq
   | some kv =>
    have:(fun kv:aN×PyData=>decide (kv.1=j))∘(fun kv=>if kv.1=k then (kv.1,p) else kv)=fun kv=>decide (kv.1=j):=by
     funext kv
     simp only[Function.comp]
     split<;>rfl
    rw[this,e];exact⟨_,rfl⟩
  ·unfold cG;rw[List.find?_map];have:(fun kv:aN×PyData=>decide (kv.1=j))∘(fun kv=>if kv.1=j then (kv.1,p) else kv)=fun kv=>decide (kv.1=j):=by
    funext kv
    simp only[Function.comp]
    split<;>rfl
   rw[this];obtain⟨kv,hm,hd⟩:=List.any_eq_true.mp ha
   cases e:kvs.find? (fun kv=>decide (kv.1=j)) with
   | none=>exact absurd hd (by simpa using List.find?_eq_none.mp e kv hm)
   | some kv=>exact⟨_,rfl⟩
 ·rename_i ha;unfold cG;rw[List.find?_append];rcases h with⟨q,hq⟩ | rfl
  ·unfold cG at hq
   cases e:kvs.find? (fun kv=>decide (kv.1=j)) with
   | none=>rw[e]at hq;cases hq
   | some kv=>exact⟨_,rfl⟩
  ·cases e:kvs.find? (fun kv=>decide (kv.1=j)) with
   | none=>exact⟨p,by simp⟩
   | some kv=>exact⟨_,rfl⟩
theorem L9{k:aN}{p:PyData}{kvs:List (aN×PyData)}{kv:aN×PyData}(h:kv∈fA kvs k p):kv∈kvs\/kv=(k,p):=by
 unfold fA at h
 split at h
 ·obtain⟨x,hx,e⟩:=List.mem_map.mp h
  split at e
  ·rename_i hk;subst e;exact .inr (by rw[hk])
  ·subst e;exact .inl hx
 ·rcases List.mem_append.mp h with h | h
  ·exact .inl h
  ·exact .inr (by simpa using h)
theorem Fk:∀ {r acc:List (aN×PyData)} {kv:aN×PyData},kv∈eC acc r->kv∈acc\/kv∈r
 | [],acc,kv,h=>.inl h
 | x::r,acc,kv,h=>by
  have:kv∈eC (fA acc x.1 x.2) r:=h
  rcases Fk this with h | h
  ·rcases L9 h with h | h
   ·exact .inl h
   ·exact .inr (by rw[h];exact List.mem_cons_self)
  ·exact .inr (List.mem_cons_of_mem _ h)
theorem Eh:∀ {r acc:List (aN×PyData)} {j:aN},((∃ q,cG acc j=some q)\/∃ kv∈r,kv.1=j)->∃ q,cG (eC acc r) j=some q
 | [],acc,j,h=>by
  rcases h with h | ⟨kv,h,_⟩
  ·exact h
  ·cases h
 | x::r,acc,j,h=>by
  show ∃ q,cG (eC (fA acc x.1 x.2) r) j=some q
  refine Eh ?_;rcases h with h | ⟨kv,h,e⟩
  ·exact .inl (Nl (.inl h))
  ·rcases List.mem_cons.mp h with rfl | h
   ·exact .inl (Nl (.inr e.symm))
   ·exact .inr ⟨kv,h,e⟩
theorem DD{k:aN}{p:PyData}{kvs:List (aN×PyData)}(h:cG kvs k=some p):(k,p)∈kvs:=by
 unfold cG at h
 cases e:kvs.find? (fun kv=>decide (kv.1=k)) with
 | none=>rw[e]at h;cases h
 | some kv =>
  rw[e]at h
  cases h
  have:=List.find?_some e
  have hk:kv.1=k:=by simpa using this
  rw[<- hk];exact List.mem_of_find?_eq_some e
def kQ(ts:List (Str×Bool)):List (aN×PyData):=ts.map fun t=>(Sum.inr t.1,PyData.str (kd t.2))
theorem FV(ts:List (Str×Bool)):TH ts=.tuple ((kQ ts).map fun kv=>.tuple [lZ kv.1,kv.2]):=by
 unfold kQ;simp[lZ,Function.comp_def]
theorem Vm{ts:List (Str×Bool)}(nd:(ts.map (·.1)).Nodup){a:Str}{k l:Bool}(h:(a,k)∈ts)(g:(a,l)∈ts):k=l:=by
 induction ts with
 | nil=>cases h
 | cons t ts ih =>
  rw[List.map_cons,List.nodup_cons]at nd;rcases List.mem_cons.mp h with h1 | h1<;>rcases List.mem_cons.mp g with g1 | g1
  ·rw[<- h1]at g1;cases g1;rfl
  ·exact absurd (List.mem_map.mpr ⟨_,g1,by rw[<- h1]⟩) nd.1
  ·exact absurd (List.mem_map.mpr ⟨_,h1,by rw[<- g1]⟩) nd.1
  ·exact ih nd.2 h1 g1
theorem Yw{ts:List (Str×Bool)}(nd:(ts.map (·.1)).Nodup){a:Str}{k:Bool}(h:(a,k)∈ts):cG (eC [] (kQ ts)) (.inr a)=some (.str (kd k)):=by
 obtain⟨q,hq⟩:=Eh (r:=kQ ts) (acc:=[]) (j:=.inr a) (.inr ⟨_,List.mem_map.mpr ⟨(a,k),h,rfl⟩,rfl⟩);rcases Fk (DD hq) with g | g
 ·cases g
 ·obtain⟨u,hu,e⟩:=List.mem_map.mp g;obtain⟨u1,u2⟩:=u;simp at e;obtain⟨rfl,rfl⟩:=e;rw[hq,Vm nd hu h]
@[simp] theorem pM(x y z:PyData)(xs:List PyData):cA (x::y::z::xs) 2=some z:=by
 have:(2:Int)<xs.length+1+1+1:=by omega
 simp[cA,gB,this]
theorem n8{z:Str}(h:iY z):PyData.strOk z=true:=by
 unfold PyData.strOk;rw[<- Array.all_toList];exact h.1
theorem R9:∀ z∈cE,z.cps.toList.all (fun c=>decide (c<1114112))=true/\z.length<=20:=by decide +kernel
theorem GN{z:Str}(h:iY z):PyData.leavesShort 8 (.str z)=true:=by
 unfold PyData.leavesShort;rw[List.all_eq_true];intro c hc;have:=List.all_eq_true.mp h.1 c hc
 simp at this;exact decide_eq_true (Nat.lt_trans this (by decide))
@[simp] theorem La(x y z w:PyData)(xs:List PyData):cA (x::y::z::w::xs) 3=some w:=by
 have:(3:Int)<xs.length+1+1+1+1:=by omega
 simp[cA,gB,this]
theorem Fed.tp{b n:Int}{m0 m:Mu}{a:Addr}(h:Fed b n m0 m a):(m a).isSome=true:=by
 obtain⟨⟨ns,i,j,t,q,_⟩,_⟩:=h;rw[q];rfl
theorem Fed.mono{b c n:Int}{m m1:Mu}{a:Addr}(h:Fed b n m m1 a)(hb:b<=c):Fed c n m m1 a:=by
 obtain⟨⟨ns,i,j,t,q1,q2,q3,q4⟩,q⟩:=h;exact⟨⟨ns,i,j,t,q1,q2,q3,by omega⟩,q⟩
theorem Fed.new{b n:Int}{m0 m:Mu}{a c:Addr}(h:Fed b n m0 m a)(hc:m c=none):c≠a/\m0 c=none:=by
 have ne:c≠a:=by
  rintro rfl;have:=h.tp
  rw[hc]at this
  cases this
 refine⟨ne,?_⟩
 cases e:m0 c with
 | none=>rfl
 | some x =>
  have:=h.2 c ne (by rw[e];rfl)
  rw[hc,e]at this
  cases this
theorem Fed.upd{b n:Int}{m0 m:Mu}{a c:Addr}{x:Cel}(h:Fed b n m0 m a)(hca:c≠a)(hc:m0 c=none):Fed b n m0 (aY m c x) a:=by
 obtain⟨⟨ns,i,j,t,q1,q⟩,h2⟩:=h;refine⟨⟨ns,i,j,t,by rw[bM (Ne.symm hca)];exact q1,q⟩,fun y hy hs=>?_⟩
 have ne:y≠c:=by rintro rfl;rw[hc]at hs;cases hs
 rw[bM ne];exact h2 y hy hs
theorem Fed.kn{b n:Int}{m0 m m':Mu}{a:Addr}(h:Fed b n m0 m a)(k:Kn m m'):Fed b n m0 m' a:=by
 have e:=k a h.tp
 obtain⟨⟨ns,i,j,t,q1,q⟩,h2⟩:=h;refine⟨⟨ns,i,j,t,by rw[e];exact q1,q⟩,fun y hy hs=>?_⟩
 have e2:=h2 y hy hs
 rw[k y (by rw[e2];exact hs),e2]
theorem Tp.kn{n:Int}{m m':Mu}{a:Addr}(h:Tp n m a)(k:Kn m m'):Tp n m' a:=by
 have:=(Fed.refl h).kn k
 simpa using this.1
theorem Kn.refl{m:Mu}:Kn m m:=fun _ _=>rfl
theorem Kn.trans{m m1 m2:Mu}(h:Kn m m1)(g:Kn m1 m2):Kn m m2:=fun c hc=>by
 have e:=h c hc
 rw[g c (by rw[e];exact hc),e]
theorem Kn.new{m m1:Mu}{c:Addr}{x:Cel}(h:Kn m m1)(hc:m c=none):Kn m (aY m1 c x):=fun y hy=>by
 have ne:y≠c:=by rintro rfl;rw[hc]at hy;cases hy
 rw[bM ne];exact h y hy
theorem Kn.none{m m1:Mu}{c:Addr}(h:Kn m m1)(hc:m1 c=Option.none):m c=Option.none:=by
 cases e:m c with
 | none=>rfl
 | some x =>
  have:=h c (by rw[e];rfl)
  rw[hc,e]at this
  cases this
theorem tG{a:Addr}{n b L:Int}{m0 m:Mu}{R:DK}(h0:0<n)(hb:n<1000000)(hL:L<=9000000)(hbb:b<=100000)(hf:Fed b L m0 m a)(h:∀ (r:Int) m',0<=r->r<n->Fed (b+1) L m0 m' a->(∀ c x,c≠a->m c=some x->m' c=some x)->R (I r) m'):bL [.cel a,I n] m R:=by
 refine⟨a,n,L+b,rfl,h0,?_,by omega,hf.1,fun r m' q0 q1 q2=>h r m' q0 q1 (hf.trans q2) fun c x hc hx=>by rw[q2.2 c hc (by rw[hx];rfl)];exact hx⟩
 refine Bd.mono (m:=20) ?_ (by decide)
 unfold Bd;have e:(2:Nat)^20=1048576:=by decide
 omega
theorem Tw:∀ ds m R,ds.length=pE.length->pH ds m R->xZ (EN R) (bY yO ds) m:=by
 rintro ds m R hl ⟨ns,rfl,hn,h⟩;have e:cV (ns.map PyData.int) none (some 63)=ns.map PyData.int:=by
  refine Om _ ⟨rfl,?_⟩;simp[HT.sIx];omega
 obtain⟨y1,y2⟩:=sM ns;simp[xZ,e,PyData.canLay0,PyData.canLayAll0,PyData.depth,y1];refine⟨sz (by decide),fun c hc=>⟨by omega,?_⟩⟩
 cases ns with
 | nil =>
  simp[PyData.eqv,PyData.eqvAll,bF];refine⟨sz (by decide),sz (by decide),fun a _=>h a _ ⟨[7],0,0,0,bF,by decide,by decide,by decide⟩⟩
 | cons x xs =>
  simp[PyData.eqv,PyData.eqvAll,bF];refine⟨sz (by simp at hn;omega),sz (by decide),fun a _=>h a _ ⟨x::xs,0,0,0,by simpa using bF,by simp,by decide,by decide⟩⟩
theorem lQ{c:Bool}{a b:Prop}(e:c=true)(h:a):if c=true then a else b:=by rw[if_pos e];exact h
theorem dF{c:Bool}{a b:Prop}(e:c=false)(h:b):if c=true then a else b:=by rw[if_neg (by rw[e];decide)];exact h
theorem AZ:∀ ds m R,ds.length=fL.length->bL ds m R->Os (EN R) (bY wF ds) m:=by
 rintro ds m R hl ⟨a,n,L,rfl,h0,hb,hL,⟨ns,i,j,t,hm,hn,t0,t1⟩,h⟩;have nl:n.natAbs.log2<9000:=Nat.lt_of_lt_of_le (hb.log (by decide)) (by decide)
 have n0:n≠0:=by omega
 have rng:∀ x:Int,0<=x.fmod n/\x.fmod n<n:=fun x=>⟨Int.fmod_nonneg_of_pos _ h0,Int.fmod_lt_of_pos _ h0⟩
 have hp:(0:Int)<ns.length:=by omega
 have hz:ns≠[]:=by rintro rfl;simp at hn
 obtain⟨v,hv⟩:=BW (ns:=ns) (i:=i.fmod ns.length) (Int.fmod_nonneg_of_pos _ hp) (Int.fmod_lt_of_pos _ hp);have fin:∀ (i j:Int) (o3 o4:Option D) (m1:Mu),m1 a=some (.l [.list (ns.map .int),.int i,.int j,.int (t+1)])->(∀ c,c≠a->m1 c=m c)->Fj (EN R) [some (.cel a),some (I n),some (I (t+1)),o3,o4,none] m1:=fun i j o3 o4 m1 e k =>
  ⟨_,rfl,_,_,e,pM _ _ _ _,_,rfl,n0,_,rfl,_,_,e,pM _ _ _ _,_,rfl,n0,nl,_,rfl,a,2,_,2,_,rfl,rfl,rfl,e,rfl,_,rfl,
   h _ _ (rng _).1 (rng _).2 ⟨⟨ns,_,_,_,bF,hn,by omega,by omega⟩,fun c hc _=>by rw[bM hc];exact k c hc⟩⟩
 refine⟨_,rfl,_,_,hm,La _ _ _ _ _,_,rfl,a,3,_,3,_,rfl,rfl,rfl,hm,rfl,?_⟩;obtain⟨m1,e1⟩:∃ m1,m1=aY m a (.l [.list (ns.map .int),.int i,.int j,.int (t+1)]):=⟨_,rfl⟩;have hm1:m1 a=some (.l [.list (ns.map .int),.int i,.int j,.int (t+1)]):=by rw[e1];exact bF
 have k1:∀ c,c≠a->m1 c=m c:=fun c hc=>by rw[e1];exact bM hc
 show Fd (EN R) [some (.cel a),some (I n),none,none,none,none] (aY m a (.l [.list (ns.map .int),.int i,.int j,.int (t+1)]))
 rw[<- e1];refine⟨_,rfl,_,_,hm1,La _ _ _ _ _,?_⟩;refine⟨_,rfl,_,_,hm1,pM _ _ _ _,rfl,rfl,Nat.zero_le _,_,rfl,?_⟩
 by_cases hj:j=0
 ·subst hj;refine lQ rfl ?_;refine⟨_,rfl,_,_,hm1,cW _ _,_,rfl,_,_,hm1,lG _ _ _,_,rfl,_,_,hm1,cW _ _,?_⟩;refine⟨by rw[List.length_map];omega,_,by rw[List.length_map];exact hv,?_⟩
  refine⟨_,rfl,_,_,hm1,lG _ _ _,_,rfl,a,1,_,1,_,rfl,rfl,rfl,hm1,rfl,?_⟩;refine⟨_,rfl,⟨by decide,by decide,by decide⟩,_,rfl,?_⟩
  by_cases hc:v<1000000000000000000
  ·refine lQ (decide_eq_true hc) ?_;refine⟨_,rfl,by decide,_,rfl,eR (eZ (by decide) (by decide)),_,rfl,Mb (eZ (by omega) (by omega)),_,rfl,eR (eZ (by decide) (by decide)),eR ?_,by decide,?_⟩
   ·have q1:=Int.fmod_nonneg_of_pos v (show(0:Int)<2147483629 by decide)
    have q2:=Int.fmod_lt_of_pos v (show(0:Int)<2147483629 by decide)
    unfold Bd;have e:(2:Nat)^64=18446744073709551616:=by decide
    omega
   refine⟨_,rfl,_,rfl,by decide,Mb ?_,_,rfl,?_⟩
   ·refine eZ ?_ ?_
    ·have q1:=Int.fmod_nonneg_of_pos (Int.fmod ((v.fmod 2147483629+1)*(31*(t+1)*(t+1)+7919*(t+1)+1)) 2147483647) (show(0:Int)<65521 by decide)
     omega
    ·have q1:=Int.fmod_lt_of_pos (Int.fmod ((v.fmod 2147483629+1)*(31*(t+1)*(t+1)+7919*(t+1)+1)) 2147483647) (show(0:Int)<65521 by decide)
     omega
   exact⟨_,rfl,by decide,by decide,by decide +kernel,_,rfl,n0,h _ _ (rng _).1 (rng _).2 ⟨⟨ns,_,_,_,bF,hn,by omega,by omega⟩,fun c hc _=>by rw[bM hc];exact k1 c hc⟩⟩
  ·refine dF (decide_eq_false hc) ?_;refine⟨_,rfl,_,rfl,a,2,_,2,_,rfl,rfl,rfl,bF,rfl,?_⟩;exact fin _ _ _ _ _ bF fun c hc=>by rw[bM hc,bM hc];exact k1 c hc
 ·refine dF (show(j==0)=false from beq_eq_false_iff_ne.mpr hj) ?_
  exact fin _ _ _ _ _ hm1 k1
theorem GG:∀ ds m R,ds.length=iJ.length->eK ds m R->xV (EN R) (bY Cv ds) m:=by
 rintro ds m R hl ⟨k,l,rfl,h⟩
 cases k<;>cases l<;>simp (decide:=true) [xV,Il,Lh,Lp,Ko,kd,PyData.eqv,PyData.eqvAll,PyData.canLay0,PyData.canLayAll0,PyData.depth,PyData.depthAll,cA,gB,and_assoc,sz]<;>exact h
theorem Qa:∀ ds m R,ds.length=lS.length->iN ds m R->Bm (EN R) (bY yT ds) m:=by
 rintro ds m R hl ⟨z,rfl,hz,h⟩;have q:=FM z hz
 simp[Bm];refine⟨sz (by decide),true,true,rfl,?_⟩
 simp[Lm,WS];exact⟨cE,rfl,hz,_,q,h⟩
theorem Tx:∀ ds m R,ds.length=jC.length->fD ds m R->Cz (EN R) (bY Am ds) m:=by
 rintro ds m R hl ⟨k,rfl,h⟩
 cases k<;>simp (decide:=true) [Cz,kd,sz]<;>exact h
theorem lH(k l:Bool):(WS k l).length<=13:=(EA k l).2
@[simp] theorem GP(x y:Str):PyData.eqv (.str x) (.str y)=decide (x=y):=by
 rw[Bool.eq_iff_iff];simp[PyData.eqv]
theorem mJ{ts:List (Str×Bool)}(nm:Nm (ts.map (·.1))){a:Str}{k:Bool}(h:(a,k)∈ts):iY a:=nm.2.2 a (List.mem_map.mpr ⟨_,h,rfl⟩)
def kJ:List Str:=["a","ab","abc","begin","end","gap","may","o","point","strict","zzzzzzzz"]
def nm(f s k:Nat):Str:=kJ.getD ((f+s*k)%11) ""
theorem Ox:∀ f<11,∀ s<11,0<s->((List.range 6).map (nm f s)).Nodup:=by decide +kernel
theorem ED:∀ i<11,(kJ.getD i "").cps.toList.all (fun c=>decide (c<1114112))=true/\(kJ.getD i "").length<=20:=by decide +kernel
theorem y7{i:Int}(h0:0<=i)(h1:i<11):cA (kJ.map PyData.str) i=some (.str (kJ.getD i.toNat "")):=by
 obtain⟨k,rfl⟩:∃ k:Nat,i=k:=⟨i.toNat,by omega⟩
 have hk:k<11:=by omega
 refine kB ?_;have:k<kJ.length:=hk
 rw[List.getElem?_map,List.getD_eq_getElem?_getD,Int.toNat_natCast,List.getElem?_eq_getElem this];rfl
theorem l0{i:Int}(h0:0<=i)(h1:i<3):∃ b,cA [PyData.str "stretch",.str "stretch",.str "point"] i=some (.str (kd b)):=by
 obtain rfl | rfl | rfl:i=0\/i=1\/i=2:=by omega
 ·exact⟨true,rfl⟩
 ·exact⟨true,rfl⟩
 ·exact⟨false,rfl⟩
theorem u5{i:Int}(h0:0<=i)(h1:i<2):∃ b,cA [PyData.str "stretch",.str "point"] i=some (.str (kd b)):=by
 obtain rfl | rfl:i=0\/i=1:=by omega
 ·exact⟨true,rfl⟩
 ·exact⟨false,rfl⟩
theorem DN{ps:List PyData}{a:Addr}{b L:Int}{m0 m:Mu}{o:Option D}{Q:List PyData->Mu->Prop}(hn:ps.length<=6)(hL:L<=9000000)(hb:b<=1000)(hf:Fed b L m0 m a)
  (h:∀ (ks:List Bool) m',ks.length=ps.length->Fed (b+6) L m0 m' a->Q (ks.map fun k=>.str (kd k)) m') :
  bD (gN 0) cC (aI aW (dW (aA (aE (.str "stretch")) (aA (aE (.str "stretch")) (aA (aE (.str "point")) aF)))) (aP 2 bL (aA (aC 1) (aA (aE (.int 3)) aF)))) (ps.map .dat) [] [o,some (.cel a)] m Q:=by
 refine tL (fun rest acc d m'=>∃ (ks:List Bool),Fed (b+ks.length) L m0 m' a/\(∃ o,d=[o,some (.cel a)])/\acc=ks.map (fun k=>.str (kd k))/\rest.length+ks.length=ps.length) ?_ ?_ _ _ _ _ ⟨[],by simpa using hf,⟨o,rfl⟩,rfl,by simp⟩
 ·rintro acc d m' ⟨ks,hf',_,rfl,e⟩;simp at e;exact h ks m' e (hf'.mono (by omega))
 ·rintro x xs acc d m' k ⟨ks,hf',⟨o,rfl⟩,rfl,e⟩ hk;simp at e;simp[sz];refine dD (by decide) (by decide) hL (by omega) hf' fun r m2 r0 r1 hf2=>?_
  obtain⟨c,hc⟩:=l0 r0 r1;refine⟨_,hc,_,rfl,Nat.lt_of_lt_of_le (show ks.length<7 by omega) (sz (by decide)),?_⟩
  refine hk _ _ _ ⟨ks++[c],?_,⟨_,rfl⟩,by simp,by simp;omega⟩
  refine hf2.mono ?_;simp;omega
theorem BS{ps:List PyData}{i:Int}{m:Mu}{o:Option D}{Q:List PyData->Mu->Prop}(hn:ps.length<=6)(i0:0<=i)(i1:i<2)
  (h:∀ (ks:List Bool),ks.length=ps.length->Q (ks.map fun k=>.str (kd k)) m) :
  bD (gN 0) cC (aI aW (dW (aA (aE (.str "stretch")) (aA (aE (.str "point")) aF))) (aC 1)) (ps.map .dat) [] [o,some (I i)] m Q:=by
 refine tL (fun rest acc d m'=>m'=m/\∃ (ks:List Bool),(∃ o,d=[o,some (I i)])/\acc=ks.map (fun k=>.str (kd k))/\rest.length+ks.length=ps.length) ?_ ?_ _ _ _ _ ⟨rfl,[],⟨o,rfl⟩,rfl,by simp⟩
 ·rintro acc d m' ⟨rfl,ks,_,rfl,e⟩;simp at e;exact h ks e
 ·rintro x xs acc d m' k ⟨rfl,ks,⟨o,rfl⟩,rfl,e⟩ hk;simp at e;obtain⟨c,hc⟩:=u5 i0 i1;simp[sz];refine⟨_,hc,Nat.lt_of_lt_of_le (show ks.length<7 by omega) (sz (by decide)),?_⟩
  exact hk _ _ _ ⟨rfl,ks++[c],⟨_,rfl⟩,by simp,by simp;omega⟩
theorem Zi:∀ ds m R,ds.length=pQ.length->sL ds m R->Ji (EN R) (bY yJ ds) m:=by
 rintro ds m R hl ⟨a,L,rfl,hL,hT,h⟩;have hf:=Fed.refl hT
 refine⟨_,rfl,sz (Nat.le_of_ble_eq_true rfl),?_⟩;refine⟨_,rfl,_,rfl,_,rfl,_,rfl,rfl,?_⟩;refine dD (by decide) (by decide) hL (by decide) hf fun r1 m1 r10 r11 hf1=>?_
 refine⟨_,rfl,rfl,?_⟩;refine dD (by decide) (by decide) hL (by decide) hf1 fun r2 m2 r20 r21 hf2=>?_
 refine⟨_,rfl,rfl,?_⟩;refine dD (by decide) (by decide) hL (by decide) hf2 fun r3 m3 r30 r31 hf3=>?_
 obtain⟨n,rfl⟩:∃ n:Nat,r1=n:=⟨r1.toNat,by omega⟩
 obtain⟨f,rfl⟩:∃ n:Nat,r2=n:=⟨r2.toNat,by omega⟩
 obtain⟨s,rfl⟩:∃ n:Nat,r3=n:=⟨r3.toNat,by omega⟩
 refine⟨_,rfl,_,rfl,by omega,by omega,?_⟩
 show bD _ _ _ _ _ [none,some (.dat (.list (kJ.map .str))),some (I f),some (I (1+s))] _ _
 refine Kj (fun i acc d m'=>m'=m3/\acc=((List.range i).map (nm f (s+1))).map .str/\∃ o,d=[o,some (.dat (.list (kJ.map .str))),some (I f),some (I (1+s))]) ?_ ?_ _ _ _ ⟨rfl,rfl,none,rfl⟩
 ·rintro acc d m' ⟨rfl,rfl,_⟩;have nd6:=Ox f (by omega) (s+1) (by omega) (by omega)
  obtain⟨N,hN⟩:∃ N:Nat,N=(3+(n:Int)).toNat:=⟨_,rfl⟩;rw[<- hN];have hN2:N=3+n:=by omega
  have ndN:((List.range N).map (nm f (s+1))).Nodup:=by
   refine List.Nodup.sublist (List.Sublist.map _ ?_) nd6;rw[show 6=N+(6-N) by omega,List.range_add]
   exact List.sublist_append_left _ _
  refine⟨(List.range N).map (nm f (s+1)),by simp,by simp;omega,fun ys hp hs=>?_⟩
  have ly:ys.length=N:=by simpa using hp.length_eq
  have gy:∀ y∈ys,iY y:=fun y hy=>by
   obtain⟨i,_,rfl⟩:=List.mem_map.mp (hp.mem_iff.mp hy);exact ED _ (Nat.mod_lt _ (by decide))
  have ndY:ys.Nodup:=hp.nodup_iff.mpr ndN
  have fin:∀ (ks:List Bool) m' (o8:Option D),ks.length=ys.length->Fed 20 L m m' a->Dd (EN R) [some (.cel a),some (I 3),some (I 4),some (.dat (.list (kJ.map .str))),some (I (3+n)),some (I f),some (I (1+s)),some (.dat (.list (ys.map .str))),o8,some (.dat (.list (ks.map fun k=>.str (kd k))))] m':=fun ks m' o8 hk hf'=>by
   have e1:((ys.zip ks).map (·.1))=ys:=by
    rw[List.map_fst_zip];omega
   simp[Dd];refine⟨hk,by omega,by omega,?_⟩
   have:=h (ys.zip ks) m' (by simp;omega) (by simp;omega) (by rw[e1];exact⟨ndY,by omega,gy⟩) hf'
   have e2:((ys.map PyData.str).zip (ks.map fun k=>PyData.str (kd k))).map (fun z=>PyData.tuple [z.1,z.2])=(ys.zip ks).map fun t=>.tuple [.str t.1,.str (kd t.2)]:=by
    rw[List.zip_map,List.map_map];rfl
   rw[e2];exact this
  refine⟨_,rfl,rfl,?_⟩;refine dD (by decide) (by decide) hL (by decide) hf3 fun way m5 w0 w1 hf5=>?_
  simp[Iv,bT];have e0:(ys.map (D.dat∘PyData.str))=(ys.map PyData.str).map .dat:=by rw[List.map_map]
  rw[e0];refine DN (by simp;omega) hL (by decide) hf5 fun ks m6 hk hf6=>?_
  have hk:ks.length=ys.length:=by simpa using hk
  have hf6:=hf6.mono (c:=20) (by decide)
  simp[Oc,bT]
  by_cases c:way<2
  ·right
   refine⟨c,?_⟩;rw[e0];refine BS (by simp;omega) w0 c fun ks hk=>?_
   exact fin ks m6 _ (by simpa using hk) hf6
  ·left
   exact⟨by omega,fin ks m6 _ hk hf6⟩
 ·rintro i acc d m' k hi ⟨rfl,rfl,o,rfl⟩ hk;simp;have q0:=Int.fmod_nonneg_of_pos ((f:Int)+(1+s)*i) (show(0:Int)<11 by decide)
  have q1:=Int.fmod_lt_of_pos ((f:Int)+(1+s)*i) (show(0:Int)<11 by decide)
  have e:(((f:Int)+(1+s)*i).fmod 11).toNat=(f+(s+1)*i)%11:=by
   rw[Int.fmod_eq_emod_of_nonneg _ (by decide)]
   have:(f:Int)+(1+s)*i=((f+(s+1)*i:Nat):Int):=by
    push_cast
    rw[Int.add_comm (1:Int)]
   rw[this];omega
  refine⟨eR (eZ (by omega) (by omega)),_,y7 q0 q1,Nat.lt_of_lt_of_le (show i<10 by omega) (sz (by decide)),hk _ _ _ ⟨rfl,?_,_,rfl⟩⟩
  rw[e,List.range_succ];simp[nm]
theorem zR{ws:List Str}{r:Int}(h0:0<=r)(h1:r<(ws.length:Int)):∃ z∈ws,cA (ws.map PyData.str) r=some (.str z):=by
 obtain⟨k,rfl⟩:∃ k:Nat,r=k:=⟨r.toNat,by omega⟩
 have hk:k<ws.length:=by omega
 exact⟨ws[k],List.getElem_mem hk,kB (by rw[List.getElem?_map,List.getElem?_eq_getElem hk];rfl)⟩
def Sw(w e:Nat)(p:PyData):Prop:=p.showable=true/\p.leavesShort 8=true/\p.weight<=w/\p.depth<=e
theorem Sw.mono{w e w' e':Nat}{p:PyData}(h:Sw w e p)(h1:w<=w')(h2:e<=e'):Sw w' e' p:=⟨h.1,h.2.1,Nat.le_trans h.2.2.1 h1,Nat.le_trans h.2.2.2 h2⟩
theorem Ec{w e:Nat}:∀ {xs:List PyData},(∀ x∈xs,Sw w e x)->PyData.showableAll xs=true/\PyData.leavesShortAll 8 xs=true/\PyData.weightAll xs<=(w+1)*xs.length/\PyData.depthAll xs<=e
 | [],_=>by simp[PyData.showableAll,PyData.leavesShortAll,PyData.weightAll,PyData.depthAll]
 | x::xs,h=>by
  obtain⟨i1,i2,i3,i4⟩:=Ec fun y hy=>h y (List.mem_cons_of_mem _ hy);obtain⟨s1,s2,s3,s4⟩:=h x List.mem_cons_self;refine⟨?_,?_,?_,?_⟩
  ·simp only[PyData.showableAll,i1,s1,Bool.and_self]
  ·simp only[PyData.leavesShortAll,i2,s2,Bool.and_self]
  ·simp only[PyData.weightAll,List.length_cons];rw[Nat.mul_add];omega
  ·simp only[PyData.depthAll];omega
theorem Lr{w e n:Nat}{xs:List PyData}(h:∀ x∈xs,Sw w e x)(hn:xs.length<=n):Sw ((w+1)*n) (e+1) (.tuple xs):=by
 obtain⟨i1,i2,i3,i4⟩:=Ec h;refine⟨by simpa only[PyData.showable] using i1,by rw[PyData.leavesShort];exact i2,?_,?_⟩
 ·simp only[PyData.weight];exact Nat.le_trans i3 (Nat.mul_le_mul_left _ hn)
 ·simp only[PyData.depth];omega
theorem lJ{z:Str}(h:iY z):Sw 20 1 (.str z):=⟨by simp[PyData.showable],GN h,by simp only[PyData.weight];exact h.2,by simp[PyData.depth]⟩
theorem Iz{w e:Nat}{p:PyData}(h:Sw w e p)(hw:w<=1000000)(he:e<=100):p.showable=true/\p.shown.length<=sizeLine/\p.depth<=100 :=
 ⟨h.1,PyData.shown_fits (B:=8) (by decide) (by decide) h.2.1 (Nat.le_trans h.2.2.1 (Nat.le_trans hw (by decide))),Nat.le_trans h.2.2.2 he⟩
theorem Pm{zs:List Str}(h:∀ z∈zs,z∈cE)(hn:zs.length<=13):Sw 300 2 (.tuple (zs.map .str)):=by
 refine(Lr (w:=20) (e:=1) (n:=13) (fun x hx=>?_) (by simpa using hn)).mono (by decide) (by decide)
 obtain⟨z,hz,rfl⟩:=List.mem_map.mp hx;exact lJ (R9 z (h z hz))
theorem Kd{ts:List (Str×Bool)}{r:Int}(h0:0<=r)(h1:r<(ts.length:Int)):∃ t∈ts,cA (ts.map fun t=>PyData.tuple [.str t.1,.str (kd t.2)]) r=some (.tuple [.str t.1,.str (kd t.2)]):=by
 obtain⟨k,rfl⟩:∃ k:Nat,r=k:=⟨r.toNat,by omega⟩
 have hk:k<ts.length:=by omega
 exact⟨ts[k],List.getElem_mem hk,kB (by rw[List.getElem?_map,List.getElem?_eq_getElem hk];rfl)⟩
theorem S6:∀ ds m R,ds.length=lI.length->hU ds m R->Ac (EN R) (bY wM ds) m:=by
 rintro ds m R hl ⟨a,ts,L,rfl,h2,h6,hL,hT,h⟩;have hf:=Fed.refl hT
 simp[Ac];refine dD (by omega) (by omega) hL (by decide) hf fun r1 m1 r10 r11 hf1=>?_
 simp[Fi];refine dD (by omega) (by omega) hL (by decide) hf1 fun r2 m2 r20 r21 hf2=>?_
 have hp:(0:Int)<ts.length:=by omega
 have hz:ts≠[]:=by rintro rfl;simp at h2
 obtain⟨t,ht,et⟩:=Kd r10 r11;obtain⟨u,hu,eu⟩:=Kd (ts:=ts) (r:=(r1+1+r2).fmod ts.length) (Int.fmod_nonneg_of_pos _ hp) (Int.fmod_lt_of_pos _ hp);simp[hz,Ow];refine⟨_,et,?_⟩;simp;refine⟨_,eu,?_⟩;simp[sz];exact h t.1 u.1 t.2 u.2 m2 ht hu (hf2.mono (by decide))
theorem Ms{ts:List (Str×Bool)}{c:Addr}{m:Mu}{Q:List PyData->Mu->Prop}(nd:(ts.map (·.1)).Nodup)(hm:m c=some (.d (eC [] (kQ ts)))):∀ (zs:List (Str×Bool)) (acc:List PyData) (o:Option D),(∀ t∈zs,t∈ts)->zs.length+acc.length<=10->Q (acc++zs.map fun t=>.str (kd t.2)) m ->
  bD (gN 0) cC (tE (aC 1) (aC 0)) ((zs.map fun t=>PyData.str t.1).map .dat) acc [o,some (.cel c)] m Q
 | [],acc,o,_,_,h=>by simpa[bD] using h
 | z::zs,acc,o,hz,hn,h=>by
  have g:=Yw nd (hz z List.mem_cons_self)
  have ih:=Ms (Q:=Q) nd hm zs (acc++[.str (kd z.2)]) (some (.dat (.str z.1))) (fun t ht=>hz t (List.mem_cons_of_mem _ ht)) (by simp at hn ⊢;omega) (by simpa using h)
  simp only[List.map_cons,bD];simp;exact⟨_,hm,_,g,Nat.lt_of_lt_of_le (show acc.length<11 by simp at hn;omega) (sz (by decide)),by simpa using ih⟩
theorem FT:∀ ds m R,ds.length=jS.length->gC ds m R->Dg (EN R) (bY zQ ds) m:=by
 rintro ds m R hl ⟨ts,zs,rfl,hn,nd,hz,hm,h⟩;simp[Dg];refine⟨kQ ts,by simpa using FV ts,sz (by simp[kQ];omega),fun c hc=>?_⟩
 simp[Od,bT];have:=Ms (c:=c) (m:=aY m c (.d (eC [] (kQ ts)))) (Q:=fun ps m'=>R (.dat (.tuple ps)) m') nd bF zs [] none hm (by simp;omega) (h _ (Kn.refl.new hc))
 simpa using this
end K29
namespace K29
open PySem PySem.Spec PyProof.Rows L2 DL K01
theorem nW:0<=sizeLine:=sz (by decide)
theorem oP:1<=sizeLine:=sz (by decide)
theorem nQ:2<=sizeLine:=sz (by decide)
theorem oO:3<=sizeLine:=sz (by decide)
theorem nM:4<=sizeLine:=sz (by decide)
theorem oW:5<=sizeLine:=sz (by decide)
theorem oG:6<=sizeLine:=sz (by decide)
theorem Kb:∀ xs ys:List Int,PyData.eqvAll (xs.map .int) (ys.map .int)=decide (xs=ys)
 | [],[]=>by simp[PyData.eqvAll]
 | [],y::ys=>by simp[PyData.eqvAll]
 | x::xs,[]=>by simp[PyData.eqvAll]
 | x::xs,y::ys=>by
  have ih:=Kb xs ys
  simp only[List.map_cons,PyData.eqvAll,ih,PyData.eqv,List.cons.injEq]
  by_cases c:x=y<;>simp[c]
theorem Kn.get{m m':Mu}{c:Addr}{x:Cel}(h:Kn m m')(hc:m c=some x):m' c=some x:=by rw[h c (by rw[hc];rfl)];exact hc
theorem Bd.part{n:Nat}{g a t:Int}(h:t=g*a)(hg:0<g)(b:Bd n t):Bd n a:=by
 unfold Bd at *;have:a.natAbs<=t.natAbs:=by
  rw[h,Int.natAbs_mul];exact Nat.le_mul_of_pos_left _ (by omega)
 omega
theorem y3{t b:Int}(hb:0<b):∃ n d g:Int,fr t b=.tuple [.int n,.int d]/\0<g/\t=g*n/\b=g*d/\0<d:=by
 have g0:=Jx (t:=t) (b:=b) (by omega)
 have d1:((t.gcd b:Nat):Int)∣t:=Int.gcd_dvd_left ..
 have d2:((t.gcd b:Nat):Int)∣b:=Int.gcd_dvd_right ..
 exact⟨_,_,((t.gcd b:Nat):Int),rfl,g0,(Int.mul_ediv_cancel' d1).symm,(Int.mul_ediv_cancel' d2).symm,(M8 g0 d2).mpr hb⟩
theorem wO:∀ xs ys:List (Str×Bool),dZ (xs++ys)=dZ xs++dZ ys
 | [],_=>rfl
 | x::xs,ys=>by
  simp only[List.cons_append,dZ,wO xs ys,List.append_assoc]
theorem xT:∀ xs:List (Str×Bool),(dZ xs).length<=2*xs.length
 | []=>Nat.le_refl _
 | x::xs=>by
  have:=xT xs
  simp only[dZ,List.length_cons,List.length_append]
  split<;>simp<;>omega
theorem Yh:∀ ds m R,ds.length=rO.length->sW ds m R->yA (EN R) (bY wI ds) m:=by
 rintro ds m R hl ⟨ts,rfl,n6,h⟩;simp[yA,sz];intro c hc;simp[Hb];have key:∀ (todo done:List (Str×Bool)) (o2 o3:Option D) (m':Mu),ts=done++todo->Kn m m'->m' c=some (.l ((dZ done).map dQ)) ->
   cH (gT 2 (cD (gN 2) (cD (gN 3) eT))) uH {nx:=Ch (EN R),rt:=R} ((todo.map fun t=>PyData.tuple [.str t.1,.str (kd t.2)]).map .dat) [some (.dat (TH ts)),some (.cel c),o2,o3] m':=by
  intro todo
  induction todo with
  | nil =>
   intro done o2 o3 m' e kn hm;rw[List.append_nil]at e;subst e;simp[cH,Ch];exact h c m' hc kn hm
  | cons t todo ih =>
   intro done o2 o3 m' e kn hm;have ih:=fun o2 o3 m''=>ih (done++[t]) o2 o3 m'' (by rw[e];simp)
   have dl:done.length<6:=by
    have:=congrArg List.length e
    simp at this;omega
   simp only[List.map_cons,cH]
   generalize hG:cH _ uH _ ((todo.map _).map .dat)=G at ih ⊢
   simp[uH,hm,bT];refine⟨t.2,rfl,?_⟩;have fin:∀ (fs:List (Str×Bool)),fs.length<=2->dZ (done++[t])=dZ done++fs->∀ (b:Addr),m' b=none->∃ xs ys,aY m' b (.l (fs.map dQ)) c=some (.l xs)/\aY m' b (.l (fs.map dQ)) b=some (.l ys)/\xs.length+ys.length<=sizeLine/\G [some (.dat (TH ts)),some (.cel c),some (.dat (.str t.1)),some (.dat (.str (kd t.2)))] (aY (aY m' b (.l (fs.map dQ))) c (.l (xs++ys))):=fun fs f2 ef b hb=>by
    have cb:c≠b:=by rintro rfl;rw[hm]at hb;cases hb
    have le:=xT done
    refine⟨(dZ done).map dQ,fs.map dQ,by rw[bM cb];exact hm,bF,sz (by simp;omega),?_⟩
    rw[<- List.map_append,<- ef];exact ih _ _ _ ((kn.new (kn.none hb)).new hc) bF
   cases hk:t.2 with
   | true =>
    rw[hk]at fin;simp[bD,sz];refine⟨by rw[sizeLine_eq];decide,by rw[sizeLine_eq];decide,fun b hb=>?_⟩
    simpa[dQ] using fin [(t.1,false),(t.1,true)] (by simp) (by rw[wO];simp[dZ,hk]) b hb
   | false =>
    rw[hk]at fin;simp[bD,sz];refine⟨by rw[sizeLine_eq];decide,fun b hb=>?_⟩
    simpa[dQ] using fin [(t.1,false)] (by simp) (by rw[wO];simp[dZ,hk]) b hb
 have:=key ts [] none none (aY m c (.l [])) rfl (Kn.refl.new hc) bF
 rw[List.map_map]at this;exact this
theorem R5(ws:List Str):PyData.eqv (.tuple (ws.map .str)) (.tuple [])=decide (ws=[]):=by
 cases ws<;>simp[PyData.eqv,PyData.eqvAll]
theorem F6:∀ ds m R,ds.length=oT.length->lM ds m R->Ak (EN R) (bY vX ds) m:=by
 rintro ds m R hl ⟨t,b,rfl,h0,hb,h⟩;have g0:=Jx (t:=t) (b:=b) (by omega)
 have gb:Bd 2000 ((t.gcd b:Nat):Int):=by
  have:=Int.gcd_le_natAbs_right t (b:=b) (by omega)
  unfold Bd at *;omega
 have gl:=gb.log (by decide)
 simp[Hg,Hh,En,Ht,Ak];refine⟨fun n d m'=>m'=m/\∃ x y:Int,d=[some (I t),some (I b),some (I x),some (I y)]/\n=y.natAbs/\0<=y/\0<=x/\Int.gcd x y=Int.gcd t b,⟨_,rfl,(if t<0 then -t else t),b,rfl,rfl,by omega,by split<;>omega,?_⟩,?_⟩
 ·split
  ·rw[Int.neg_gcd]
  ·rfl
 rintro n d m' ⟨rfl,x,y,rfl,rfl,hy0,hx0,hg⟩
 by_cases hy:y=0
 ·subst hy;rw[Int.gcd_zero_right]at hg;have ex:x=((t.gcd b:Nat):Int):=by rw[<- hg];omega
  subst ex;simp;refine⟨fun _=>by omega,Nat.lt_of_lt_of_le (by simpa using gl) (show 2000<=9000 by decide),fun _=>by omega,Nat.lt_of_lt_of_le (by simpa using gl) (show 2000<=9000 by decide),sz (by decide),?_⟩
  rw[Int.fdiv_eq_ediv_of_nonneg _ (by omega),Int.fdiv_eq_ediv_of_nonneg _ (by omega)]
  exact h
 ·have hp:0<y:=by omega
  simp[hy,hp];refine⟨fun d' m''=>m''=m'/\d'=[some (I t),some (I b),some (I y),some (I (x.fmod y))],?_,by simp⟩
  rintro d' m'' ⟨rfl,rfl⟩;exact⟨_,P8 x y hy,rfl,y,x.fmod y,rfl,rfl,Int.fmod_nonneg_of_pos _ hp,hy0,by rw[O3];exact hg⟩
theorem Vl:∀ ds m R,ds.length=qC.length->oC ds m R->Dn (EN R) (bY xC ds) m:=by
 rintro ds m R hl ⟨x,y,s,p,q,rfl,x0,y0,hs,hpq,b1,b2,b3,b4,h⟩;have bb:Bd 2000 (x.2*y.2):=(b2.mul b4).mono (by omega)
 have ms:IntMulOk s y.1:=by rcases hs with rfl | rfl<;>exact eR iI
 have b3':Bd q (s*y.1):=by
  rcases hs with rfl | rfl
  ·simpa using b3
  ·unfold Bd at b3 ⊢;rw[Int.natAbs_mul];simpa using b3
 simp[Dn];refine⟨b1.mulOk b4 (by omega),ms,b3'.mulOk b2 (by omega),?_⟩
 simp[Jc];exact⟨b2.mulOk b4 (by omega),_,_,rfl,Int.mul_pos x0 y0,bb,h⟩
theorem B3:∀ t∈([-2,-1,0,1,2,3,4]:List Int),∀ b∈([1,2,3]:List Int),0<b / (Int.gcd t b:Int)/\Int.gcd (t / (Int.gcd t b:Int)) (b / (Int.gcd t b:Int))=1/\(t / (Int.gcd t b:Int)).natAbs<2^20/\(b / (Int.gcd t b:Int)).natAbs<2^20:=by decide +kernel
theorem Ps:∀ ds m R,ds.length=pZ.length->nG ds m R->Ft (EN R) (bY Aa ds) m:=by
 rintro ds m R hl ⟨a,L,rfl,hL,hT,h⟩;have hf:=Fed.refl hT
 repeat first | refine⟨rfl,?_⟩ | refine⟨_,rfl,?_⟩ | refine⟨nW,?_⟩ | refine⟨oP,?_⟩ | refine⟨nQ,?_⟩ | refine⟨oO,?_⟩ | refine⟨nM,?_⟩ | refine⟨oW,?_⟩ | refine⟨oG,?_⟩
 refine dD (by decide) (by decide) hL (by decide) hf fun r1 m1 r10 r11 hf1=>?_
 repeat first | refine⟨rfl,?_⟩ | refine⟨_,rfl,?_⟩ | refine⟨nW,?_⟩ | refine⟨oP,?_⟩ | refine⟨nQ,?_⟩ | refine⟨oO,?_⟩ | refine⟨nM,?_⟩ | refine⟨oW,?_⟩ | refine⟨oG,?_⟩
 refine dD (by decide) (by decide) hL (by decide) hf1 fun r2 m2 r20 r21 hf2=>?_
 obtain⟨p,e,b,rfl,hb⟩:=oF (xs:=[.int 1,.int 1,.int 2,.int 3]) (P:=fun p=>∃ i:Int,p=.int i/\i∈([1,2,3]:List Int)) (r:=r2) (by simp) r20 r21
 refine⟨_,e,?_⟩;have ht:r1-2∈([-2,-1,0,1,2,3,4]:List Int):=by
  obtain rfl | rfl | rfl | rfl | rfl | rfl | rfl:r1=0\/r1=1\/r1=2\/r1=3\/r1=4\/r1=5\/r1=6:=by omega
  all_goals decide
 obtain⟨f1,f2,f3,f4⟩:=B3 _ ht b hb;have b0:0<b/\b<=3:=by simp at hb;omega
 repeat first | refine⟨rfl,?_⟩ | refine⟨_,rfl,?_⟩ | refine⟨nW,?_⟩ | refine⟨oP,?_⟩ | refine⟨nQ,?_⟩ | refine⟨oO,?_⟩ | refine⟨nM,?_⟩ | refine⟨oW,?_⟩ | refine⟨oG,?_⟩
 refine⟨r1-2,b,rfl,b0.1,(eZ (by omega) (by omega)).mono (by decide),?_⟩
 exact h (_,_) m2 f1 f2 f3 f4 (hf2.mono (by decide))
def yD:List (aN×PyData):=(WT.take 7).map fun x=>(.inr x.1,.tuple (x.2.map .int))
theorem Ll:∀ z∈jG,cG yD (.inr z)=some (.tuple ((w4 z).map .int)):=by
 intro z hz;simp only[jG,List.mem_cons,List.not_mem_nil,or_false]at hz;rcases hz with rfl | rfl | rfl | rfl | rfl | rfl | rfl<;>rfl
theorem Pe:∀ z∈cE,z∉jG->cG yD (.inr z)=none:=by
 intro z hz;simp only[cE,List.mem_cons,List.not_mem_nil,or_false]at hz;rcases hz with rfl | rfl | rfl | rfl | rfl | rfl | rfl | rfl | rfl | rfl | rfl | rfl | rfl<;>first | (intro _;rfl) | (intro h;exact absurd (by decide +kernel) h)
theorem FH:∀ z∈cE,z∉jG->tn z∈jG:=by decide +kernel
theorem Fy(k l:Bool):∀ z∈WS k l,tn z∈WS l k:=by cases k<;>cases l<;>decide +kernel
theorem W3(k l:Bool):∀ z∈WS k l,z∉jG->∀ x<(cZ k).toNat,∀ y<(cZ l).toNat,0-sg l k (tn z) y x=sg k l z x y:=by cases k<;>cases l<;>decide +kernel
theorem Tb(k l:Bool):∀ z∈WS k l,z∈jG->∀ x<(cZ k).toNat,∀ y<(cZ l).toNat,(w4 z)[if k&&l then 2*x+y else 3*(x+y)]?=some (sg k l z x y):=by cases k<;>cases l<;>decide +kernel
theorem Us{k l:Bool}{z:Str}(hz:z∈WS k l)(hs:z∈jG){x y:Nat}(hx:x<(cZ k).toNat)(hy:y<(cZ l).toNat):cA ((w4 z).map PyData.int) (if k&&l then 2*(x:Int)+y else 3*((x:Int)+y))=some (PyData.int (sg k l z x y)):=by
 have h:=Tb k l z hz hs x hx y hy
 have e:(if k&&l then 2*(x:Int)+y else 3*((x:Int)+y))=((if k&&l then 2*x+y else 3*(x+y):Nat):Int):=by
  cases (k&&l)<;>simp
 rw[e];exact kB (by rw[List.getElem?_map,h];rfl)
theorem BA(k l:Bool):PyData.eqv (fO k l) (.tuple [.str "stretch",.str "stretch"])=(k&&l):=by
 cases k<;>cases l<;>decide +kernel
theorem Kw(k l:Bool):(fO k l).canLay0=true:=by
 cases k<;>cases l<;>decide +kernel
theorem Qf(k l:Bool):(fO k l).depth<=100:=by cases k<;>cases l<;>decide +kernel
theorem sZ(a b:List (aN×PyData)):(eC a b).length<=a.length+b.length:=by
 unfold eC
 induction b generalizing a with
 | nil=>simp
 | cons x b ih =>
  have:=ih (fA a x.1 x.2)
  have q:=Gp a x.1 x.2
  simp only[List.foldl_cons,List.length_cons];omega
theorem Bx(j:Nat):∀ ds m R,ds.length=jJ.length->eQ (j+1) ds m R->Ab j (EN R) (bY Aj ds) m:=by
 rintro ds m R hl ⟨k,l,z,x,y,rfl,hz,hs,x0,x1,y0,y1,h⟩;obtain⟨x,rfl⟩:∃ n:Nat,x=n:=⟨x.toNat,by omega⟩
 obtain⟨y,rfl⟩:∃ n:Nat,y=n:=⟨y.toNat,by omega⟩
 have hx:x<(cZ k).toNat:=by omega
 have hy:y<(cZ l).toNat:=by omega
 simp[Ab];intro p hp;simp[Ki,sz,bF];intro q hq;have pq:p≠q:=by rintro rfl;rw[bF]at hq;cases hq
 have hq':m q=none:=by
  rw[bM (Ne.symm pq),bM (Ne.symm pq)]at hq;exact hq
 refine⟨pq,?_⟩;rw[bM pq,bM pq,bF];refine⟨_,rfl,sz (Nat.le_trans (Nat.add_le_add (sZ _ _) (sZ _ _)) (by simp)),?_⟩
 generalize hM:aY (aY (aY (aY (aY m p (Cel.d [])) p _) q _) q _) p (Cel.d (eC _ _))=M
 have kM:Kn m M:=by
  rw[<- hM];exact((((Kn.refl.new hp).new hp).new hq').new hq').new hp
 have mp:M p=some (.d yD):=by
  rw[<- hM,bF];rfl
 simp[Kq,mp]
 by_cases c:z∈jG
 ·left
  refine⟨by rw[Ll z c];rfl,?_⟩
  simp[Ob,mp,Ll z c,BA,Kw];refine⟨sz (by decide),Kw true true,Qf k l,?_⟩
  have at':=Us hz c hx hy
  cases ck:(k&&l) with
  | true =>
   rw[ck]at at'
   right
   exact⟨by simpa using ck,eR iI,_,by simpa using at',h M kM⟩
  | false =>
   rw[ck]at at'
   left
   refine⟨by cases k<;>cases l<;>simp_all,eR iI,_,by simpa using at',h M kM⟩
 ·right
  refine⟨Pe z (hZ k l z hz) c,?_⟩;have zo:=hZ k l z hz
  refine⟨sz (by decide),z,rfl,zo,?_⟩
  obtain⟨i,rfl⟩:∃ i,j=i+1:=⟨j-1,by rcases hs with q | q;exact absurd q c;omega⟩
  refine⟨l,k,tn z,y,x,rfl,Fy k l z hz,.inl (FH z zo c),y0,y1,x0,x1,fun m' kn=>?_⟩;have:=W3 k l z hz c x hx y hy
  have q:=h m' (kM.trans kn)
  rw[<- this]at q;simpa using q
theorem Zq(k l:Bool):∀ z∈WS k l,WB k l z=((if k then [0,1] else [0]:List Int).map fun x=>(if l then [0,1] else [0]:List Int).map fun y=>sg k l z x y).flatten:=by cases k<;>cases l<;>decide +kernel
theorem lK{k l:Bool}{z:Str}{x y:Int}{m:Mu}{R:DK}(hz:z∈WS k l)(x0:0<=x)(x1:x<cZ k)(y0:0<=y)(y1:y<cZ l)(h:∀ m',Kn m m'->R (I (sg k l z x y)) m'):eQ 3 [.dat (fO k l),.dat (.str z),I x,I y] m R :=
 ⟨k,l,z,x,y,rfl,hz,.inr (by decide),x0,x1,y0,y1,h⟩
theorem Wi{k l:Bool}{z:Str}{x:Int}{m:Mu}{o:Option D}{Q:List PyData->Mu->Prop}(hz:z∈WS k l)(x0:0<=x)(x1:x<cZ k)(h:∀ m',Kn m m'->Q (((if l then [0,1] else [0]:List Int).map fun y=>sg k l z x y).map .int) m') :
  bD (gN 0) cC (aP 4 (eQ 3) (aA (aC 1) (aA (aC 2) (aA (aC 3) (aA (aC 0) aF))))) (((if l then [0,1] else [0]:List Int).map .int).map .dat) [] [o,some (.dat (fO k l)),some (.dat (.str z)),some (I x)] m Q:=by
 have s0:0<sizeLine:=by rw[sizeLine_eq];decide
 have s1:1<sizeLine:=by rw[sizeLine_eq];decide
 cases l with
 | true =>
  simp[bD];refine lK hz x0 x1 (by decide) (by decide) fun m1 k1=>?_
  simp[s0];refine lK hz x0 x1 (by decide) (by decide) fun m2 k2=>?_
  simp[s1];simpa using h m2 (k1.trans k2)
 | false =>
  simp[bD];refine lK hz x0 x1 (by decide) (by decide) fun m1 k1=>?_
  simp[s0];simpa using h m1 k1
theorem Zr:∀ ds m R,ds.length=oX.length->nD ds m R->Lk (EN R) (bY wK ds) m:=by
 rintro ds m R hl ⟨k,l,z,rfl,hz,h⟩
 repeat first | refine⟨rfl,?_⟩ | refine⟨_,rfl,?_⟩ | refine⟨nW,?_⟩ | refine⟨oP,?_⟩ | refine⟨nQ,?_⟩ | refine⟨oO,?_⟩ | refine⟨nM,?_⟩ | refine⟨oW,?_⟩ | refine⟨oG,?_⟩
 intro c hc;simp only[Nx,aJ,fS,cF,aP,aA,aF,aC,aI,aW,aE];refine⟨_,rfl,_,cW _ _,rfl,k,rfl,.inl ⟨_,rfl,?_⟩⟩;have turn:∀ (x:Int) (is:List Int) (E:Ends2) (m':Mu),0<=x->x<cZ k->is.length<=2->m' c=some (.l (is.map .int))->(∀ m'',Kn m' (fun a=>if a=c then m' a else m'' a)->m'' c=some (.l ((is++((if l then [0,1] else [0]:List Int).map fun y=>sg k l z x y)).map .int))->E.nx [some (.dat (fO k l)),some (.dat (.str z)),some (.cel c),some (I x)] m'') ->
   xJ E [some (.dat (fO k l)),some (.dat (.str z)),some (.cel c),some (I x)] m':=fun x is E m' x0 x1 i2 hm' go=>by
  simp only[xJ,aJ,gS,sV,jW,cF,aP,aA,aF,aC,aI,aW,aE,bT];refine⟨_,rfl,c,rfl,⟨_,hm'⟩,_,rfl,_,lG _ _ _,rfl,l,rfl,.inl ⟨_,rfl,?_⟩⟩;refine Wi hz x0 x1 fun m1 k1=>?_;intro b hb;have hm1:=k1.get hm'
  have cb:c≠b:=by rintro rfl;rw[hm1]at hb;cases hb
  refine⟨_,_,b,rfl,by rw[bM cb];exact hm1,bF,sz ?_,?_⟩
  ·cases l<;>simp<;>omega
  ·refine go _ (fun a ha=>?_) (by rw[bF];simp)
   by_cases q:a=c
   ·simp[q]
   ·simp only[q,if_false];rw[bM q,bM (by rintro rfl;rw[k1.none hb]at ha;cases ha),k1 a ha]
 have KN:∀ {m1 m2:Mu},Kn m m1->Kn m1 (fun a=>if a=c then m1 a else m2 a)->Kn m m2:=fun h1 h2 a ha=>by
  have ac:a≠c:=by rintro rfl;rw[hc]at ha;cases ha
  have q:=h2 a (by rw[h1 a ha];exact ha)
  simp only[ac,if_false]at q;rw[q,h1 a ha]
 have wb:=Zq k l z hz
 cases k with
 | true =>
  simp[cH];refine turn 0 [] _ _ (by decide) (by decide) (by decide) bF fun m1 k1 h1=>?_
  simp;refine turn 1 _ _ _ (by decide) (by decide) (by cases l<;>simp) h1 fun m2 k2 h2=>?_
  repeat first | refine⟨rfl,?_⟩ | refine⟨_,rfl,?_⟩ | refine⟨nW,?_⟩ | refine⟨oP,?_⟩ | refine⟨nQ,?_⟩ | refine⟨oO,?_⟩ | refine⟨nM,?_⟩ | refine⟨oW,?_⟩ | refine⟨oG,?_⟩
  refine⟨_,h2,?_⟩;have q:=h m2 (KN (KN (Kn.refl.new hc) k1) k2)
  rw[wb]at q;simpa using q
 | false =>
  simp[cH];refine turn 0 [] _ _ (by decide) (by decide) (by decide) bF fun m1 k1 h1=>?_
  repeat first | refine⟨rfl,?_⟩ | refine⟨_,rfl,?_⟩ | refine⟨nW,?_⟩ | refine⟨oP,?_⟩ | refine⟨nQ,?_⟩ | refine⟨oO,?_⟩ | refine⟨nM,?_⟩ | refine⟨oW,?_⟩ | refine⟨oG,?_⟩
  refine⟨_,h1,?_⟩;have q:=h m1 (KN (Kn.refl.new hc) k1)
  rw[wb]at q;simpa using q
theorem Vu{a:Addr}{b L:Int}{m0 m:Mu}{R:DK}(hL:L<=8000000)(hb:b<=100000)(hf:Fed b L m0 m a)(h:∀ (x:Int×Int) m',0<x.2->Int.gcd x.1 x.2=1->Bd 20 x.1->Bd 20 x.2->Fed (b+2) L m0 m' a->(∀ c v,c≠a->m c=some v->m' c=some v)->R (.dat (fq x)) m'):nG [.cel a] m R:=by
 refine⟨a,L+b,rfl,by omega,hf.1,fun x m' q0 q1 q2 q3 q4=>h x m' q0 q1 q2 q3 (hf.trans q4) fun c v hc hv=>?_⟩
 rw[q4.2 c hc (by rw[hv];rfl)]
 exact hv
end K29
namespace K29
open PySem PySem.Spec PyProof.Rows L2 DL K01
theorem z0:0<=sizeLine:=sz (by decide)
theorem z2:2<=sizeLine:=sz (by decide)
theorem z3:3<=sizeLine:=sz (by decide)
theorem z4:4<=sizeLine:=sz (by decide)
theorem xX{xs:List PyData}(i j:Nat)(hi:i<=xs.length)(hj:j<=xs.length):cV xs (some (i:Int)) (some (j:Int))=(xs.drop i).take (j-i):=by
 unfold cV;rw[HT.sIx_nat,HT.sIx_nat,Nat.min_eq_left hi,Nat.min_eq_left hj]
theorem zX{xs:List PyData}(i:Nat)(hi:i<=xs.length):cV xs (some (i:Int)) none=xs.drop i:=by
 unfold cV;rw[HT.sIx_nat,HT.sIx_none,Nat.min_eq_left hi,List.take_of_length_le (by simp)]
theorem Gc{xs:List PyData}(j:Nat)(hj:j<=xs.length):cV xs none (some (j:Int))=xs.take j:=by
 unfold cV;rw[HT.sIx_nat,HT.sIx_none,Nat.min_eq_left hj];simp
@[simp] theorem sS(a:PyData)(r:List PyData):cV (a::r) none (some 1)=[a]:=Gc 1 (by simp)
@[simp] theorem GV(a b:PyData)(r:List PyData):cV (a::b::r) none (some 2)=[a,b]:=Gc 2 (by simp)
@[simp] theorem Kc(a:PyData)(r:List PyData):cV (a::r) (some 1) none=r:=zX 1 (by simp)
@[simp] theorem Ao(a b:PyData)(r:List PyData):cV (a::b::r) (some 2) none=r:=zX 2 (by simp)
@[simp] theorem Yl(a b c:PyData)(r:List PyData):cV (a::b::c::r) (some 3) none=r:=zX 3 (by simp)
@[simp] theorem GQ(a:PyData)(r:List PyData):cV (a::r) (some 1) (some 1)=[]:=by rw[show(some (1:Int))=some ((1:Nat):Int) from rfl,xX 1 1 (by simp) (by simp)];simp
@[simp] theorem GR(a b:PyData)(r:List PyData):cV (a::b::r) (some 1) (some 2)=[b]:=by rw[show(some (1:Int))=some ((1:Nat):Int) from rfl,show(some (2:Int))=some ((2:Nat):Int) from rfl,xX 1 2 (by simp) (by simp)];simp
@[simp] theorem GT(a b c:PyData)(r:List PyData):cV (a::b::c::r) (some 1) (some 3)=[b,c]:=by rw[show(some (1:Int))=some ((1:Nat):Int) from rfl,show(some (3:Int))=some ((3:Nat):Int) from rfl,xX 1 3 (by simp) (by simp)];simp
theorem Vn:∀ w∈(["turned","ends"]:List Str),cG kW w=some (.int 2):=by
 intro w hw;simp only[List.mem_cons,List.not_mem_nil,or_false]at hw;rcases hw with rfl | rfl<;>rfl
theorem Xw:∀ w∈(["behind","both","strike","add"]:List Str),cG kW w=some (.int 3):=by
 intro w hw;simp only[List.mem_cons,List.not_mem_nil,or_false]at hw;rcases hw with rfl | rfl | rfl | rfl<;>rfl
theorem Zs:∀ w∈(["any","long"]:List Str),cG kW w=none:=by
 intro w hw;simp only[List.mem_cons,List.not_mem_nil,or_false]at hw;rcases hw with rfl | rfl<;>rfl
theorem Xd:cG kW (Str.ofString "told")=none:=rfl
theorem Ub:cG kW (Str.ofString "cases")=some (.int 2):=rfl
theorem K1:∀ ds m R,ds.length=pR.length->sQ ds m R->lO (EN R) (bY Ad ds) m:=by
 rintro ds m R hl ⟨α,f,s,rfl,hw,h⟩
 cases s with
 | told i=>simpa[lO,Stp.D,Stp.rows,Xd] using h
 | one w i r=>simpa[lO,Stp.D,Stp.rows,Vn w hw.1] using h
 | two w i j=>simpa[lO,Stp.D,Stp.rows,Xw w hw] using h
 | nop w r=>simpa[lO,Stp.D,Stp.rows,Zs w hw.1] using h
 | cas i ps=>simpa[lO,Stp.D,Stp.rows,Ub] using h
theorem wr{xs ys zs us:List PyData}{k:Int}{m:Mu}{R:DK}(e1:cV xs none (some 1)=zs)(ek:1+(ys.length:Int)=k)(e2:cV xs (some k) none=us)(hn:(zs++ys).length+us.length<=100)
  (h:R (.dat (.tuple (zs++ys++us))) m):Ce (EN R) [some (.dat (.tuple xs)),some (.dat (.list ys))] m:=by
 subst e1;subst ek;subst e2;rw[List.length_append]at hn;exact⟨_,rfl,_,rfl,.inl ⟨_,rfl,_,rfl,sz (by omega),_,rfl,_,rfl,_,rfl,.inl ⟨_,rfl,sz (by rw[List.length_append];omega),h⟩⟩⟩
theorem Pu:∀ ds m R,ds.length=rQ.length->nP ds m R->Ce (EN R) (bY yY ds) m:=by
 rintro ds m R hl ⟨α,f,s,k,rfl,hw,h⟩
 cases s with
 | told i=>exact wr (sS _ _) rfl (Kc _ _) (Nat.le_of_ble_eq_true rfl) h
 | one w i r=>exact wr (sS _ _) rfl (Ao _ _ _) (by have:=hw.2;show 2+r.length<=100;omega) h
 | two w i j=>exact wr (sS _ _) rfl (Yl _ _ _ _) (Nat.le_of_ble_eq_true rfl) h
 | nop w r=>exact wr (sS _ _) rfl (Kc _ _) (by have:=hw.2;show 1+r.length<=100;omega) h
 | cas i ps=>exact wr (sS _ _) rfl (Ao _ _ _) (Nat.le_of_ble_eq_true rfl) (by simpa[Stp.shr,Stp.sh,Stp.D,Stp.rows] using h)
theorem My{k:Int}{m:Mu}{Q:List PyData->Mu->Prop}:∀ (is:List Int) (acc:List PyData) (o:Option D),is.length+acc.length<=10->Q (acc++(is.map (· + k)).map .int) m ->
  bD (gN 0) cC (aI bS (aC 0) (aC 1)) ((is.map PyData.int).map .dat) acc [o,some (I k)] m Q
 | [],acc,o,_,h=>by simpa[bD] using h
 | i::is,acc,o,hn,h=>by
  have ih:=My (k:=k) (Q:=Q) (m:=m) is (acc++[.int (i+k)]) (some (I i)) (by simp at hn ⊢;omega) (by simpa using h)
  simp only[List.map_cons,bD];simp;exact⟨Nat.lt_of_lt_of_le (show acc.length<11 by simp at hn;omega) (sz (by decide)),by simpa using ih⟩
theorem Stp.Ok.W{α:Type}{o:α->Prop}{c b:Int}{s:Stp α}(h:s.Ok o c b):s.W:=by
 cases s with
 | told i=>trivial
 | one w i r=>exact⟨h.1,h.2.2.2.1⟩
 | two w i j=>exact h.1
 | nop w r=>exact⟨h.1,h.2.1⟩
 | cas i ps=>trivial
theorem qX:∀ w∈(["told","turned","ends","behind","both","strike","add","any","long","cases"]:List Str),PyData.strOk w=true:=by decide +kernel
theorem tX:∀ w∈(["turned","ends"]:List Str),PyData.strOk w=true/\w≠Str.ofString "cases"/\w≠Str.ofString "told":=by decide +kernel
theorem uS:∀ w∈(["behind","both","strike","add"]:List Str),PyData.strOk w=true/\w≠Str.ofString "cases"/\w≠Str.ofString "told"/\w∉([Str.ofString "turned",Str.ofString "ends"]:List Str):=by decide +kernel
theorem vO:∀ w∈(["any","long"]:List Str),PyData.strOk w=true/\w≠Str.ofString "cases"/\w≠Str.ofString "told"/\w∉([Str.ofString "turned",Str.ofString "ends"]:List Str)/\w∉([Str.ofString "behind",Str.ofString "both",Str.ofString "strike",Str.ofString "add"]:List Str):=by decide +kernel
abbrev gO(n:Nat)(p:List Str×List (A n)):PyData:=.tuple [.tuple (p.1.map .str),cO n p.2]
theorem Iw{j n:Nat}{k c b:Int}{m:Mu}{Q:List PyData->Mu->Prop}(hn:n<j):∀ (ps:List (List Str×List (A n))) (acc:List PyData) (o o1:Option D),(∀ p∈ps,p.2.length<=8/\∀ s∈p.2,SO n c b s)->ps.length+acc.length<=10->Q (acc++ps.map fun p=>gO n (p.1,p.2.map (SH n id k))) m ->
  bD (gT 2 (cD (gN 0) (cD (gN 1) eT))) cC (aL (aA (aC 0) (aA (aP 2 (gD j) (aA (aC 1) (aA (aC 2) aF))) aF))) ((ps.map (gO n)).map .dat) acc [o,o1,some (I k)] m Q
 | [],acc,o,o1,_,_,h=>by simpa[bD] using h
 | p::ps,acc,o,o1,hp,hl,h=>by
  have ih:=Iw (k:=k) (Q:=Q) (m:=m) hn ps (acc++[gO n (p.1,p.2.map (SH n id k))]) (some (.dat (.tuple (p.1.map .str)))) (some (.dat (cO n p.2))) (fun q hq=>hp q (List.mem_cons_of_mem _ hq)) (by simp at hl ⊢;omega) (by simpa using h)
  obtain⟨q1,q2⟩:=hp p List.mem_cons_self;simp only[List.map_cons,bD];simp[sz];refine⟨n,p.2,k,c,b,rfl,hn,q1,q2,?_⟩;simp[sz];exact⟨Nat.lt_of_lt_of_le (show acc.length<11 by simp at hl;omega) (sz (by decide)),by simpa using ih⟩
theorem oY(j:Nat):∀ ds m R,ds.length=pV.length->nR j ds m R->zM j (EN R) (bY Da ds) m:=by
 rintro ds m R hl ⟨n,s,k,c,b,rfl,hn,ok,h⟩;have hw:=Stp.Ok.W ok
 simp[zM,bT];refine⟨A n,dJ n,s,rfl,hw,?_⟩;simp;have rl:s.rows.length<=2:=by cases s<;>simp[Stp.rows]
 have:=My (k:=k) (m:=m) (Q:=fun ps m'=>nP [.dat (dJ (n+1) s),.dat (.list ps)] m' fun x m'=>Cr j (EN R) [some (.dat (dJ (n+1) s)),some (I k),some x] m') s.rows [] none (by simp;omega) ?_
 ·simpa using this
 refine⟨A n,dJ n,s,k,by simp;rfl,hw,?_⟩
 have vc:=qX (Str.ofString "cases") (by decide)
 cases s with
 | told i=>exact⟨_,rfl,_,cW _ _,_,rfl,dF (decide_eq_false (by decide)) ⟨_,rfl,h⟩⟩
 | one w i r=>exact⟨_,rfl,_,cW _ _,_,rfl,dF (decide_eq_false (tX w hw.1).2.1) ⟨_,rfl,h⟩⟩
 | two w i j=>exact⟨_,rfl,_,cW _ _,_,rfl,dF (decide_eq_false (uS w hw).2.1) ⟨_,rfl,h⟩⟩
 | nop w r=>exact⟨_,rfl,_,cW _ _,_,rfl,dF (decide_eq_false (vO w hw.1).2.1) ⟨_,rfl,h⟩⟩
 | cas i ps =>
  obtain⟨k1,k2,k3,k4⟩:=ok;simp (decide:=true) [Cr,dJ,Stp.D,Mc,PyData.canLay0,PyData.depth,vc,bT,Stp.shr,Stp.sh,sz];have:=Iw (k:=k) (c:=c) (b:=b) (m:=m) (Q:=fun ps' m'=>R (.dat (.tuple [.str "cases",.int (i+k),.tuple ps'])) m') hn ps [] none none (fun p hp=>⟨(k4 p hp).2.2.1,(k4 p hp).2.2.2⟩) (by simp;omega) (by simpa[SH,dJ,Stp.D,Stp.sh,Function.comp_def,gO,cO] using h)
  simpa using this
theorem yG{α:Type}{SP:DC}{f g:α->PyData}{q:D}{m:Mu}{Q:List PyData->Mu->Prop}:∀ (P:List α) (acc:List PyData) (o:Option D),(∀ s∈P,∀ R:DK,R (.dat (g s)) m->SP [.dat (f s),q] m R)->P.length+acc.length<=10->Q (acc++P.map g) m ->
  bD (gN 0) cC (aP 2 SP (aA (aC 0) (aA (aC 1) aF))) ((P.map f).map .dat) acc [o,some q] m Q
 | [],acc,o,_,_,h=>by simpa[bD] using h
 | s::P,acc,o,hs,hl,h=>by
  have ih:=yG (SP:=SP) (f:=f) (g:=g) (q:=q) (m:=m) (Q:=Q) P (acc++[g s]) (some (.dat (f s))) (fun t ht=>hs t (List.mem_cons_of_mem _ ht)) (by simp at hl ⊢;omega) (by simpa using h)
  simp only[List.map_cons,bD];simp;refine hs s List.mem_cons_self _ ?_;simp;exact⟨Nat.lt_of_lt_of_le (show acc.length<11 by simp at hl;omega) (sz (by decide)),by simpa using ih⟩
theorem qE(j:Nat):∀ ds m R,ds.length=lX.length->gD (j+1) ds m R->yP j (EN R) (bY wS ds) m:=by
 rintro ds m R hl ⟨n,P,k,c,b,rfl,hn,h8,ok,h⟩;simp[yP,bT];have:=yG (SP:=nR j) (f:=dJ n) (g:=fun s=>dJ n (SH n id k s)) (q:=I k) (m:=m) (Q:=fun ps m'=>R (.dat (.tuple ps)) m') P [] none (fun s hs R' h'=>by
  cases n with
  | zero=>exact nomatch s
  | succ n=>exact⟨n,s,k,c,b,rfl,by omega,ok s hs,h'⟩) (by simp;omega) (by simpa[Function.comp_def,cO] using h)
 simpa using this
theorem Iu{j n:Nat}{ns:List Int}{b:Int}{m:Mu}{Q:List PyData->Mu->Prop}(hn:n<j):∀ (ps:List (List Str×List (A n))) (acc:List PyData) (o o1:Option D),(∀ p∈ps,p.2.length<=8/\∀ s∈p.2,SO n ns.length b s)->ps.length+acc.length<=10->Q (acc++ps.map fun p=>gO n (p.1,p.2.map (SH n (fT ns) 0))) m ->
  bD (gT 2 (cD (gN 0) (cD (gN 1) eT))) cC (aL (aA (aC 0) (aA (aP 2 (iR j) (aA (aC 1) (aA (aC 2) aF))) aF))) ((ps.map (gO n)).map .dat) acc [o,o1,some (.dat (.tuple (ns.map .int)))] m Q
 | [],acc,o,o1,_,_,h=>by simpa[bD] using h
 | p::ps,acc,o,o1,hp,hl,h=>by
  have ih:=Iu (Q:=Q) (m:=m) (ns:=ns) hn ps (acc++[gO n (p.1,p.2.map (SH n (fT ns) 0))]) (some (.dat (.tuple (p.1.map .str)))) (some (.dat (cO n p.2))) (fun q hq=>hp q (List.mem_cons_of_mem _ hq)) (by simp at hl ⊢;omega) (by simpa using h)
  obtain⟨q1,q2⟩:=hp p List.mem_cons_self;simp only[List.map_cons,bD];simp[sz];refine⟨n,p.2,ns,b,rfl,hn,q1,q2,?_⟩;simp[sz];exact⟨Nat.lt_of_lt_of_le (show acc.length<11 by simp at hl;omega) (sz (by decide)),by simpa using ih⟩
theorem Lz{ns:List Int}{i:Int}(h0:0<=i)(h1:i<ns.length):cA (ns.map PyData.int) i=some (.int (fT ns i)):=by
 obtain⟨k,rfl⟩:∃ k:Nat,i=k:=⟨i.toNat,by omega⟩
 have hk:k<ns.length:=by omega
 refine kB ?_;unfold fT;rw[List.getElem?_map,List.getD_eq_getElem?_getD,Int.toNat_natCast,List.getElem?_eq_getElem hk];rfl
theorem qU(j:Nat):∀ ds m R,ds.length=pO.length->oM j ds m R->Dq j (EN R) (bY zJ ds) m:=by
 rintro ds m R hl ⟨n,s,ns,b,rfl,hn,ok,h⟩;have hw:=Stp.Ok.W ok
 have vt:=qX (Str.ofString "told") (by decide)
 have vc:=qX (Str.ofString "cases") (by decide)
 cases s with
 | told i=>exact⟨_,rfl,_,cW _ _,_,rfl,lQ (decide_eq_true rfl) ⟨_,rfl,_,rfl,_,lG _ _ _,_,Lz ok.1 ok.2,_,rfl,z2,h⟩⟩
 | one w i r =>
  have h:R (.dat (.tuple (.str w::.int (i+0)::r))) m:=h
  rw[Int.add_zero]at h;exact⟨_,rfl,_,cW _ _,_,rfl,dF (decide_eq_false (tX w hw.1).2.2) ⟨_,rfl,_,cW _ _,_,rfl,dF (decide_eq_false (tX w hw.1).2.1) ⟨_,rfl,h⟩⟩⟩
 | two w i j =>
  have h:R (.dat (.tuple [.str w,.int (i+0),.int (j+0)])) m:=h
  rw[Int.add_zero,Int.add_zero]at h;exact⟨_,rfl,_,cW _ _,_,rfl,dF (decide_eq_false (uS w hw).2.2.1) ⟨_,rfl,_,cW _ _,_,rfl,dF (decide_eq_false (uS w hw).2.1) ⟨_,rfl,h⟩⟩⟩
 | nop w r =>
  exact⟨_,rfl,_,cW _ _,_,rfl,dF (decide_eq_false (vO w hw.1).2.2.1) ⟨_,rfl,_,cW _ _,_,rfl,dF (decide_eq_false (vO w hw.1).2.1) ⟨_,rfl,h⟩⟩⟩
 | cas i ps =>
  obtain⟨k1,k2,k3,k4⟩:=ok;simp (decide:=true) [Dq,Nb,dJ,Stp.D,PyData.canLay0,PyData.depth,vc,vt,bT,sz];have:=Iu (ns:=ns) (b:=b) (m:=m) (Q:=fun ps' m'=>R (.dat (.tuple [.str "cases",.int i,.tuple ps'])) m') hn ps [] none none (fun p hp=>⟨(k4 p hp).2.2.1,(k4 p hp).2.2.2⟩) (by simp;omega) (by simpa[SH,dJ,Stp.D,Stp.sh,Function.comp_def,gO,cO] using h)
  simpa using this
theorem sY(j:Nat):∀ ds m R,ds.length=mH.length->iR (j+1) ds m R->xF j (EN R) (bY wV ds) m:=by
 rintro ds m R hl ⟨n,P,ns,b,rfl,hn,h8,ok,h⟩;simp[xF,bT];have:=yG (SP:=oM j) (f:=dJ n) (g:=fun s=>dJ n (SH n (fT ns) 0 s)) (q:=.dat (.tuple (ns.map .int))) (m:=m) (Q:=fun ps m'=>R (.dat (.tuple ps)) m') P [] none (fun s hs R' h'=>by
  cases n with
  | zero=>exact nomatch s
  | succ n=>exact⟨n,s,ns,b,rfl,by omega,ok s hs,h'⟩) (by simp;omega) (by simpa[Function.comp_def,cO] using h)
 simpa using this
end K29
namespace K29
open PySem PySem.Spec PyProof.Rows L2 DL K01
theorem f9:0<=sizeLine:=sz (by decide)
theorem p6:1<=sizeLine:=sz (by decide)
theorem Xj:2<=sizeLine:=sz (by decide)
theorem Ue:3<=sizeLine:=sz (by decide)
theorem Uq:4<=sizeLine:=sz (by decide)
theorem Ss:5<=sizeLine:=sz (by decide)
theorem CO:6<=sizeLine:=sz (by decide)
theorem C6{j n:Nat}{ns:List Int}{k b:Int}{q:PyData}{c:Addr}{m0:Mu}{E:Ends2}{p d3 d4:Option D}(hq:q=.tuple (ns.map .int)\/q=.list (ns.map .int))(hn:n<j)(h0:m0 c=none)(ps:List (List Str×List (A n)))
  (hE:∀ o6 o7 m',Kn m0 m'->m' c=some (.l (ps.map fun p=>gO n (p.1,p.2.map (SH n (fT ns) k))))->E.nx [p,some (I k),some (.dat q),d3,d4,some (.cel c),o6,o7] m'):∀ (todo done:List (List Str×List (A n))) (o6 o7:Option D) (m':Mu),ps=done++todo->ps.length<=3->(∀ p∈todo,p.2.length<=8/\∀ s∈p.2,SO n ns.length b s)->Kn m0 m'->m' c=some (.l (done.map fun p=>gO n (p.1,p.2.map (SH n (fT ns) k)))) ->
  cH (gT 2 (cD (gN 6) (cD (gN 7) eT))) (uK j) E ((todo.map (gO n)).map .dat) [p,some (I k),some (.dat q),d3,d4,some (.cel c),o6,o7] m':=by
 intro todo
 induction todo with
 | nil =>
  intro done o6 o7 m' e _ _ kn hm;rw[List.append_nil]at e;subst e;simpa[cH] using hE o6 o7 m' kn hm
 | cons t todo ih =>
  intro done o6 o7 m' e h3 hp kn hm;have ih:=fun o6 o7 m''=>ih (done++[t]) o6 o7 m'' (by rw[e];simp) h3 (fun p hp'=>hp p (List.mem_cons_of_mem _ hp'))
  have dl:done.length<3:=by
   have:=congrArg List.length e
   simp at this;omega
  obtain⟨q1,q2⟩:=hp t List.mem_cons_self;simp only[List.map_cons,cH]
  generalize hG:cH _ (uK j) _ ((todo.map _).map .dat)=G at ih ⊢
  simp[uK];refine⟨⟨_,hm⟩,n,t.2,ns,k,b,q,rfl,hq,hn,q1,q2,fun m1 k1=>?_⟩;have hm1:=k1.get hm
  simp[sz];refine⟨_,hm1,Nat.lt_of_lt_of_le (show _<10 by simp;omega) (sz (by decide)),?_⟩
  exact ih _ _ _ ((kn.trans k1).new h0) (by rw[bF];simp)
theorem sO(j:Nat):∀ ds m R,ds.length=mG.length->gW (j+1) ds m R->yV j (EN R) (bY wL ds) m:=by
 rintro ds m R hl ⟨n,P,ns,k,b,q,rfl,hq,hn,h8,ok,h⟩;have vt:=qX (Str.ofString "told") (by decide)
 have vc:=qX (Str.ofString "cases") (by decide)
 simp[yV,sz];intro a ha
 repeat first | refine⟨rfl,?_⟩ | refine⟨_,rfl,?_⟩ | refine⟨f9,?_⟩ | refine⟨p6,?_⟩ | refine⟨Xj,?_⟩ | refine⟨Ue,?_⟩ | refine⟨Uq,?_⟩ | refine⟨Ss,?_⟩ | refine⟨CO,?_⟩
 have key:∀ (todo done:List (A n)) (o4 o5 o6 o7:Option D) (m':Mu),P=done++todo->(∀ s∈todo,SO n ns.length b s)->Kn m m'->m' a=some (.l (done.map fun s=>dJ n (SH n (fT ns) k s))) ->
   cH (gN 4) (oZ j) {nx:=qG j (EN R),rt:=R} ((todo.map (dJ n)).map .dat) [some (.dat (cO n P)),some (I k),some (.dat q),some (.cel a),o4,o5,o6,o7] m':=by
  intro todo
  induction todo with
  | nil =>
   intro done o4 o5 o6 o7 m' e _ kn hm;rw[List.append_nil]at e;subst e;simp[cH,qG];exact⟨_,hm,by simpa[cO,Function.comp_def] using h m' kn⟩
  | cons s todo ih =>
   intro done o4 o5 o6 o7 m' e ok kn hm;have ih:=fun o4 o5 o6 o7 m''=>ih (done++[s]) o4 o5 o6 o7 m'' (by rw[e];simp) (fun s hs=>ok s (List.mem_cons_of_mem _ hs))
   have dl:done.length<8:=by
    have:=congrArg List.length e
    simp at this;omega
   have oks:=ok s List.mem_cons_self
   simp only[List.map_cons,cH]
   generalize hG:cH _ (oZ j) _ ((todo.map _).map .dat)=G at ih ⊢
   show oZ j _ _ _
   unfold oZ;refine Gf (fun d m''=>Kn m' m''/\∃ o5 o6 o7,d=[some (.dat (cO n P)),some (I k),some (.dat q),some (.cel a),some (.dat (dJ n (SH n (fT ns) k s))),o5,o6,o7]) ?_ ?_
   ·rintro d m'' ⟨k2,o5,o6,o7,rfl⟩;have hm2:=k2.get hm
    simp[Kz];refine⟨⟨_,hm2⟩,_,hm2,Nat.lt_of_lt_of_le (show _<10 by simp;omega) (sz (by decide)),?_⟩
    exact ih _ _ _ _ _ ((kn.trans k2).new ha) (by rw[bF];simp)
   ·intro NX hNX
    cases n with
    | zero=>exact nomatch s
    | succ n =>
    have oks:Stp.Ok (SO n ns.length b) ns.length b s:=oks
    have hNX:=fun o5 o6 o7 m'' (k2:Kn m' m'')=>hNX _ m'' ⟨k2,o5,o6,o7,rfl⟩
    have hw:=Stp.Ok.W oks
    cases s with
    | told i =>
     have e:=Lz oks.1 oks.2
     have fin:=hNX o5 o6 o7 m' Kn.refl
     refine⟨_,rfl,_,cW _ _,_,rfl,lQ (decide_eq_true rfl) ?_⟩;rcases hq with rfl | rfl
     ·exact⟨_,rfl,_,rfl,_,lG _ _ _,_,e,_,rfl,z2,fin⟩
     ·exact⟨_,rfl,_,rfl,_,lG _ _ _,_,e,_,rfl,z2,fin⟩
    | one w i r =>
     obtain⟨w1,w2,w3⟩:=tX w hw.1;have fin:=hNX o5 o6 o7 m' Kn.refl
     refine⟨_,rfl,_,cW _ _,_,rfl,dF (decide_eq_false w3) ?_⟩;refine⟨_,rfl,_,cW _ _,_,rfl,z2,["turned","ends"],rfl,_,rfl,lQ (decide_eq_true hw.1) ?_⟩;refine⟨_,rfl,_,cW _ _,_,rfl,_,lG _ _ _,_,rfl,_,rfl,z2,_,rfl,_,rfl,.inl ⟨_,rfl,?_⟩⟩;rw[Ao];exact⟨sz (by have:=hw.2;show 2+r.length<=_;omega),fin⟩
    | two w i j =>
     obtain⟨w1,w2,w3,w4⟩:=uS w hw;have fin:=hNX o5 o6 o7 m' Kn.refl
     refine⟨_,rfl,_,cW _ _,_,rfl,dF (decide_eq_false w3) ?_⟩;refine⟨_,rfl,_,cW _ _,_,rfl,z2,["turned","ends"],rfl,_,rfl,dF (decide_eq_false w4) ?_⟩;refine⟨_,rfl,_,cW _ _,_,rfl,z4,["behind","both","strike","add"],rfl,_,rfl,lQ (decide_eq_true hw) ?_⟩;exact⟨_,rfl,_,cW _ _,_,rfl,_,lG _ _ _,_,rfl,_,rfl,_,pM _ _ _ _,_,rfl,_,rfl,z3,fin⟩
    | nop w r =>
     obtain⟨w1,w2,w3,w4,w5⟩:=vO w hw.1;have fin:=hNX o5 o6 o7 m' Kn.refl
     refine⟨_,rfl,_,cW _ _,_,rfl,dF (decide_eq_false w3) ?_⟩;refine⟨_,rfl,_,cW _ _,_,rfl,z2,["turned","ends"],rfl,_,rfl,dF (decide_eq_false w4) ?_⟩;refine⟨_,rfl,_,cW _ _,_,rfl,z4,["behind","both","strike","add"],rfl,_,rfl,dF (decide_eq_false w5) ?_⟩;exact⟨_,rfl,_,cW _ _,_,rfl,dF (decide_eq_false w2) fin⟩
    | cas i ps =>
     obtain⟨k1,k2,k3,k4⟩:=oks;refine⟨_,rfl,_,cW _ _,_,rfl,dF (decide_eq_false (by decide)) ?_⟩
     refine⟨_,rfl,_,cW _ _,_,rfl,z2,["turned","ends"],rfl,_,rfl,dF (decide_eq_false (by decide)) ?_⟩
     refine⟨_,rfl,_,cW _ _,_,rfl,z4,["behind","both","strike","add"],rfl,_,rfl,dF (decide_eq_false (by decide)) ?_⟩
     refine⟨_,rfl,_,cW _ _,_,rfl,lQ (decide_eq_true rfl) ?_⟩;refine⟨_,rfl,z0,fun c hc=>?_⟩;refine⟨_,rfl,_,pM _ _ _ _,.inr ⟨_,rfl,?_⟩⟩;have:=C6 (j:=j) (ns:=ns) (k:=k) (b:=b) (q:=q) (c:=c) (m0:=m') hq (show n<j by omega) hc ps (E:={nx:=vT j {nx:=NX,rt:=R,bk:=qG j (EN R),ct:=G},rt:=R,bk:=qG j (EN R),ct:=G}) (p:=some (.dat (cO (n+1) P))) (d3:=some (.cel a)) (d4:=some (.dat (dJ (n+1) (Stp.cas i ps)))) ?_ ps [] o6 o7 (aY m' c (.l [])) rfl k3 (fun p hp=>⟨(k4 p hp).2.2.1,(k4 p hp).2.2.2⟩) (Kn.refl.new hc) bF
     ·exact this
     ·intro o6 o7 m2 k2 hm2;simp[vT,dJ,Stp.D,sz];refine⟨_,hm2,?_⟩;simpa[SH,dJ,Stp.D,Stp.sh,Function.comp_def,gO,cO] using hNX _ o6 o7 m2 k2
 have:=key P [] none none none none (aY m a (.l [])) rfl ok (Kn.refl.new ha) bF
 simpa using this
end K29
namespace K29
open PySem PySem.Spec PyProof.Rows L2 DL K01
theorem c8:0<=sizeLine:=sz (by decide)
theorem j4:1<=sizeLine:=sz (by decide)
theorem Qk:2<=sizeLine:=sz (by decide)
theorem Yv:3<=sizeLine:=sz (by decide)
theorem Y4:4<=sizeLine:=sz (by decide)
theorem X9:5<=sizeLine:=sz (by decide)
theorem D5:6<=sizeLine:=sz (by decide)
theorem K9:∀ ds m R,ds.length=qR.length->kT ds m R->wU (EN R) (bY yL ds) m:=by
 rintro ds m R hl ⟨k,l,z,x,rfl,hz,x0,x1,h⟩;have cl:0<cZ l/\cZ l-1<cZ l:=by cases l<;>decide
 simp[wU];refine lK hz x0 x1 (by decide) cl.1 fun m1 k1=>?_
 simp[Hi];refine⟨l,rfl,?_⟩;simp;have e:(((if l=true then [0,1] else [0]:List Int).length:Int)-1)=cZ l-1:=by cases l<;>rfl
 rw[e];refine lK hz x0 x1 (by cases l<;>decide) cl.2 fun m2 k2=>?_
 have q:=h m2 (k1.trans k2)
 unfold dR at q
 generalize sg k l z x 0=F at q ⊢
 generalize sg k l z x (cZ l-1)=G at q ⊢
 by_cases f1:F<1
 ·rw[if_pos f1]at q
  by_cases f0:F<0
  ·rw[if_pos f0]at q;simpa[oD,sz,f1,f0] using q
  ·rw[if_neg f0]at q;simpa[oD,sz,f1,f0] using q
 ·rw[if_neg f1]at q
  by_cases g1:G<1
  ·rw[if_pos g1]at q
   by_cases g0:G<0
   ·rw[if_pos g0]at q;simpa[oD,uC,sz,f1,g1,g0] using q
   ·rw[if_neg g0]at q;simpa[oD,uC,sz,f1,g1,g0] using q
  ·rw[if_neg g1]at q;have g0:¬ G<0:=by omega
   simpa[oD,uC,sz,f1,g1,g0] using q
theorem Kg{m:Mu}{c:Addr}{x:Cel}(h:m c=some x):aY (dL m c) c x=m:=by
 funext b
 by_cases e:b=c
 ·subst e;rw[bF,h]
 ·rw[bM e];unfold dL;rw[if_neg e]
theorem Ea{x:Int}{m:Mu}{Q:List PyData->Mu->Prop}:∀ (ys:List Int) (acc:List PyData) (o:Option D),ys.length+acc.length<=10->Q (acc++(ys.map (gJ x)).map .int) m ->
  bD (gN 0) cC (aI gA (bC iZ (aA (aI oE (aC 1) (aC 0)) aF)) (bC iZ (aA (aI gV (aC 1) (aC 0)) aF))) ((ys.map PyData.int).map .dat) acc [o,some (I x)] m Q
 | [],acc,o,_,h=>by simpa[bD] using h
 | y::ys,acc,o,hn,h=>by
  have ih:=Ea (x:=x) (Q:=Q) (m:=m) ys (acc++[.int (gJ x y)]) (some (I y)) (by simp at hn ⊢;omega) (by simpa using h)
  simp only[List.map_cons,bD];simp;exact⟨Nat.lt_of_lt_of_le (show acc.length<11 by simp at hn;omega) (sz (by decide)),by simpa[gJ] using ih⟩
theorem X4(xs:List Int)(x:Int)(ys:List Int):gL (xs++[x]) ys=gL xs ys++ys.map (gJ x):=by simp[gL]
theorem D7(xs ys:List Int):(gL xs ys).length=xs.length*ys.length:=by
 unfold gL
 induction xs with
 | nil=>simp
 | cons x xs ih=>simp[ih,Nat.add_mul];omega
theorem Wk:∀ ds m R,ds.length=pU.length->pW ds m R->yR (EN R) (bY Aw ds) m:=by
 rintro ds m R hl ⟨xs,ys,c,rfl,hc,hx,hy,h⟩;simp[yR,sz];intro a ha;have ac:c≠a:=by rintro rfl;rw[hc]at ha;cases ha
 repeat first | refine⟨rfl,?_⟩ | refine⟨_,rfl,?_⟩ | refine⟨c8,?_⟩ | refine⟨j4,?_⟩ | refine⟨Qk,?_⟩ | refine⟨Yv,?_⟩ | refine⟨Y4,?_⟩ | refine⟨X9,?_⟩ | refine⟨D5,?_⟩
 have key:∀ (todo done:List Int) (o3:Option D) (m':Mu),xs=done++todo->Kn m m'->m' a=some (.l ((gL done ys).map .int)) ->
   cH (gN 3) uN {nx:=xA (EN R),rt:=R} ((todo.map PyData.int).map .dat) [some (.dat (.list (xs.map .int))),some (.cel c),some (.cel a),o3] m':=by
  intro todo
  induction todo with
  | nil =>
   intro done o3 m' e kn hm;rw[List.append_nil]at e;subst e;simp[cH,xA];exact⟨_,hm,h m' kn⟩
  | cons x todo ih =>
   intro done o3 m' e kn hm;have ih:=fun o3 m''=>ih (done++[x]) o3 m'' (by rw[e];simp)
   have dl:done.length<2:=by
    have:=congrArg List.length e
    simp at this;omega
   have hc':=kn.get hc
   simp only[List.map_cons,cH]
   generalize hG:cH _ uN _ ((todo.map _).map .dat)=G at ih ⊢
   simp[uN,bT];refine⟨⟨_,hm⟩,_,hc',by intro y hy;simp at hy;rcases hy with rfl | rfl<;>simp,?_⟩
   have:=Ea (x:=x) (m:=dL m' c) (Q:=fun ps m2=>∃ xs ys_1,(D.dat (.list ps)=.dat (.tuple ys_1)\/D.dat (.list ps)=.dat (.list ys_1))/\aY m2 c (.l (ys.map .int)) a=some (.l xs)/\xs.length+ys_1.length<=sizeLine/\G [some (.dat (.list ((done++x::todo).map .int))),some (.cel c),some (.cel a),some (I x)] (aY (aY m2 c (.l (ys.map .int))) a (.l (xs++ys_1)))) ys [] none (by simp;omega) ?_
   ·simpa[e] using this
   ·refine⟨(gL done ys).map .int,(ys.map (gJ x)).map .int,.inr (by simp),?_,?_,?_⟩
    ·rw[Kg hc'];exact hm
    ·rw[List.length_map,List.length_map,List.length_map,D7];refine sz ?_;have:done.length*ys.length<=2*2:=Nat.mul_le_mul (by omega) hy
     omega
    ·rw[Kg hc',<- List.map_append,<- X4,<- e];exact ih _ _ (kn.new ha) bF
 have:=key xs [] none (aY m a (.l [])) rfl (Kn.refl.new ha) bF
 simpa using this
end K29
namespace K29
open PySem PySem.Spec PyProof.Rows L2 DL K01
abbrev jD(k:Bool):List Int:=if k then [0,1] else [0]
theorem qD(k l:Bool)(z:Str)(x:Int):0<=(dR k l z x).1/\(dR k l z x).1<=20/\0<=(dR k l z x).2/\(dR k l z x).2<=1:=by
 unfold dR
 repeat' split
 all_goals decide
theorem Mh{z:Int}(h0:0<=z)(h1:z<32):z∈fK:=by
 unfold fK;exact List.mem_map.mpr ⟨z.toNat,List.mem_range.mpr (by omega),by show(z.toNat:Int)=z;omega⟩
theorem EU(l:Bool):∀ z∈WS true l,(dR true l z 0).1+(dR true l z 0).2*3<(dR true l z 1).1+(dR true l z 1).2*6:=by cases l<;>decide +kernel
def S3:List Int:=[-1,0,1]
theorem kE(x y:Int):gJ x y∈S3:=by
 unfold gJ
 repeat' split
 all_goals decide
theorem lF(x y:Int):x<y/\gJ x y=-1\/x=y/\gJ x y=0\/x > y/\gJ x y=1:=by
 unfold gJ;rcases Int.lt_trichotomy x y with h | h | h
 ·exact .inl ⟨h,by rw[if_neg (by omega),if_pos h];rfl⟩
 ·exact .inr (.inl ⟨h,by rw[if_neg (by omega),if_neg (by omega)];rfl⟩)
 ·exact .inr (.inr ⟨h,by rw[if_pos h,if_neg (by omega)];rfl⟩)
theorem Y9:∀ s00∈S3,∀ s01∈S3,∀ s10∈S3,∀ s11∈S3,(s00<=0->s01=-1)->(s10<=0->s11=-1)->(0<=s00->s10=1)->(0<=s01->s11=1)->∃ z∈WS true true,WB true true z=[s00,s01,s10,s11]:=by decide +kernel
theorem v4:∀ s00∈S3,∀ s10∈S3,(0<=s00->s10=1)->∃ z∈WS true false,WB true false z=[s00,s10]:=by decide +kernel
theorem Wt:∀ s00∈S3,∀ s01∈S3,(s00<=0->s01=-1)->∃ z∈WS false true,WB false true z=[s00,s01]:=by decide +kernel
theorem r8:∀ s00∈S3,∃ z∈WS false false,WB false false z=[s00]:=by decide +kernel
def Up(k:Bool)(xs:List Int):Prop:=if k then ∃ a b:Int,xs=[a,b]/\a<b else ∃ a:Int,xs=[a]
theorem v9{k n:Bool}{xs ys:List Int}(hx:Up k xs)(hy:Up n ys):∃ z∈WS k n,WB k n z=gL xs ys:=by
 cases k<;>cases n
 ·obtain⟨a,rfl⟩:=hx;obtain⟨c,rfl⟩:=hy;exact r8 _ (kE _ _)
 ·obtain⟨a,rfl⟩:=hx;obtain⟨c,d,rfl,hcd⟩:=hy;refine Wt _ (kE _ _) _ (kE _ _) fun h=>?_;have:=lF a c
  have:=lF a d
  omega
 ·obtain⟨a,b,rfl,hab⟩:=hx;obtain⟨c,rfl⟩:=hy;refine v4 _ (kE _ _) _ (kE _ _) fun h=>?_;have:=lF a c
  have:=lF b c
  omega
 ·obtain⟨a,b,rfl,hab⟩:=hx;obtain⟨c,d,rfl,hcd⟩:=hy;have:=lF a c
  have:=lF a d
  have:=lF b c
  have:=lF b d
  exact Y9 _ (kE _ _) _ (kE _ _) _ (kE _ _) _ (kE _ _) (by omega) (by omega) (by omega) (by omega)
abbrev kX(k n:Bool):List (List PyData×PyData):=(WS k n).map fun z=>((WB k n z).map .int,.str z)
theorem Jm:∀ (kvs:List (List PyData×PyData)) (acc:List (List PyData×D)) (j:List PyData),(∀ kv∈kvs,∃ w∈cE,kv.2=.str w)->((∃ w∈cE,dI acc j=some (.dat (.str w)))\/∃ kv∈kvs,kv.1=j)->∃ w∈cE,dI (fH acc kvs) j=some (.dat (.str w))
 | [],acc,j,_,h=>by
  rcases h with h | ⟨kv,h,_⟩
  ·exact h
  ·cases h
 | x::kvs,acc,j,hv,h=>by
  show ∃ w∈cE,dI (fH (fB acc x.1 (.dat x.2)) kvs) j=_
  refine Jm kvs _ j (fun kv q=>hv kv (List.mem_cons_of_mem _ q)) ?_
  by_cases e:j=x.1
  ·obtain⟨w,hw,ew⟩:=hv x List.mem_cons_self;exact .inl ⟨w,hw,by rw[zH,if_pos e,ew]⟩
  ·rcases h with⟨w,hw,h⟩ | ⟨kv,h,e2⟩
   ·exact .inl ⟨w,hw,by rw[zH,if_neg e];exact h⟩
   ·rcases List.mem_cons.mp h with rfl | h
    ·exact absurd e2.symm e
    ·exact .inr ⟨kv,h,e2⟩
theorem P4{k n:Bool}{xs ys:List Int}(hx:Up k xs)(hy:Up n ys):∃ w∈cE,dI (fH [] (kX k n)) ((gL xs ys).map PyData.int)=some (.dat (.str w)):=by
 obtain⟨z,hz,e⟩:=v9 hx hy;refine Jm _ _ _ (fun kv h=>?_) (.inr ⟨((WB k n z).map .int,.str z),List.mem_map.mpr ⟨z,hz,rfl⟩,by rw[e]⟩)
 obtain⟨w,hw,rfl⟩:=List.mem_map.mp h;exact⟨w,hZ k n w hw,rfl⟩
theorem Ap:∀ is:List Int,L2.isKs (is.map PyData.int)=true/\PyData.depthAll (is.map PyData.int)<=6
 | []=>by simp[L2.isKs,PyData.depthAll]
 | i::is=>by
  obtain⟨a,b⟩:=Ap is;simp[L2.isKs,L2.isK,PyData.depthAll,PyData.depth,a];exact b
theorem Nj{k n:Bool}{Q:List PyData->Mu->Prop}:∀ (ws:List Str) (acc:List PyData) (o:Option D) (m:Mu),(∀ z∈ws,z∈WS k n)->ws.length+acc.length<=20->(∀ m',Kn m m'->Q (acc++ws.map fun z=>.tuple [.tuple ((WB k n z).map .int),.str z]) m') ->
  bD (gN 0) cC (aL (aA (aP 2 nD (aA (aC 1) (aA (aC 0) aF))) (aA (aC 0) aF))) ((ws.map PyData.str).map .dat) acc [o,some (.dat (fO k n))] m Q
 | [],acc,o,m,_,_,h=>by simpa[bD] using h m Kn.refl
 | z::ws,acc,o,m,hz,hn,h=>by
  simp only[List.map_cons,bD];simp;refine⟨k,n,z,rfl,hz z List.mem_cons_self,fun m1 k1=>?_⟩;have ih:=Nj (Q:=Q) ws (acc++[.tuple [.tuple ((WB k n z).map .int),.str z]]) (some (.dat (.str z))) m1 (fun t ht=>hz t (List.mem_cons_of_mem _ ht)) (by simp at hn ⊢;omega) (fun m' k'=>by simpa using h m' (k1.trans k'))
  simp[sz];exact⟨Nat.lt_of_lt_of_le (show acc.length<21 by simp at hn;omega) (sz (by decide)),by simpa using ih⟩
abbrev k3(k l n:Bool):PyData:=.tuple [.str (kd k),.str (kd l),.str (kd n)]
theorem Ke{k l n:Bool}{x:Str}{Q:List PyData->Mu->Prop}(hx:x∈WS k l):∀ (is:List Int) (acc:List PyData) (o:Option D) (m:Mu),(∀ i∈is,0<=i/\i<cZ k)->is.length+acc.length<=20->(∀ m',Kn m m'->Q (acc++is.map fun i=>fq (dR k l x i)) m') ->
  bD (gN 0) cC (aP 3 kT (aA (fI (aC 1) fR (fE (aE (.int 2)))) (aA (aC 2) (aA (aC 0) aF)))) ((is.map PyData.int).map .dat) acc [o,some (.dat (k3 k l n)),some (.dat (.str x))] m Q
 | [],acc,o,m,_,_,h=>by simpa[bD] using h m Kn.refl
 | i::is,acc,o,m,hi,hn,h=>by
  simp only[List.map_cons,bD];simp;refine⟨k,l,x,i,rfl,hx,(hi i List.mem_cons_self).1,(hi i List.mem_cons_self).2,fun m1 k1=>?_⟩;have ih:=Ke (n:=n) (Q:=Q) hx is (acc++[fq (dR k l x i)]) (some (I i)) m1 (fun t ht=>hi t (List.mem_cons_of_mem _ ht)) (by simp at hn ⊢;omega) (fun m' k'=>by simpa using h m' (k1.trans k'))
  simp[sz];exact⟨Nat.lt_of_lt_of_le (show acc.length<21 by simp at hn;omega) (sz (by decide)),by simpa using ih⟩
theorem Ik{l n:Bool}{y:Str}{Q:List PyData->Mu->Prop}(hy:y∈WS l n):∀ (is:List Int) (acc:List PyData) (o:Option D) (m:Mu),(∀ i∈is,0<=i/\i<cZ n)->is.length+acc.length<=20->(∀ m',Kn m m'->Q (acc++is.map fun i=>fq (dR n l (tn y) i)) m') ->
  bD (gN 0) cC (aP 3 kT (aA (aC 2) (aA (aP 1 iN (aA (aC 1) aF)) (aA (aC 0) aF)))) ((is.map PyData.int).map .dat) acc [o,some (.dat (.str y)),some (.dat (fO n l))] m Q
 | [],acc,o,m,_,_,h=>by simpa[bD] using h m Kn.refl
 | i::is,acc,o,m,hi,hn,h=>by
  simp only[List.map_cons,bD];simp;refine⟨y,rfl,hZ l n y hy,?_⟩;simp;refine⟨n,l,tn y,i,rfl,Fy l n y hy,(hi i List.mem_cons_self).1,(hi i List.mem_cons_self).2,fun m1 k1=>?_⟩;have ih:=Ik (Q:=Q) hy is (acc++[fq (dR n l (tn y) i)]) (some (I i)) m1 (fun t ht=>hi t (List.mem_cons_of_mem _ ht)) (by simp at hn ⊢;omega) (fun m' k'=>by simpa using h m' (k1.trans k'))
  simp[sz];exact⟨Nat.lt_of_lt_of_le (show acc.length<21 by simp at hn;omega) (sz (by decide)),by simpa using ih⟩
theorem Bs{fc:Addr}{kvs:List (aN×PyData)}{m:Mu}{Q:List PyData->Mu->Prop}(hm:m fc=some (.d kvs)):∀ (ws:List Str) (acc:List Str) (o:Option D),(∀ z∈ws,z∈cE)->(∀ z∈acc,z∈cE)->ws.length+acc.length<=13->(∀ zs:List Str,zs.length<=13->(∀ z∈zs,z∈cE)->Q (zs.map .str) m) ->
  bD (gN 0) (bQ (aI uV (aC 0) (aC 1))) (aC 0) ((ws.map PyData.str).map .dat) (acc.map .str) [o,some (.cel fc)] m Q
 | [],acc,o,_,ha,hn,h=>by simpa[bD] using h acc (by simpa using hn) ha
 | z::ws,acc,o,hz,ha,hn,h=>by
  simp only[List.map_cons,bD];simp[nE z (hz z List.mem_cons_self)];refine⟨_,hm,?_⟩
  by_cases c:(cG kvs (.inr z)).isSome=true
  ·have ih:=Bs (Q:=Q) hm ws (acc++[z]) (some (.dat (.str z))) (fun t ht=>hz t (List.mem_cons_of_mem _ ht)) (fun t ht=>by
    rcases List.mem_append.mp ht with q | q
    ·exact ha t q
    ·rw[List.mem_singleton.mp q];exact hz z List.mem_cons_self) (by simp at hn ⊢;omega) h
   simp[c];exact .inr ⟨Nat.lt_of_lt_of_le (show acc.length<14 by simp at hn;omega) (sz (by decide)),by simpa using ih⟩
  ·have ih:=Bs (Q:=Q) hm ws acc (some (.dat (.str z))) (fun t ht=>hz t (List.mem_cons_of_mem _ ht)) ha (by simp at hn ⊢;omega) h
   simp[c];exact⟨by simpa using c,by simpa using ih⟩
end K29
namespace K29
open PySem PySem.Spec PyProof.Rows L2 DL K01
theorem Zv{k:Bool}{xs:List Int}(h:Up k xs):xs.length<=2:=by
 cases k
 ·obtain⟨a,rfl⟩:=h;simp
 ·obtain⟨a,b,rfl,_⟩:=h;simp
theorem W0{n:Bool}{ys:List Int}(hl:ys.length=if n then 2 else 1)(h:ys.Pairwise (· < ·)):Up n ys:=by
 cases n
 ·match ys,hl with
  | [a],_=>exact⟨a,rfl⟩
 ·match ys,hl with
  | [a,b],_=>exact⟨a,b,rfl,by simpa using h⟩
theorem Qn{k n:Bool}{xs vs:List Int}{bs fc oc:Addr}{kvs:List (aN×PyData)}{m:Mu}{E:Ends2}{d0 d1 d2 d3 d4 d5 d7 d9 d10 d12 d13 d15 d16:Option D}(hx:Up k xs)(hv:vs.length=if n then 2 else 1)(hd:∀ z∈vs,z∈fK)
  (hb:m bs=some (.n (fH [] (kX k n)))) (hf:m fc=some (.d kvs)) (ho:m oc=some (.l (vs.map .int))) (hk:kvs.length<=64)
  (h:∀ m',(m'=m\/∃ m2 kvs',Kn m m2/\kvs'.length<=kvs.length+1/\m'=aY m2 fc (.d kvs'))->E.nx [d0,d1,d2,d3,d4,d5,some (.cel bs),d7,some (.dat (.list (xs.map .int))),d9,d10,some (.cel fc),d12,d13,some (.cel oc),d15,d16] m') :
  tZ E [d0,d1,d2,d3,d4,d5,some (.cel bs),d7,some (.dat (.list (xs.map .int))),d9,d10,some (.cel fc),d12,d13,some (.cel oc),d15,d16] m:=by
 simp[tZ];have v2:vs.length<=2:=by rw[hv];split<;>decide
 refine⟨vs,ho,v2,hd,fun ys hs hy=>?_⟩;refine⟨.list (vs.map .int),by rw[ho],by simpa[PyData.canLay0] using (sM vs).1,by simpa[PyData.canLay0] using (sM ys).1,?_,?_⟩
 ·have:=(sM vs).2
  simp only[PyData.depth];omega
 have ev:PyData.eqv (.list (vs.map .int)) (.list (ys.map .int))=decide (vs=ys):=by
  simp only[PyData.eqv];exact Kb vs ys
 rw[ev]
 by_cases c:vs=ys
 ·rw[if_pos (by simpa using c)]
  subst c;have hu:=W0 hv hs
  refine⟨xs,vs,oc,rfl,ho,Zv hx,v2,fun m2 k2=>?_⟩;obtain⟨w,hw,hg⟩:=P4 hx hu;obtain⟨s1,s2⟩:=Ap (gL xs vs);refine⟨(gL xs vs).map .int,if_pos ⟨s1,s2⟩,_,k2.get hb,_,hg,by simp,.inr w,rfl,kvs,k2.get hf,Nat.lt_of_le_of_lt hk (Nat.lt_of_lt_of_le (show 64<100 by decide) (sz (by decide))),?_⟩
  exact h _ (.inr ⟨m2,_,k2,Gp _ _ _,rfl⟩)
 ·rw[if_neg (by simpa using c)]
  exact h m (.inl rfl)
theorem f8{i:Nat}(h:i<64):0<=(i:Int).fmod 8/\(i:Int).fmod 8<8/\0<=(i:Int).fdiv 8/\(i:Int).fdiv 8<8:=by
 rw[Int.fmod_eq_emod_of_nonneg _ (by decide),Int.fdiv_eq_ediv_of_nonneg _ (by decide)]
 omega
theorem G1{k n:Bool}{xs:List Int}{p q:Int×Int}{i:Nat}{bs fc:Addr}{kvs:List (aN×PyData)}{m:Mu}{E:Ends2}{d0 d1 d2 d3 d4 d5 d7 d9 o13 o14 o15 d16:Option D}(hi:i<64)(hx:Up k xs)(hp:0<=p.1/\p.1<=20/\0<=p.2/\p.2<=1)(hq:0<=q.1/\q.1<=20/\0<=q.2/\q.2<=1)
  (hb:m bs=some (.n (fH [] (kX k n)))) (hf:m fc=some (.d kvs)) (hk:kvs.length<=i)
  (h:∀ m' d13 d14 d15,(∃ m2 kvs',Kn m m2/\kvs'.length<=i+1/\m'=aY m2 fc (.d kvs'))->E.nx [d0,d1,d2,d3,d4,d5,some (.cel bs),d7,some (.dat (.list (xs.map .int))),d9,some (.dat (.list ((if n then [p,q] else [p]).map fq))),some (.cel fc),some (I i),d13,d14,d15,d16] m') :
  Bw E [d0,d1,d2,d3,d4,d5,some (.cel bs),d7,some (.dat (.list (xs.map .int))),d9,some (.dat (.list ((if n then [p,q] else [p]).map fq))),some (.cel fc),some (I i),o13,o14,o15,d16] m:=by
 obtain⟨a0,a1,b0,b1⟩:=f8 hi;simp[Bw,sz]
 generalize (i:Int).fmod 8=u at a0 a1 ⊢
 generalize (i:Int).fdiv 8=v at b0 b1 ⊢
 simp[Mq,sz];refine⟨by decide,fun oc hoc=>?_⟩
 have fo:fc≠oc:=by rintro rfl;rw[hf]at hoc;cases hoc
 have bo:bs≠oc:=by rintro rfl;rw[hb]at hoc;cases hoc
 have fin:∀ (vs:List Int) (m1:Mu) (d15:Option D),(vs.length=if n then 2 else 1)->(∀ z∈vs,z∈fK)->Kn m m1->m1 oc=some (.l (vs.map .int))->tZ E [d0,d1,d2,d3,d4,d5,some (.cel bs),d7,some (.dat (.list (xs.map .int))),d9,some (.dat (.list ((if n then [p,q] else [p]).map fq))),some (.cel fc),some (I i),some (.dat (.list [.int (1+u),.int (1+v)])),some (.cel oc),d15,d16] m1:=fun vs m1 d15 hl hd k1 ho=>by
  refine Qn hx hl hd (k1.get hb) (k1.get hf) ho (by omega) fun m' hm'=>?_
  refine h m' _ _ _ ?_;rcases hm' with rfl | ⟨m2,kvs',k2,hl,rfl⟩
  ·refine⟨m',kvs,k1,by omega,?_⟩
   funext b
   by_cases e:b=fc
   ·subst e;rw[bF,k1.get hf]
   ·rw[bM e]
  ·exact⟨m2,kvs',k1.trans k2,by omega,rfl⟩
 have ba:0<=p.2*(1+u)/\p.2*(1+u)<=8:=by
  obtain⟨_,_,p0,p1⟩:=hp;have:p.2=0\/p.2=1:=by omega
  rcases this with e | e<;>rw[e]<;>omega
 have bb:0<=q.2*(1+v)/\q.2*(1+v)<=8:=by
  obtain⟨_,_,p0,p1⟩:=hq;have:q.2=0\/q.2=1:=by omega
  rcases this with e | e<;>rw[e]<;>omega
 cases n with
 | false =>
  simp[zN,dC,cH,Dl,bF];refine⟨eR (eZ (by omega) (by omega)),sz (by decide),?_⟩
  exact fin [p.1+p.2*(1+u)] _ _ rfl (fun z hz=>by rw[List.mem_singleton.mp hz];exact Mh (by omega) (by omega)) ((Kn.refl.new hoc).new hoc) bF
 | true =>
  simp[zN,dC,cH,Dl,bF,List.range_succ];refine⟨eR (eZ (by omega) (by omega)),sz (by decide),eR (eZ (by omega) (by omega)),sz (by decide),?_⟩
  exact fin [p.1+p.2*(1+u),q.1+q.2*(1+v)] _ _ rfl (fun z hz=>by simp at hz;rcases hz with rfl | rfl<;>exact Mh (by omega) (by omega)) (((Kn.refl.new hoc).new hoc).new hoc) bF
end K29
namespace K29
open PySem PySem.Spec PyProof.Rows L2 DL K01
theorem Ds:0<=sizeLine:=sz (by decide)
theorem zA:1<=sizeLine:=sz (by decide)
theorem Bo:2<=sizeLine:=sz (by decide)
theorem xQ:3<=sizeLine:=sz (by decide)
theorem zS:4<=sizeLine:=sz (by decide)
theorem yB:5<=sizeLine:=sz (by decide)
theorem vU:6<=sizeLine:=sz (by decide)
abbrev mW(k l n:Bool)(x y:Str):List PyData:=[k3 k l n,.str x,.str y]
theorem Lo{k l n:Bool}{x y:Str}(hx:PyData.strOk x=true)(hy:PyData.strOk y=true):L2.isKs (mW k l n x y)=true/\PyData.depthAll (mW k l n x y)<=6:=by
 cases k<;>cases l<;>cases n<;>simp[L2.isKs,L2.isK,kd,hx,hy,PyData.depthAll,PyData.depth]
theorem O5{k l:Bool}{x:Str}{m:Mu}{Q:List PyData->Mu->Prop}(hx:x∈WS k l)(h:∀ xs:List Int,Up k xs->Q (xs.map .int) m) :
  bD (gN 0) cC (aI bS (aI aW (aI aW (aC 1) (aC 0)) (aE (.int 0))) (aI eJ (aI aW (aI aW (aC 1) (aC 0)) (aE (.int 1))) (aI bS (aE (.int 3)) (aI eJ (aE (.int 3)) (aC 0))))) (dC 0 (jD k).length) [] [none,some (.dat (.list ((jD k).map fun i=>fq (dR k l x i))))] m Q:=by
 cases k with
 | false =>
  obtain⟨_,_,p0,p1⟩:=qD false l x 0;simp[jD,dC,bD];exact⟨eR (eZ (by decide) (by decide)),eR (eZ (by omega) (by omega)),sz (by decide),h [_] ⟨_,rfl⟩⟩
 | true =>
  obtain⟨_,_,p0,p1⟩:=qD true l x 0;obtain⟨_,_,q0,q1⟩:=qD true l x 1;have up:=EU l x hx
  simp[jD,dC,bD,List.range_succ];exact⟨eR (eZ (by decide) (by decide)),eR (eZ (by omega) (by omega)),sz (by decide),eR (eZ (by decide) (by decide)),eR (eZ (by omega) (by omega)),sz (by decide),h [_,_] ⟨_,_,rfl,up⟩⟩
theorem b6{c:Addr}{k l n:Bool}{x y:Str}{m:Mu}{E:Ends2}(hc:m c=some (.n []))(hx:x∈WS k l)(hy:y∈WS l n)
  (h:∀ (zs:List Str) m' o4 o5 o6 o7 o8 o9 o10 o11 o12 o13 o14 o15 o16,zs.length<=13->(∀ z∈zs,z∈cE)->m' c=some (.n (fB [] (mW k l n x y) (.dat (.tuple (zs.map .str)))))->(∀ b,b≠c->(m b).isSome=true->m' b=m b)->E.nx [some (.cel c),some (.dat (k3 k l n)),some (.dat (.str x)),some (.dat (.str y)),o4,o5,o6,o7,o8,o9,o10,o11,o12,o13,o14,o15,o16] m') :
  Mt E [some (.cel c),some (.dat (k3 k l n)),some (.dat (.str x)),some (.dat (.str y)),none,none,none,none,none,none,none,none,none,none,none,none,none] m:=by
 have okx:=nE x (hZ k l x hx)
 have oky:=nE y (hZ l n y hy)
 have kk:=Lo (k:=k) (l:=l) (n:=n) okx oky
 have sk:∀ b:Bool,∀ i∈jD b,0<=i/\i<cZ b:=by decide
 have sl:∀ b:Bool,(jD b).length<=2:=by decide
 repeat first | refine⟨rfl,?_⟩ | refine⟨_,rfl,?_⟩ | refine⟨Ds,?_⟩ | refine⟨zA,?_⟩ | refine⟨Bo,?_⟩ | refine⟨xQ,?_⟩ | refine⟨zS,?_⟩ | refine⟨yB,?_⟩ | refine⟨vU,?_⟩
 repeat first | refine⟨rfl,?_⟩ | refine⟨_,rfl,?_⟩ | refine⟨Ds,?_⟩ | refine⟨zA,?_⟩ | refine⟨Bo,?_⟩ | refine⟨xQ,?_⟩ | refine⟨zS,?_⟩ | refine⟨yB,?_⟩ | refine⟨vU,?_⟩
 refine⟨k,n,rfl,?_⟩;simp[Gg,bT,-List.map_map];refine Nj (WS k n) [] none m (fun z hz=>hz) (by have:=lH k n;simp;omega) fun m1 k1=>?_
 refine⟨kX k n,by simp[Function.comp_def],fun a b hab=>?_,sz (by have:=lH k n;simp;omega),fun bs hbs=>?_⟩
 ·obtain⟨z,hz,e1,e2⟩:∃ z∈WS k n,(WB k n z).map PyData.int=a/\PyData.str z=b:=by simpa using hab
  subst e1;exact Ap _
 have k2:Kn m (aY m1 bs (.n (fH [] (kX k n)))):=k1.new (k1.none hbs)
 have b2:(aY m1 bs (.n (fH [] (kX k n)))) bs=some (.n (fH [] (kX k n))):=bF
 generalize aY m1 bs (.n (fH [] (kX k n)))=m2 at k2 b2 ⊢
 simp[Fa,bT,-List.map_map];refine⟨k,rfl,?_⟩;simp[-List.map_map];refine Ke (n:=n) hx (jD k) [] none m2 (sk k) (by have:=sl k;simp;omega) fun m3 k3'=>?_
 have k3:=k2.trans k3'
 have b3:=k3'.get b2
 simp[Fe,bT,-List.map_map];refine⟨by have:=sl k;omega,O5 hx fun xs hxs=>?_⟩
 simp[Mi,sz];simp[Ii,bT,-List.map_map];refine⟨n,rfl,?_⟩;simp[-List.map_map];refine Ik hy (jD n) [] none m3 (sk n) (by have:=sl n;simp;omega) fun m4 k4'=>?_
 have k4:=k3.trans k4'
 have b4:=k4'.get b3
 repeat first | refine⟨rfl,?_⟩ | refine⟨_,rfl,?_⟩ | refine⟨Ds,?_⟩ | refine⟨zA,?_⟩ | refine⟨Bo,?_⟩ | refine⟨xQ,?_⟩ | refine⟨zS,?_⟩ | refine⟨yB,?_⟩ | refine⟨vU,?_⟩
 intro fc hfc;simp[Fn,-List.map_map];have et:(jD n).map (fun i=>fq (dR n l (tn y) i))=(if n then [dR n l (tn y) 0,dR n l (tn y) 1] else [dR n l (tn y) 0]).map fq:=by cases n<;>rfl
 rw[et];refine sR (n:=64) (fun i d m'=>∃ m5 kvs o12 o13 o14 o15,Kn m4 m5/\kvs.length<=i/\m'=aY m5 fc (.d kvs)/\d=[some (.cel c),some (.dat (K29.k3 k l n)),some (.dat (.str x)),some (.dat (.str y)),some (.dat (fO k n)),some (.dat (.tuple ((WS k n).map .str))),some (.cel bs),some (.dat (.list ((jD k).map fun i=>fq (dR k l x i)))),some (.dat (.list (xs.map .int))),some (.dat (fO n l)),some (.dat (.list ((if n then [dR n l (tn y) 0,dR n l (tn y) 1] else [dR n l (tn y) 0]).map fq))),some (.cel fc),o12,o13,o14,o15,none]) ?_ ?_ _ _ ⟨m4,[],none,none,none,none,Kn.refl,Nat.le_refl _,rfl,rfl⟩
 ·rintro d m' ⟨m5,kvs,o12,o13,o14,o15,k5,hk,rfl,rfl⟩;simp[Ng,bT,-List.map_map];refine Bs (kvs:=kvs) bF (WS k n) [] none (fun z hz=>hZ k n z hz) (by simp) (by have:=lH k n;simpa using this) fun zs hz1 hz2=>?_
  have hcf:c≠fc:=by rintro rfl;rw[k4.get hc]at hfc;cases hfc
  have hcm:(aY m5 fc (.d kvs)) c=some (.n []):=by rw[bM hcf];exact(k4.trans k5).get hc
  have ka:Kn m (aY m5 fc (.d kvs)):=(k4.trans k5).new (k4.none hfc)
  simp[Nt,-List.map_map,sz];refine⟨mW k l n x y,by simpa using kk,_,hcm,sz (n:=1) (by decide),?_⟩
  exact h zs _ _ _ _ _ _ _ _ _ _ _ _ _ _ hz1 hz2 bF fun b hb hs=>by rw[bM hb];exact ka b hs
 ·rintro i hi K hK d m' ⟨m5,kvs,o12,o13,o14,o15,k5,hk,rfl,rfl⟩;have bf:bs≠fc:=by rintro rfl;rw[b4]at hfc;cases hfc
  refine G1 (n:=n) hi hxs (qD n l (tn y) 0) (qD n l (tn y) 1) (by rw[bM bf];exact k5.get b4) bF hk fun m6 d13 d14 d15 ⟨m7,kvs',k7,hl,e⟩=>?_
  refine hK _ _ ⟨m7,kvs',_,_,_,_,fun b hb=>?_,hl,e,rfl⟩;have nb:b≠fc:=by rintro rfl;rw[hfc]at hb;cases hb
  have q:=k7 b (by rw[bM nb,k5 b hb];exact hb)
  rw[q,bM nb,k5 b hb]
theorem z6:∀ ds m R,ds.length=tH.length->sX ds m R->vY (EN R) (bY Bh ds) m:=by
 rintro ds m R hl ⟨c,k,l,n,x,y,rfl,hc,hx,hy,h⟩;have okx:=nE x (hZ k l x hx)
 have oky:=nE y (hZ l n y hy)
 have kk:=Lo (k:=k) (l:=l) (n:=n) okx oky
 unfold vY;refine Gf (fun d m'=>∃ (zs:List Str) (o4 o5 o6 o7 o8 o9 o10 o11 o12 o13 o14 o15 o16:Option D),(zs.length<=13/\∀ z∈zs,z∈cE)/\m' c=some (.n (fB [] (mW k l n x y) (.dat (.tuple (zs.map .str)))))/\(∀ b,b≠c->(m b).isSome=true->m' b=m b)/\d=[some (.cel c),some (.dat (K29.k3 k l n)),some (.dat (.str x)),some (.dat (.str y)),o4,o5,o6,o7,o8,o9,o10,o11,o12,o13,o14,o15,o16]) ?_ ?_
 ·rintro d m' ⟨zs,o4,o5,o6,o7,o8,o9,o10,o11,o12,o13,o14,o15,o16,⟨z1,z2⟩,hm,hk,rfl⟩;simp[Kx,sz];exact⟨mW k l n x y,by simpa using kk,_,hm,_,by rw[zH,if_pos rfl],by simp,h zs m' z1 z2 hk⟩
 ·intro NX hNX;simp[sz];refine⟨mW k l n x y,by simpa using kk,_,hc,?_⟩
  simp[Y2];refine b6 hc hx hy fun zs m' o4 o5 o6 o7 o8 o9 o10 o11 o12 o13 o14 o15 o16 z1 z2 hm hk=>?_;exact hNX _ _ ⟨zs,_,_,_,_,_,_,_,_,_,_,_,_,_,⟨z1,z2⟩,hm,hk,rfl⟩
end K29
namespace K29
open PySem PySem.Spec PyProof.Rows L2 DL K01
theorem wX:0<=sizeLine:=sz (by decide)
theorem Du:1<=sizeLine:=sz (by decide)
theorem Cs:2<=sizeLine:=sz (by decide)
theorem Cy:3<=sizeLine:=sz (by decide)
theorem zT:4<=sizeLine:=sz (by decide)
theorem wC:5<=sizeLine:=sz (by decide)
theorem wJ:6<=sizeLine:=sz (by decide)
theorem Hy{p a b:Prop}(ha:a)(hb:b):¬ p/\a\/p/\b:=(Classical.em p).elim (fun h=>.inr ⟨h,hb⟩) (fun h=>.inl ⟨h,ha⟩)
theorem Of{p a b:Prop}(ha:a)(hb:b):p/\a\/¬ p/\b:=(Classical.em p).elim (fun h=>.inl ⟨h,ha⟩) (fun h=>.inr ⟨h,hb⟩)
def AllS{α:Type}(Q:α->Prop):List α->Prop
 | []=>True
 | s::P=>Q s/\AllS Q P
theorem AllS.mem{α:Type}{Q:α->Prop}:∀ {P:List α},AllS Q P->∀ s∈P,Q s
 | s::P,h,t,ht=>by
  rcases List.mem_cons.mp ht with rfl | ht
  ·exact h.1
  ·exact AllS.mem h.2 t ht
theorem uO{α:Type}{f:α->Nat}{v:Nat}:∀ {P:List α},(∀ s∈P,f s<=v)->(P.map f).sum<=v*P.length
 | [],_=>by simp
 | s::P,h=>by
  have h1:=h s List.mem_cons_self
  have h2:=uO fun t ht=>h t (List.mem_cons_of_mem _ ht)
  simp only[List.map_cons,List.sum_cons,List.length_cons,Nat.mul_add];omega
abbrev Q1(n:Nat)(c b:Int)(v:Nat)(s:A n):Prop:=SO n c b s/\WE n s<=v
theorem kK{n:Nat}{c b:Int}{v w:Nat}{P:List (A n)}(hl:P.length<=8)(h:AllS (Q1 n c b v) P)(hw:v*P.length<=w):PaO n c b w P :=
 ⟨hl,fun s hs=>(h.mem s hs).1,Nat.le_trans (uO fun s hs=>(h.mem s hs).2) hw⟩
theorem fG{n v:Nat}{c b i:Int}(h0:0<=i)(h1:i<c)(hv:100<=v):Q1 (n+1) c b v (Stp.told i):=⟨⟨h0,h1⟩,hv⟩
theorem Hl{n v:Nat}{c b i:Int}{w:Str}{r:List PyData}(hw:w∈(["turned","ends"]:List Str))(h0:0<=i)(h1:i<=b)(hr:r.length<=2)(hg:∀ x∈r,lY x)(hv:250<=v):Q1 (n+1) c b v (Stp.one w i r):=⟨⟨hw,h0,h1,hr,hg⟩,hv⟩
theorem jL{n v:Nat}{c b i j:Int}{w:Str}(hw:w∈(["behind","both","strike","add"]:List Str))(h0:0<=i)(h1:i<=b)(h2:0<=j)(h3:j<=b)(hv:100<=v):Q1 (n+1) c b v (Stp.two w i j):=⟨⟨hw,h0,h1,h2,h3⟩,hv⟩
theorem Sx{n v:Nat}{c b:Int}{w:Str}{r:List PyData}(hw:w∈(["any","long"]:List Str))(hr:r.length<=2)(hg:∀ x∈r,lY x)(hv:200<=v):Q1 (n+1) c b v (Stp.nop w r):=⟨⟨hw,hr,hg⟩,hv⟩
theorem kF{t:DT}{tl:List (Option D)}{Q:List PyData->Mu->Prop}:∀ (ws:List Str) (acc:List Str) (o:Option D) (m:Mu),(∀ z∈ws,z∈cE)->(∀ z∈acc,z∈cE)->ws.length+acc.length<=13 ->
  (∀ z∈ws,∀ m1,Kn m m1->∀ K:Bool->Mu->Prop,(∀ b m2,Kn m1 m2->K b m2)->t (some (.dat (.str z))::tl) m1 K)->(∀ (zs:List Str) m',zs.length<=13->(∀ z∈zs,z∈cE)->Kn m m'->Q (zs.map .str) m') ->
  bD (gN 0) t (aC 0) ((ws.map PyData.str).map .dat) (acc.map .str) (o::tl) m Q
 | [],acc,o,m,_,ha,hn,_,h=>by simpa[bD] using h acc m (by simpa using hn) ha Kn.refl
 | z::ws,acc,o,m,hz,ha,hn,ht,h=>by
  simp only[List.map_cons,bD];simp;refine ht z List.mem_cons_self m Kn.refl _ fun b m2 k2=>?_;have hz':=fun u hu=>hz u (List.mem_cons_of_mem _ hu)
  have ht':=fun u (hu:u∈ws) m1 (k1:Kn m2 m1)=>ht u (List.mem_cons_of_mem _ hu) m1 (k2.trans k1)
  have h':=fun(zs:List Str) m' z1 z2 (k':Kn m2 m')=>h zs m' z1 z2 (k2.trans k')
  cases b with
  | false =>
   have ih:=kF ws acc (some (.dat (.str z))) m2 hz' ha (by simp at hn ⊢;omega) ht' h'
   simpa using ih
  | true =>
   have ih:=kF ws (acc++[z]) (some (.dat (.str z))) m2 hz' (fun t ht=>by
    rcases List.mem_append.mp ht with q | q
    ·exact ha t q
    ·rw[List.mem_singleton.mp q];exact hz z List.mem_cons_self) (by simp at hn ⊢;omega) ht' h'
   simp;exact⟨Nat.lt_of_lt_of_le (show acc.length<14 by simp at hn;omega) (sz (by decide)),by simpa using ih⟩
theorem fX(k l:Bool):(∀ z∈WS k l,z∈cE)/\(WS k l).length+([]:List Str).length<=13:=⟨hZ k l,by simpa using lH k l⟩
theorem yF(k l:Bool):3<=(WS k l).length:=by cases k<;>cases l<;>decide
theorem Uh:∀ ds m R,ds.length=sF.length->qP ds m R->xI (EN R) (bY By ds) m:=by
 rintro ds m R hl ⟨a,k,l,L,rfl,hL,hT,h⟩;have hf:=Fed.refl hT
 have l1:=yF k l
 have l2:=lH k l
 simp[xI];refine dD (by omega) (by omega) hL (by decide) hf fun r1 m1 r10 r11 hf1=>?_
 simp[Oa];refine dD (by omega) (by omega) hL (by decide) hf1 fun r2 m2 r20 r21 hf2=>?_
 have cl:∀ (lo hi:Option Int),∃ zs:List Str,cV ((WS k l).map PyData.str) lo hi=zs.map .str/\zs.length<=13:=fun lo hi=>⟨cV (WS k l) lo hi,by unfold cV;rw[List.map_take,List.map_drop,List.length_map],Nat.le_trans (N0 _ _ _) l2⟩
 obtain⟨z1,e1,n1⟩:=cl (some r2) none;obtain⟨z2,e2,n2⟩:=cl none (some r2);simp[Ho];rw[e1,e2];refine⟨sz (by simp;omega),?_⟩
 rw[<- List.map_append];simp[Jo,bT,-List.map_map,-List.map_append];refine kF (WS k l) [] none m2 (fX k l).1 (by simp) (fX k l).2 (fun z hz m3 k3 K hK=>?_) fun zs m3 q1 q2 k3=>?_
 ·simp[-List.map_map,-List.map_append];exact⟨cV (z1++z2) none (some (1+r1)),by unfold cV;rw[List.map_take,List.map_drop,List.length_map],Hy (hK _ _ Kn.refl) (hK _ _ Kn.refl)⟩
 ·simp[Gz,bT,-List.map_map];refine kF (WS k l) [] none m3 (fX k l).1 (by simp) (fX k l).2 (fun z hz m4 k4 K hK=>?_) fun zs' m4 s1 s2 k4=>?_
  ·simp[-List.map_map];exact⟨zs,rfl,Of (hK _ _ Kn.refl) (hK _ _ Kn.refl)⟩
  ·simp[sz];exact h _ _ m4 ⟨zs,rfl,q1,q2⟩ ⟨zs',rfl,s1,s2⟩ (hf2.kn (k3.trans k4))
theorem uD{a:Addr}{ts:List (Str×Bool)}{b L:Int}{m0 m:Mu}{R:DK}(h2:2<=ts.length)(h6:ts.length<=6)(hL:L<=8000000)(hb:b<=100000)(hf:Fed b L m0 m a)(h:∀ (x y:Str) (k l:Bool) m',(x,k)∈ts->(y,l)∈ts->Fed (b+2) L m0 m' a->R (.dat (.tuple [.str x,.str y])) m'):hU [.cel a,.dat (TH ts)] m R :=
 ⟨a,ts,L+b,rfl,h2,h6,by omega,hf.1,fun x y k l m' hx hy hf'=>h x y k l m' hx hy (hf.trans hf')⟩
theorem uM{ts:List (Str×Bool)}{x y:Str}{k l:Bool}{m:Mu}{R:DK}(nm:Nm (ts.map (·.1)))(hx:(x,k)∈ts)(hy:(y,l)∈ts)(h:∀ m',Kn m m'->R (.dat (fO k l)) m'):gC [.dat (TH ts),.dat (.tuple [.str x,.str y])] m R :=
 ⟨ts,[(x,k),(y,l)],rfl,by simpa using nm.2.1,nm.1,by simp,by simp[hx,hy],h⟩
theorem Rj:∀ ds m R,ds.length=sB.length->rH ds m R->Gi (EN R) (bY yH ds) m:=by
 rintro ds m R hl ⟨a,ts,L,rfl,h3,h4,nm,hL,hT,h⟩;have hf:=Fed.refl hT
 repeat first | refine⟨rfl,?_⟩ | refine⟨_,rfl,?_⟩ | refine⟨wX,?_⟩ | refine⟨Du,?_⟩ | refine⟨Cs,?_⟩ | refine⟨Cy,?_⟩ | refine⟨zT,?_⟩ | refine⟨wC,?_⟩ | refine⟨wJ,?_⟩
 refine uD (by omega) (by omega) hL (by decide) hf fun x y k l m1 hx hy hf1=>?_
 repeat first | refine⟨rfl,?_⟩ | refine⟨_,rfl,?_⟩ | refine⟨wX,?_⟩ | refine⟨Du,?_⟩ | refine⟨Cs,?_⟩ | refine⟨Cy,?_⟩ | refine⟨zT,?_⟩ | refine⟨wC,?_⟩ | refine⟨wJ,?_⟩
 refine uM nm hx hy fun m2 k2=>?_;have hf2:=hf1.kn k2
 simp[Lb];refine⟨k,l,rfl,?_⟩;refine⟨a,k,l,L+(0+2),rfl,by omega,hf2.1,fun p q m3 hp hq hf3'=>?_⟩
 have hf3:=hf2.trans hf3'
 repeat first | refine⟨rfl,?_⟩ | refine⟨_,rfl,?_⟩ | refine⟨wX,?_⟩ | refine⟨Du,?_⟩ | refine⟨Cs,?_⟩ | refine⟨Cy,?_⟩ | refine⟨zT,?_⟩ | refine⟨wC,?_⟩ | refine⟨wJ,?_⟩
 refine dD (by decide) (by decide) (Int.le_trans hL (by decide)) (by decide) hf3 fun r m4 r0 r1 hf4=>?_
 have fin:∀ (xs:List PyData) (P:List (A 1)) m',xs.length=2->PaO 1 2 5 4000 P->Fed 5 L m m' a->R (.dat (.tuple [.tuple xs,cO 1 P])) m':=fun xs P m' hx hP hf'=>h _ m' ⟨xs,1,P,rfl,by omega,by omega,by decide,by rw[hx];exact hP⟩ (hf'.mono (by decide))
 by_cases c:r=0
 ·subst c;simp[PyData.canLay0,PyData.depth,PyData.eqv,Kf,Lv,sz];exact fin _ [Stp.told 0,Stp.told 1,Stp.two "both" 0 1] m4 rfl (kK (v:=250) (by decide) ⟨fG (by decide) (by decide) (by decide),fG (by decide) (by decide) (by decide),jL (by decide) (by decide) (by decide) (by decide) (by decide) (by decide),trivial⟩ (by decide)) hf4
 ·simp[PyData.canLay0,PyData.depth,PyData.eqv,c,Fq,sz];refine⟨l,k,rfl,?_⟩;simp[Ir,bT,-List.map_map];obtain⟨zs,rfl,q1,q2⟩:=hq;refine kF (WS l k) [] none m4 (fX l k).1 (by simp) (fX l k).2 (fun z hz m5 k5 K hK=>?_) fun zs' m5 s1 s2 k5=>?_
  ·simp[-List.map_map];refine⟨z,rfl,hZ l k z hz,?_⟩;simp[-List.map_map];exact⟨zs,rfl,Hy (hK _ _ Kn.refl) (hK _ _ Kn.refl)⟩
  ·simp[Fz,Gx,sz];exact fin _ [Stp.told 0,Stp.told 1,Stp.one "turned" 1 [],Stp.two "both" 2 0] m5 rfl (kK (v:=250) (by decide) ⟨fG (by decide) (by decide) (by decide),fG (by decide) (by decide) (by decide),Hl (by decide) (by decide) (by decide) (by decide) (by simp) (by decide),jL (by decide) (by decide) (by decide) (by decide) (by decide) (by decide),trivial⟩ (by decide)) (hf4.kn k5)
end K29
namespace K29
open PySem PySem.Spec PyProof.Rows L2 DL K01
theorem lN:0<=sizeLine:=sz (by decide)
theorem mO:1<=sizeLine:=sz (by decide)
theorem mL:2<=sizeLine:=sz (by decide)
theorem mI:3<=sizeLine:=sz (by decide)
theorem lU:4<=sizeLine:=sz (by decide)
theorem mC:5<=sizeLine:=sz (by decide)
theorem lR:6<=sizeLine:=sz (by decide)
theorem Co(k:Bool):(((if k=true then [0,1] else [0]:List Int)).length:Int)=cZ k:=by cases k<;>rfl
theorem tY(k:Bool):0<cZ k/\cZ k<=2:=by cases k<;>decide
theorem Nd{a:Str}{r:Int}(ha:iY a)(h0:0<=r)(h1:r<2):lY (.tuple [.str a,.int r]):=by
 refine .inr ⟨(a,decide (r=1)),?_,ha⟩;have:r=0\/r=1:=by omega
 rcases this with rfl | rfl<;>rfl
theorem Zp{r:Int}(h0:0<=r)(h1:r<3):∃ u:Int×Int,cA [PyData.tuple [.int (-1),.int 1],.tuple [.int (-1),.int 999983],.tuple [.int 0,.int 1]] r=some (fq u):=by
 obtain⟨p,e,u,rfl⟩:=oF (xs:=[PyData.tuple [.int (-1),.int 1],.tuple [.int (-1),.int 999983],.tuple [.int 0,.int 1]]) (P:=fun p=>∃ u:Int×Int,p=fq u) (r:=r) (by
  intro p hp;simp at hp;rcases hp with rfl | rfl | rfl
  ·exact⟨(-1,1),rfl⟩
  ·exact⟨(-1,999983),rfl⟩
  ·exact⟨(0,1),rfl⟩) h0 h1
 exact⟨u,e⟩
theorem D3:∀ ds m R,ds.length=rG.length->sH ds m R->Mk (EN R) (bY xB ds) m:=by
 rintro ds m R hl ⟨a,ts,L,rfl,h3,h4,nm,hL,hT,h⟩;have hf:=Fed.refl hT
 have hL9:L<=9000000:=by omega
 repeat first | refine⟨rfl,?_⟩ | refine⟨_,rfl,?_⟩ | refine⟨lN,?_⟩ | refine⟨mO,?_⟩ | refine⟨mL,?_⟩ | refine⟨mI,?_⟩ | refine⟨lU,?_⟩ | refine⟨mC,?_⟩ | refine⟨lR,?_⟩
 refine uD (by omega) (by omega) hL (by decide) hf fun x y k l m1 hx hy hf1=>?_
 have gx:=mJ nm hx
 have gy:=mJ nm hy
 simp[Nk,sz];refine uM nm hx hy fun m2 k2=>?_;have hf2:=hf1.kn k2
 have ck:=tY k
 have cl:=tY l
 simp[Ol];refine⟨k,rfl,?_⟩;simp;rw[Co];refine dD (by omega) (by omega) hL9 (by decide) hf2 fun r m3 r0 r1 hf3=>?_
 simp[Gk];refine⟨l,rfl,?_⟩;simp;rw[Co];refine dD (by omega) (by omega) hL9 (by decide) hf3 fun q m4 q0 q1 hf4=>?_
 repeat first | refine⟨rfl,?_⟩ | refine⟨_,rfl,?_⟩ | refine⟨lN,?_⟩ | refine⟨mO,?_⟩ | refine⟨mL,?_⟩ | refine⟨mI,?_⟩ | refine⟨lU,?_⟩ | refine⟨mC,?_⟩ | refine⟨lR,?_⟩
 refine⟨k,l,rfl,?_⟩;simp[Hv,bT,-List.map_map];refine kF (WS k l) [] none m4 (fX k l).1 (by simp) (fX k l).2 (fun z hz m5 k5 K hK=>?_) fun zs m5 s1 s2 k5=>?_
 ·simp[-List.map_map];refine lK hz r0 r1 q0 q1 fun m6 k6=>?_;simp
  by_cases c:sg k l z r q<1
  ·exact .inr ⟨c,hK _ _ k6⟩
  ·exact .inl ⟨by omega,hK _ _ k6⟩
 repeat first | refine⟨rfl,?_⟩ | refine⟨_,rfl,?_⟩ | refine⟨lN,?_⟩ | refine⟨mO,?_⟩ | refine⟨mL,?_⟩ | refine⟨mI,?_⟩ | refine⟨lU,?_⟩ | refine⟨mC,?_⟩ | refine⟨lR,?_⟩
 refine dD (by decide) (by decide) hL9 (by decide) (hf4.kn k5) fun w m6 w0 w1 hf6=>?_
 obtain⟨u,hu⟩:=Zp w0 w1;simp;refine⟨_,hu,?_⟩;simp[Ig,sz,PyData.canLay0,PyData.canLayAll0,PyData.depth,PyData.depthAll]
 repeat first | refine⟨rfl,?_⟩ | refine⟨_,rfl,?_⟩ | refine⟨lN,?_⟩ | refine⟨mO,?_⟩ | refine⟨mL,?_⟩ | refine⟨mI,?_⟩ | refine⟨lU,?_⟩ | refine⟨mC,?_⟩ | refine⟨lR,?_⟩
 simp[Oj];refine dD (by decide) (by decide) hL9 (by decide) hf6 fun v m7 v0 v1 hf7=>?_
 have fin:∀ (xs:List PyData) (P:List (A 1)) m',xs.length=2->PaO 1 2 5 4000 P->Fed (0+2+1+1+1+1) L m m' a->R (.dat (.tuple [.tuple xs,cO 1 P])) m':=fun xs P m' hx hP hf'=>h _ m' ⟨xs,1,P,rfl,by omega,by omega,by decide,by rw[hx];exact hP⟩ (hf'.mono (by decide))
 by_cases c:v=0
 ·subst c;simp[PyData.canLay0,PyData.depth,PyData.eqv,sz];exact fin _ [Stp.told 1,Stp.told 0,Stp.two "strike" 1 0] m7 rfl (kK (v:=250) (by decide) ⟨fG (by decide) (by decide) (by decide),fG (by decide) (by decide) (by decide),jL (by decide) (by decide) (by decide) (by decide) (by decide) (by decide),trivial⟩ (by decide)) hf7
 ·simp[PyData.canLay0,PyData.depth,PyData.eqv,sz,c,Jb];refine fin _ [Stp.told 0,Stp.told 1,Stp.one "ends" 0 [.tuple [.str x,.int r],.tuple [.str y,.int q]],Stp.two "add" 2 1] m7 rfl (kK (v:=250) (Nat.le_of_ble_eq_true rfl) ⟨fG (by decide) (by decide) (by decide),fG (by decide) (by decide) (by decide),Hl (by decide) (by decide) (by decide) (Nat.le_of_ble_eq_true rfl) ?_ (by decide),jL (by decide) (by decide) (by decide) (by decide) (by decide) (by decide),trivial⟩ (Nat.le_of_ble_eq_true rfl)) hf7
  intro p hp;simp at hp;rcases hp with rfl | rfl
  ·exact Nd gx r0 (by omega)
  ·exact Nd gy q0 (by omega)
theorem Xm:∀ ds m R,ds.length=pI.length->rE ds m R->Jq (EN R) (bY De ds) m:=by
 rintro ds m R hl ⟨a,ts,L,rfl,h3,h4,nm,hL,hT,h⟩;have hf:=Fed.refl hT
 have hL9:L<=9000000:=by omega
 repeat first | refine⟨rfl,?_⟩ | refine⟨_,rfl,?_⟩ | refine⟨lN,?_⟩ | refine⟨mO,?_⟩ | refine⟨mL,?_⟩ | refine⟨mI,?_⟩ | refine⟨lU,?_⟩ | refine⟨mC,?_⟩ | refine⟨lR,?_⟩
 refine uD (by omega) (by omega) hL (by decide) hf fun x y k l m1 hx hy hf1=>?_
 have gx:=mJ nm hx
 have gy:=mJ nm hy
 simp[Ks,sz];refine uM nm hx hy fun m2 k2=>?_;have hf2:=hf1.kn k2
 have ck:=tY k
 have cl:=tY l
 simp[Fx];refine⟨k,rfl,?_⟩;simp;rw[Co];refine dD (by omega) (by omega) hL9 (by decide) hf2 fun r m3 r0 r1 hf3=>?_
 repeat first | refine⟨rfl,?_⟩ | refine⟨_,rfl,?_⟩ | refine⟨lN,?_⟩ | refine⟨mO,?_⟩ | refine⟨mL,?_⟩ | refine⟨mI,?_⟩ | refine⟨lU,?_⟩ | refine⟨mC,?_⟩ | refine⟨lR,?_⟩
 refine⟨k,l,rfl,?_⟩;simp[Fp,bT,-List.map_map];refine kF (WS k l) [] none m3 (fX k l).1 (by simp) (fX k l).2 (fun z hz m5 k5 K hK=>?_) fun lo m4 lo1 lo2 k4=>?_
 ·simp[-List.map_map];refine lK hz r0 r1 (by decide) cl.1 fun m6 k6=>?_
  simp
  by_cases c:sg k l z r 0<1
  ·exact .inr ⟨c,hK _ _ k6⟩
  ·exact .inl ⟨by omega,hK _ _ k6⟩
 simp[Fv,bT,-List.map_map];refine kF (WS k l) [] none m4 (fX k l).1 (by simp) (fX k l).2 (fun z hz m5 k5 K hK=>?_) fun hi m5 hi1 hi2 k5=>?_
 ·simp[-List.map_map];refine lK hz r0 r1 (by decide) cl.1 fun m6 k6=>?_
  simp
  by_cases c:-1<sg k l z r 0
  ·exact .inr ⟨c,hK _ _ k6⟩
  ·exact .inl ⟨by omega,hK _ _ k6⟩
 simp[He,sz];simp[Eo,sz]
 repeat first | refine⟨rfl,?_⟩ | refine⟨_,rfl,?_⟩ | refine⟨lN,?_⟩ | refine⟨mO,?_⟩ | refine⟨mL,?_⟩ | refine⟨mI,?_⟩ | refine⟨lU,?_⟩ | refine⟨mC,?_⟩ | refine⟨lR,?_⟩
 simp[Fl];refine dD (by decide) (by decide) hL9 (by decide) ((hf3.kn k4).kn k5) fun v m7 v0 v1 hf7=>?_
 have o1:∀ (c:Int),(∀ s∈([Stp.two "strike" 3 1]:List (A 1)),SO 1 c 5 s):=fun c=>AllS.mem (P:=([Stp.two "strike" 3 1]:List (A 1))) ⟨⟨by decide,by decide,by decide,by decide,by decide⟩,trivial⟩
 have o2:∀ (c:Int),(∀ s∈([Stp.two "strike" 3 2]:List (A 1)),SO 1 c 5 s):=fun c=>AllS.mem (P:=([Stp.two "strike" 3 2]:List (A 1))) ⟨⟨by decide,by decide,by decide,by decide,by decide⟩,trivial⟩
 have fin2:∀ (xs:List PyData) (ps:List (List Str×List (A 1))),xs.length=2->ps.length<=3->(∀ p∈ps,p=(lo,[Stp.two "strike" 3 1])\/p=(hi,[Stp.two "strike" 3 2]))->R (.dat (.tuple [.tuple xs,cO 2 [Stp.nop "any" [.str x,.str y],Stp.told 0,Stp.told 1,Stp.cas 0 ps]])) m7:=fun xs ps hxs hps hp=>by
  refine h _ m7 ⟨xs,2,_,rfl,by omega,by omega,by decide,?_⟩ (hf7.mono (by decide))
  rw[hxs];refine⟨Nat.le_of_ble_eq_true rfl,AllS.mem (P:=([Stp.nop "any" [.str x,.str y],Stp.told 0,Stp.told 1,Stp.cas 0 ps]:List (A 2))) ⟨⟨by decide,Nat.le_of_ble_eq_true rfl,?_⟩,⟨by decide,by decide⟩,⟨by decide,by decide⟩,⟨by decide,by decide,hps,?_⟩,trivial⟩,?_⟩
  ·intro p hp;simp at hp;rcases hp with rfl | rfl
   ·exact .inl ⟨_,rfl,gx⟩
   ·exact .inl ⟨_,rfl,gy⟩
  ·intro p hp';rcases hp p hp' with rfl | rfl
   ·exact⟨lo1,lo2,Nat.le_of_ble_eq_true rfl,o1 _⟩
   ·exact⟨hi1,hi2,Nat.le_of_ble_eq_true rfl,o2 _⟩
  ·have:(ps.map fun p=>400+(p.2.map (WE 1)).sum).sum<=500*ps.length:=uO fun p hp'=>by
    rcases hp p hp' with rfl | rfl<;>exact Nat.le_of_ble_eq_true rfl
   show 200+(100+(100+((100+(ps.map fun p=>400+(p.2.map (WE 1)).sum).sum)+0)))<=4000
   omega
 by_cases c:v=0
 ·subst c;simp[PyData.canLay0,PyData.depth,PyData.eqv,sz,Dj];exact fin2 _ [(hi,[Stp.two "strike" 3 2]),(lo,[Stp.two "strike" 3 1]),(lo,[Stp.two "strike" 3 1])] rfl (by simp) (by intro p hp;simp at hp;rcases hp with rfl | rfl | rfl<;>first | exact .inl rfl | exact .inr rfl)
 ·simp[PyData.canLay0,PyData.depth,PyData.eqv,sz,c,Dj];exact fin2 _ [(lo,[Stp.two "strike" 3 1]),(hi,[Stp.two "strike" 3 2])] rfl (by simp) (by intro p hp;simp at hp;rcases hp with rfl | rfl<;>first | exact .inl rfl | exact .inr rfl)
end K29
namespace K29
open PySem PySem.Spec PyProof.Rows L2 DL K01
theorem rL:0<=sizeLine:=sz (by decide)
theorem sU:1<=sizeLine:=sz (by decide)
theorem rT:2<=sizeLine:=sz (by decide)
theorem pT:3<=sizeLine:=sz (by decide)
theorem sK:4<=sizeLine:=sz (by decide)
theorem qJ:5<=sizeLine:=sz (by decide)
theorem qV:6<=sizeLine:=sz (by decide)
theorem Av:∀ zs:List Str,PyData.depthAll (zs.map .str)<=1
 | []=>by simp[PyData.depthAll]
 | z::zs=>by
  have:=Av zs
  simp only[List.map_cons,PyData.depthAll,PyData.depth];omega
theorem yC{ts0:List (Str×Bool)}{m:Mu}{Q:List PyData->Mu->Prop}:∀ (ts:List (Str×Bool)) (acc:List Str) (o o1:Option D),(∀ t∈ts,t∈ts0)->(∀ z∈acc,z∈ts0.map (·.1))->ts.length+acc.length<=6->(∀ zs:List Str,zs.length<=6->(∀ z∈zs,z∈ts0.map (·.1))->Q (zs.map .str) m) ->
  bD (gT 2 (cD (gN 0) (cD (gN 1) eT))) (bQ (aI dB (aC 1) (aE (.str "stretch")))) (aC 0) ((ts.map fun t=>PyData.tuple [.str t.1,.str (kd t.2)]).map .dat) (acc.map .str) [o,o1] m Q
 | [],acc,o,o1,_,ha,hn,h=>by simpa[bD] using h acc (by simpa using hn) ha
 | t::ts,acc,o,o1,ht,ha,hn,h=>by
  have ht':=fun u hu=>ht u (List.mem_cons_of_mem _ hu)
  simp only[List.map_cons,bD]
  cases hk:t.2 with
  | false =>
   have ih:=yC (ts0:=ts0) ts acc (some (.dat (.str t.1))) (some (.dat (.str (kd false)))) ht' ha (by simp at hn ⊢;omega) h
   simp (decide:=true) [kd,PyData.canLay0,PyData.depth];simpa[kd] using ih
  | true =>
   have ih:=yC (ts0:=ts0) ts (acc++[t.1]) (some (.dat (.str t.1))) (some (.dat (.str (kd true)))) ht' (fun z hz=>by
    rcases List.mem_append.mp hz with q | q
    ·exact ha z q
    ·rw[List.mem_singleton.mp q];exact List.mem_map.mpr ⟨t,ht t List.mem_cons_self,rfl⟩) (by simp at hn ⊢;omega) h
   simp (decide:=true) [kd,PyData.canLay0,PyData.depth];exact⟨Nat.lt_of_lt_of_le (show acc.length<14 by simp at hn;omega) (sz (by decide)),by simpa[kd] using ih⟩
theorem Uo{r:Int}(h0:0<=r)(h1:r<2):∃ u:Int×Int,cA [PyData.tuple [.int 0,.int 1],.tuple [.int (-1),.int 2]] r=some (fq u):=by
 obtain⟨p,e,u,rfl⟩:=oF (xs:=[PyData.tuple [.int 0,.int 1],.tuple [.int (-1),.int 2]]) (P:=fun p=>∃ u:Int×Int,p=fq u) (r:=r) (by
  intro p hp;simp at hp;rcases hp with rfl | rfl
  ·exact⟨(0,1),rfl⟩
  ·exact⟨(-1,2),rfl⟩) h0 h1
 exact⟨u,e⟩
theorem j7:∀ ds m R,ds.length=rW.length->sC ds m R->Bp (EN R) (bY Cp ds) m:=by
 rintro ds m R hl ⟨a,ts,L,rfl,h3,h4,nm,hL,hT,h⟩;have hf:=Fed.refl hT
 have hL9:L<=9000000:=by omega
 simp[Bp,bT,-List.map_map];refine yC (ts0:=ts) ts [] none none (fun t ht=>ht) (by simp) (by simp;omega) fun zs z1 z2=>?_
 have gz:∀ z∈zs,iY z:=fun z hz=>by
  obtain⟨t,ht,rfl⟩:=List.mem_map.mp (z2 z hz);exact mJ nm (k:=t.2) ht
 have lz:=Lf (zs:=zs) fun z hz=>n8 (gz z hz)
 have dz:PyData.depth (.list (zs.map .str))<=100:=by
  have:=Av zs
  simp only[PyData.depth];omega
 have ev:PyData.eqv (.list (zs.map .str)) (.list [])=decide (zs=[]):=by
  cases zs<;>simp[PyData.eqv,PyData.eqvAll]
 have lz':PyData.canLay0 (.list (zs.map .str))=true:=by simpa[PyData.canLay0] using lz
 unfold Jd;simp[-List.map_map,lz',dz,ev,PyData.canLay0,PyData.canLayAll0,sz];refine⟨lz,?_⟩
 by_cases c:zs=[]
 ·refine .inr ⟨c,?_⟩;exact⟨a,ts,L,rfl,h3,h4,nm,hL,hT,fun p m' hp hf'=>h p m' hp (hf'.mono (by decide))⟩
 ·refine .inl ⟨c,?_⟩;have n0:0<zs.length:=by cases zs with | nil=>exact absurd rfl c | cons _ _=>simp
  simp[Gd,-List.map_map];refine dD (by omega) (by omega) hL9 (by decide) hf fun r m1 r0 r1 hf1=>?_
  obtain⟨z,hz,ez⟩:=zR r0 r1;refine⟨_,ez,?_⟩
  repeat first | refine⟨rfl,?_⟩ | refine⟨_,rfl,?_⟩ | refine⟨rL,?_⟩ | refine⟨sU,?_⟩ | refine⟨rT,?_⟩ | refine⟨pT,?_⟩ | refine⟨sK,?_⟩ | refine⟨qJ,?_⟩ | refine⟨qV,?_⟩
  refine dD (by decide) (by decide) hL9 (by decide) hf1 fun q m2 q0 q1 hf2=>?_
  obtain⟨u,hu⟩:=Uo q0 q1;refine⟨_,hu,?_⟩
  repeat first | refine⟨rfl,?_⟩ | refine⟨_,rfl,?_⟩ | refine⟨rL,?_⟩ | refine⟨sU,?_⟩ | refine⟨rT,?_⟩ | refine⟨pT,?_⟩ | refine⟨sK,?_⟩ | refine⟨qJ,?_⟩ | refine⟨qV,?_⟩
  repeat first | refine⟨rfl,?_⟩ | refine⟨_,rfl,?_⟩ | refine⟨rL,?_⟩ | refine⟨sU,?_⟩ | refine⟨rT,?_⟩ | refine⟨pT,?_⟩ | refine⟨sK,?_⟩ | refine⟨qJ,?_⟩ | refine⟨qV,?_⟩
  refine h _ m2 ⟨[_],1,[Stp.nop "long" [.str z],Stp.told 0,Stp.two "add" 0 1],rfl,by simp,by simp,by decide,kK (v:=250) (Nat.le_of_ble_eq_true rfl) ⟨Sx (by decide) (Nat.le_of_ble_eq_true rfl) ?_ (by decide),fG (by decide) (by simp) (by decide),jL (by decide) (by decide) (by decide) (by decide) (by decide) (by decide),trivial⟩ (Nat.le_of_ble_eq_true rfl)⟩ (hf2.mono (by decide))
  intro p hp;simp at hp;subst hp;exact .inl ⟨_,rfl,gz z hz⟩
theorem Hn{m:Mu}{Q:List PyData->Mu->Prop}:∀ (ts:List (Str×Bool)) (acc:List PyData) (o o1:Option D),ts.length+acc.length<=6->Q (acc++ts.map fun t=>.str t.1) m ->
  bD (gT 2 (cD (gN 0) (cD (gN 1) eT))) cC (aC 0) ((ts.map fun t=>PyData.tuple [.str t.1,.str (kd t.2)]).map .dat) acc [o,o1] m Q
 | [],acc,o,o1,hn,h=>by simpa[bD] using h
 | t::ts,acc,o,o1,hn,h=>by
  have ih:=Hn (Q:=Q) (m:=m) ts (acc++[.str t.1]) (some (.dat (.str t.1))) (some (.dat (.str (kd t.2)))) (by simp at hn ⊢;omega) (by simpa using h)
  simp only[List.map_cons,bD];simp;exact⟨Nat.lt_of_lt_of_le (show acc.length<14 by simp at hn;omega) (sz (by decide)),by simpa using ih⟩
theorem Fed.but{b n:Int}{m0 m m':Mu}{a c:Addr}{x:Cel}(h:Fed b n m0 m a)(hc:m c=none)(k:∀ b,b≠c->(aY m c x b).isSome=true->m' b=aY m c x b):Fed b n m0 m' a:=by
 have ha:=h.tp
 have ne:a≠c:=by rintro rfl;rw[hc]at ha;cases ha
 have e:∀ b,b≠c->(m b).isSome=true->m' b=m b:=fun b hb hs=>by
  have:=k b hb (by rw[bM hb];exact hs)
  rw[this,bM hb]
 refine⟨?_,fun y hy hs=>?_⟩
 ·obtain⟨ns,i,j,t,q,r⟩:=h.1;exact⟨ns,i,j,t,by rw[e a ne ha];exact q,r⟩
 ·have q:=h.2 y hy hs
  have ny:y≠c:=by rintro rfl;rw[hc]at q;rw[<- q]at hs;cases hs
  rw[e y ny (by rw[q];exact hs),q]
theorem Bu{α:Type}{g:α->PyData}{xs:List α}{a c:Addr}{b L:Int}{m0 m:Mu}(K:PyData->Mu->Prop)(hL:L<=8000000)(hb:b<=100000)(hf:Fed b L m0 m a)(ca:c≠a)(c0:m0 c=none)(e:m c=some (.l (xs.map g)))(x0:0<xs.length)(x1:xs.length<=100)
  (h:∀ t∈xs,∀ (ys:List α) m',ys.length+1=xs.length->(∀ y∈ys,y∈xs)->Fed (b+1) L m0 m' a->m' c=some (.l (ys.map g))->(∀ d x,d≠a->d≠c->m d=some x->m' d=some x)->K (g t) m') :
  (∃ ys,m c=some (.l ys))/\∃ xs',m c=some (.l xs')/\bL [.cel a,.dat (.int xs'.length)] m fun x m2=>∃ (xs:List PyData) (i:Nat),x=.dat (.int i)/\m2 c=some (.l xs)/\i<1000000/\∃ p,xs[i]?=some p/\K p (aY m2 c (.l (xs.eraseIdx i))):=by
 refine⟨⟨_,e⟩,_,e,?_⟩;refine tG (by rw[List.length_map];omega) (by rw[List.length_map];omega) (by omega) hb hf fun r m1 r0 r1 hf1 kc=>?_
 rw[List.length_map]at r1;obtain⟨i,rfl⟩:∃ i:Nat,r=i:=⟨r.toNat,by omega⟩
 have hi:i<xs.length:=by omega
 refine⟨xs.map g,i,rfl,kc c _ ca e,by omega,g xs[i],by rw[List.getElem?_map,List.getElem?_eq_getElem hi];rfl,?_⟩
 have ee:(xs.map g).eraseIdx i=(xs.eraseIdx i).map g:=by
  rw[List.eraseIdx_eq_take_drop_succ,List.eraseIdx_eq_take_drop_succ,List.map_append,List.map_take,List.map_drop]
 rw[ee];refine h _ (List.getElem_mem hi) (xs.eraseIdx i) _ (by rw[List.length_eraseIdx];split<;>omega) (fun y hy=>List.mem_of_mem_eraseIdx hy) (hf1.upd ca c0) bF fun d x da dc hx=>by rw[bM dc];exact kc d x da hx
theorem K8:∀ ds m R,ds.length=qM.length->rR ds m R->xL (EN R) (bY xM ds) m:=by
 rintro ds m R hl ⟨a,ts,L,rfl,h3,h4,nm,hL,hT,h⟩;have hf:=Fed.refl hT
 have hL9:L<=9000000:=by omega
 simp[xL,bT,-List.map_map];refine Hn ts [] none none (by simp;omega) fun c hc=>?_
 have ca:=(hf.new hc).1
 have c0:=(hf.new hc).2
 have hf1:=hf.upd (x:=.l (ts.map fun t=>.str t.1)) ca c0
 have e1:(aY m c (.l (ts.map fun t=>PyData.str t.1))) c=some (.l (ts.map fun t=>.str t.1)):=bF
 simp only[List.nil_append]
 generalize aY m c (.l (ts.map fun t=>PyData.str t.1))=m1 at hf1 e1 ⊢
 simp[Md,-List.map_map];refine Bu (g:=fun t:Str×Bool=>PyData.str t.1) (K:=fun p m'=>xN (EN R) [some (.cel a),some (.dat (TH ts)),some (.cel c),some (.dat p),none,none,none,none,none,none,none,none,none,none] m') hL (by decide) hf1 ca c0 e1 (by omega) (by omega) fun t1 ht1 ys m2 yl yt hf2 e2 _=>?_
 simp[xN,-List.map_map];refine Bu (g:=fun t:Str×Bool=>PyData.str t.1) (K:=fun p m'=>Fc (EN R) [some (.cel a),some (.dat (TH ts)),some (.cel c),some (.dat (.str t1.1)),some (.dat p),none,none,none,none,none,none,none,none,none] m') hL (by decide) hf2 ca c0 e2 (by omega) (by omega) fun t2 ht2 zs m3 zl zt hf3 e3 _=>?_
 refine⟨_,rfl,_,rfl,_,rfl,_,e3,rfl,?_⟩;refine tG (by rw[List.length_map];omega) (by rw[List.length_map];omega) hL9 (by decide) hf3 fun r m4 r0 r1 hf4 kc=>?_
 rw[List.length_map]at r1;obtain⟨i,rfl⟩:∃ i:Nat,r=i:=⟨r.toNat,by omega⟩
 have hi:i<zs.length:=by omega
 obtain⟨t3,et3⟩:∃ t3,t3=zs[i]:=⟨_,rfl⟩;have ht3:t3∈ts:=yt _ (zt _ (by rw[et3];exact List.getElem_mem hi))
 have ht2:t2∈ts:=yt _ ht2
 refine⟨_,.str t3.1,kc c _ ca e3,kB (by rw[List.getElem?_map,List.getElem?_eq_getElem hi,et3];rfl),?_⟩
 refine⟨_,rfl,_,rfl,_,rfl,_,rfl,_,rfl,z3,rfl,ts,[t1,t2,t3],rfl,by omega,nm.1,by simp,by simp[ht1,ht2,ht3],fun m5 k5=>?_⟩
 have hf5:=hf4.kn k5
 obtain⟨x1,k⟩:=t1;obtain⟨x2,l⟩:=t2;obtain⟨x3,n⟩:=t3;simp[Kl];refine⟨k,l,rfl,?_⟩;refine⟨_,rfl,_,rfl,_,rfl,rfl,?_⟩;rw[List.length_map];have w1:=yF k l
 have w2:=lH k l
 refine dD (by omega) (by omega) hL9 (by decide) hf5 fun r m6 r0 r1 hf6=>?_
 obtain⟨x,hx,ex⟩:=zR r0 r1;refine⟨_,ex,?_⟩;simp[Ot];refine⟨l,n,rfl,?_⟩;refine⟨_,rfl,_,rfl,_,rfl,rfl,?_⟩;rw[List.length_map];have w3:=yF l n
 have w4:=lH l n
 refine dD (by omega) (by omega) hL9 (by decide) hf6 fun r m7 r0 r1 hf7=>?_
 obtain⟨y,hy,ey⟩:=zR r0 r1;refine⟨_,ey,?_⟩;simp[Ni];intro cc hcc;refine⟨cc,k,l,n,x,y,rfl,bF,hx,hy,fun fs m8 f1 f2 k8=>?_⟩;have hf8:=hf7.but hcc k8
 repeat first | refine⟨rfl,?_⟩ | refine⟨_,rfl,?_⟩ | refine⟨rL,?_⟩ | refine⟨sU,?_⟩ | refine⟨rT,?_⟩ | refine⟨pT,?_⟩ | refine⟨sK,?_⟩ | refine⟨qJ,?_⟩ | refine⟨qV,?_⟩
 refine⟨k,n,rfl,?_⟩;simp[Dz,bT,-List.map_map];refine kF (WS k n) [] none m8 (fX k n).1 (by simp) (fX k n).2 (fun z hz m9 k9 K hK=>?_) fun rs m9 s1 s2 k9=>?_
 ·simp[-List.map_map];exact⟨fs,rfl,Of (hK _ _ Kn.refl) (hK _ _ Kn.refl)⟩
 have hf9:=(hf8.kn k9).mono (c:=10) (by decide)
 have lr:=Lf (zs:=rs) fun z hz=>nE z (s2 z hz)
 have dr:PyData.depth (.tuple (rs.map .str))<=100:=by
  have:=Av rs
  simp only[PyData.depth];omega
 simp[Na,-List.map_map,dr,R5,PyData.canLay0,PyData.canLayAll0,lr,sz]
 by_cases cr:rs=[]
 ·exact .inr ⟨cr,h _ m9 (.inl rfl) hf9⟩
 ·refine .inl ⟨cr,?_⟩
  repeat first | refine⟨rfl,?_⟩ | refine⟨_,rfl,?_⟩ | refine⟨rL,?_⟩ | refine⟨sU,?_⟩ | refine⟨rT,?_⟩ | refine⟨pT,?_⟩ | refine⟨sK,?_⟩ | refine⟨qJ,?_⟩ | refine⟨qV,?_⟩
  exact h _ m9 (.inr ⟨_,1,[Stp.told 1,Stp.told 2,Stp.two "behind" 0 1,Stp.told 0,Stp.two "both" 3 2],rfl,by simp,by simp,by decide,kK (v:=250) (Nat.le_of_ble_eq_true rfl) ⟨fG (by decide) (by simp) (by decide),fG (by decide) (by simp) (by decide),jL (by decide) (by decide) (by decide) (by decide) (by decide) (by decide),fG (by decide) (by simp) (by decide),jL (by decide) (by decide) (by decide) (by decide) (by decide) (by decide),trivial⟩ (Nat.le_of_ble_eq_true rfl)⟩) hf9
end K29
namespace K29
open PySem PySem.Spec PyProof.Rows L2 DL K01
theorem jE:0<=sizeLine:=sz (by decide)
theorem jH:1<=sizeLine:=sz (by decide)
theorem jN:2<=sizeLine:=sz (by decide)
theorem iV:3<=sizeLine:=sz (by decide)
theorem jM:4<=sizeLine:=sz (by decide)
theorem jQ:5<=sizeLine:=sz (by decide)
theorem jF:6<=sizeLine:=sz (by decide)
theorem Em:∀ ts:List (Str×Bool),ts.length<=(dZ ts).length
 | []=>Nat.le_refl _
 | t::ts=>by
  have:=Em ts
  simp only[dZ,List.length_cons,List.length_append];omega
theorem BI{r:Int}(h0:0<=r)(h1:r<4):∃ u:Int×Int,cA [PyData.tuple [.int 0,.int 1],.tuple [.int (-1),.int 1],.tuple [.int (-1),.int 3],.tuple [.int (-7),.int 2]] r=some (fq u)/\0<u.2/\Bd 20 u.1/\Bd 20 u.2:=by
 obtain⟨p,e,u,rfl,q⟩:=oF (xs:=[PyData.tuple [.int 0,.int 1],.tuple [.int (-1),.int 1],.tuple [.int (-1),.int 3],.tuple [.int (-7),.int 2]]) (P:=fun p=>∃ u:Int×Int,p=fq u/\0<u.2/\Bd 20 u.1/\Bd 20 u.2) (r:=r) (by
  intro p hp;simp at hp;rcases hp with rfl | rfl | rfl | rfl
  ·exact⟨(0,1),rfl,by decide,iI,iI⟩
  ·exact⟨(-1,1),rfl,by decide,iI,iI⟩
  ·exact⟨(-1,3),rfl,by decide,iI,iI⟩
  ·exact⟨(-7,2),rfl,by decide,iI,iI⟩) h0 h1
 exact⟨u,e,q⟩
theorem T8{x y:Int×Int}{p:Nat}{m:Mu}{R:DK}(px:0<x.2)(py:0<y.2)(hp:p<=500)(x1:Bd p x.1)(x2:Bd p x.2)(y1:Bd 20 y.1)(y2:Bd 20 y.2)(h:∀ u:Int×Int,0<u.2->Bd (p+21) u.1->Bd (p+21) u.2->R (.dat (fq u)) m):oC [.dat (fq x),.dat (fq y),I (-1)] m R:=by
 refine⟨x,y,-1,p,20,rfl,px,py,.inr rfl,by omega,x1,x2,y1,y2,?_⟩
 have pb:0<x.2*y.2:=Int.mul_pos px py
 obtain⟨a,d,g,e,g0,e1,e2,d0⟩:=y3 (t:=x.1*y.2 + -1*y.1*x.2) (b:=x.2*y.2) pb;rw[e];have bt:Bd (p+21) (x.1*y.2 + -1*y.1*x.2):=by
  have:=((x1.mul y2).sub ((x2.mul y1)))
  rw[show x.1*y.2 + -1*y.1*x.2=x.1*y.2-x.2*y.1 by rw[Int.mul_comm x.2 y.1,Int.neg_mul,Int.one_mul,Int.neg_mul,Int.sub_eq_add_neg]]
  exact this.mono (by omega)
 exact h (a,d) d0 (Bd.part e1 g0 bt) (Bd.part e2 g0 ((x2.mul y2).mono (by omega)))
theorem Eb{R:DK}{m:Mu}{E:Ends2}{d0 d1 d2 d3 d4 d5 d8 d9 d10 d11:Option D}:∀ (us:List (Int×Int)) (u:Int×Int) (p:Nat) (o7:Option D),(∀ u∈us,0<u.2/\Bd 20 u.1/\Bd 20 u.2)->0<u.2->Bd p u.1->Bd p u.2->p+21*us.length<=500->(∀ (u:Int×Int) o7,E.nx [d0,d1,d2,d3,d4,d5,some (.dat (fq u)),o7,d8,d9,d10,d11] m) ->
  cH (gN 7) zO E ((us.map fq).map .dat) [d0,d1,d2,d3,d4,d5,some (.dat (fq u)),o7,d8,d9,d10,d11] m
 | [],u,p,o7,_,_,_,_,_,h=>by simpa[cH] using h u o7
 | v::us,u,p,o7,hu,u0,u1,u2,hp,h=>by
  simp only[List.map_cons,cH]
  generalize hG:cH _ zO _ ((us.map _).map .dat)=G
  repeat first | refine⟨rfl,?_⟩ | refine⟨_,rfl,?_⟩ | refine⟨jE,?_⟩ | refine⟨jH,?_⟩ | refine⟨jN,?_⟩ | refine⟨iV,?_⟩ | refine⟨jM,?_⟩ | refine⟨jQ,?_⟩ | refine⟨jF,?_⟩
  obtain⟨v0,v1,v2⟩:=hu v List.mem_cons_self;refine T8 u0 v0 (by simp at hp;omega) u1 u2 v1 v2 fun w w0 w1 w2=>?_
  rw[<- hG];exact Eb (R:=R) us w (p+21) _ (fun t ht=>hu t (List.mem_cons_of_mem _ ht)) w0 w1 w2 (by simp at hp ⊢;omega) h
theorem Db{xs:List PyData}{r:Int}(h0:0<=r)(h1:r<(xs.length:Int)):∃ p,cA xs r=some p:=by
 obtain⟨p,e,_⟩:=oF (P:=fun _=>True) (fun _ _=>trivial) h0 h1
 exact⟨p,e⟩
theorem yW{E:Ends2}{o0 o1 o2 o3 o5 o6 o7 o8 o9 o10:Option D}{k:Int}{xs:List PyData}{m:Mu}(h2:IntMulOk 2 k)(hl:xs.length<=98)(h:E.nx [o0,o1,o2,o3,some (I k),o5,o6,o7,o8,o9,o10,some (.dat (.list (xs++[.tuple [.str "told",.int k],.tuple [.str "add",.int (2*k-2),.int (2*k-1)]])))] m) :
  vG E [o0,o1,o2,o3,some (I k),o5,o6,o7,o8,o9,o10,some (.dat (.list xs))] m :=
 ⟨_,rfl,_,rfl,_,rfl,z2,_,rfl,h2,_,rfl,h2,_,rfl,z3,_,rfl,z2,sz (show xs.length+2<=1000 by omega),h⟩
theorem J0{a c e:Addr}{ts:List (Str×Bool)}{L:Int}{N:Nat}{m m4:Mu}{ys:List (Str×Bool)}{o4:Option D}{R:DK}(hN2:N=2\/N=3)(hL:L<=8000000)(ey:m4 e=some (.l (ys.map dQ)))(yl:ys.length=N)(ea:e≠a)(e0:m e=none)(hf4:Fed (0+1+N) L m m4 a)(h:∀ (p:PyData) (m':Mu),Cl p->Fed 40 L m m' a->R (.dat p) m') :
  Eu (EN R) [some (.cel a),some (.dat (TH ts)),some (.cel c),some (.cel e),o4,none,none,none,none,none,none,none] m4:=by
 have hL9:L<=9000000:=by omega
 repeat first | refine⟨rfl,?_⟩ | refine⟨_,rfl,?_⟩ | refine⟨jE,?_⟩ | refine⟨jH,?_⟩ | refine⟨jN,?_⟩ | refine⟨iV,?_⟩ | refine⟨jM,?_⟩ | refine⟨jQ,?_⟩ | refine⟨jF,?_⟩
 refine⟨_,ey,?_⟩;simp[yl];refine⟨by omega,by omega,?_⟩
 obtain⟨M,hM⟩:∃ M:Nat,N-1=M:=⟨_,rfl⟩;rw[hM];have hM2:M+1=N:=by omega
 refine Kj (fun i acc d m'=>∃ us:List (Int×Int),us.length=i/\acc=us.map fq/\(∀ u∈us,0<u.2/\Bd 20 u.1/\Bd 20 u.2)/\Fed (0+1+N+2*i) L m m' a/\m' e=some (.l (ys.map dQ))/\∃ o,d=[o,some (.cel a)]) ?_ ?_ _ _ _ ⟨[],rfl,rfl,by simp,by simpa using hf4,ey,none,rfl⟩
 ·rintro acc d m5 ⟨us,ul,rfl,hu,hf5,ey5,_⟩
  repeat first | refine⟨rfl,?_⟩ | refine⟨_,rfl,?_⟩ | refine⟨jE,?_⟩ | refine⟨jH,?_⟩ | refine⟨jN,?_⟩ | refine⟨iV,?_⟩ | refine⟨jM,?_⟩ | refine⟨jQ,?_⟩ | refine⟨jF,?_⟩
  refine tG (by decide) (by decide) hL9 (by omega) hf5 fun r m6 r0 r1 hf6 kc=>?_
  have ey6:=kc e _ ea ey5
  obtain⟨u,eu,u0,u1,u2⟩:=BI r0 r1;refine⟨_,eu,?_⟩;simp[Ev,-List.map_map];refine Eb (R:=R) us u 20 none hu u0 u1 u2 (by omega) fun v o7=>?_
  repeat first | refine⟨rfl,?_⟩ | refine⟨_,rfl,?_⟩ | refine⟨jE,?_⟩ | refine⟨jH,?_⟩ | refine⟨jN,?_⟩ | refine⟨iV,?_⟩ | refine⟨jM,?_⟩ | refine⟨jQ,?_⟩ | refine⟨jF,?_⟩
  refine⟨_,ey6,?_⟩;simp[yl];refine tG (by omega) (by omega) hL9 (by omega) hf6 fun q m7 q0 q1 hf7 kc=>?_
  have ey7:=kc e _ ea ey6
  repeat first | refine⟨rfl,?_⟩ | refine⟨_,rfl,?_⟩ | refine⟨jE,?_⟩ | refine⟨jH,?_⟩ | refine⟨jN,?_⟩ | refine⟨iV,?_⟩ | refine⟨jM,?_⟩ | refine⟨jQ,?_⟩ | refine⟨jF,?_⟩
  intro s hs;have s0:=(hf7.new hs).2
  have sa:=(hf7.new hs).1
  have se:e≠s:=by rintro rfl;rw[ey7]at hs;cases hs
  repeat first | refine⟨rfl,?_⟩ | refine⟨_,rfl,?_⟩ | refine⟨jE,?_⟩ | refine⟨jH,?_⟩ | refine⟨jN,?_⟩ | refine⟨iV,?_⟩ | refine⟨jM,?_⟩ | refine⟨jQ,?_⟩ | refine⟨jF,?_⟩
  refine⟨_,by rw[bM se];exact ey7,?_⟩
  simp[yl];refine⟨by omega,?_⟩
  refine sR (fun i d m'=>∃ (xs:List PyData) (o4 o7 o10:Option D),xs.length=i/\m' s=some (.l xs)/\m' e=some (.l (ys.map dQ))/\Fed (0+1+N+2*M+1+1) L m m' a/\d=[some (.cel a),some (.dat (TH ts)),some (.cel c),some (.cel e),o4,some (.dat (.list (us.map fq))),some (.dat (fq v)),o7,some (I q),some (.cel s),o10,none]) ?_ ?_ _ _ ⟨[],_,_,_,rfl,bF,by rw[bM se];exact ey7,hf7.upd sa s0,rfl⟩
  ·rintro d m8 ⟨xs,o4,o7,o10,xl,es,ey8,hf8,rfl⟩
   repeat first | refine⟨rfl,?_⟩ | refine⟨_,rfl,?_⟩ | refine⟨jE,?_⟩ | refine⟨jH,?_⟩ | refine⟨jN,?_⟩ | refine⟨iV,?_⟩ | refine⟨jM,?_⟩ | refine⟨jQ,?_⟩ | refine⟨jF,?_⟩
   repeat first | refine⟨rfl,?_⟩ | refine⟨_,rfl,?_⟩ | refine⟨jE,?_⟩ | refine⟨jH,?_⟩ | refine⟨jN,?_⟩ | refine⟨iV,?_⟩ | refine⟨jM,?_⟩ | refine⟨jQ,?_⟩ | refine⟨jF,?_⟩
   refine⟨_,ey8,?_⟩;simp[yl];refine⟨by omega,?_⟩
   have hf9:=hf8.mono (c:=40) (by omega)
   rcases hN2 with rfl | rfl
   ·show cH (gN 4) vG _ [I 1] _ _
    refine yW (k:=1) (eR (eZ (by decide) (by decide))) (Nat.le_of_ble_eq_true rfl) ?_
    exact⟨_,rfl,_,es,_,rfl,_,rfl,z2,h _ m8 ⟨xs,1,[Stp.told 0,Stp.told 1,Stp.two "add" 0 1],rfl,by omega,by omega,by decide,kK (v:=250) (Nat.le_of_ble_eq_true rfl) ⟨fG (by decide) (by omega) (by decide),fG (by decide) (by omega) (by decide),jL (by decide) (by decide) (by decide) (by decide) (by decide) (by decide),trivial⟩ (Nat.le_of_ble_eq_true rfl)⟩ hf9⟩
   ·show cH (gN 4) vG _ [I 1,I 2] _ _
    refine yW (k:=1) (eR (eZ (by decide) (by decide))) (Nat.le_of_ble_eq_true rfl) ?_
    refine yW (k:=2) (eR (eZ (by decide) (by decide))) (Nat.le_of_ble_eq_true rfl) ?_
    exact⟨_,rfl,_,es,_,rfl,_,rfl,z2,h _ m8 ⟨xs,1,[Stp.told 0,Stp.told 1,Stp.two "add" 0 1,Stp.told 2,Stp.two "add" 2 3],rfl,by omega,by omega,by decide,kK (v:=250) (Nat.le_of_ble_eq_true rfl) ⟨fG (by decide) (by omega) (by decide),fG (by decide) (by omega) (by decide),jL (by decide) (by decide) (by decide) (by decide) (by decide) (by decide),fG (by decide) (by omega) (by decide),jL (by decide) (by decide) (by decide) (by decide) (by decide) (by decide),trivial⟩ (Nat.le_of_ble_eq_true rfl)⟩ hf9⟩
  ·rintro i hi K hK d m8 ⟨xs,o4,o7,o10,xl,es,ey8,hf8,rfl⟩;simp[Js,-List.map_map];have yn:ys.map dQ≠[]:=by intro q;have:=congrArg List.length q;simp at this;subst this;simp at yl;omega
   have pN:(0:Int)<(ys.map dQ).length:=by rw[List.length_map];omega
   obtain⟨p1,hp1⟩:=Db (xs:=ys.map dQ) (Int.fmod_nonneg_of_pos ((i:Int)+1) pN) (Int.fmod_lt_of_pos _ pN);refine⟨_,ey8,yn,_,ey8,p1,hp1,?_⟩;obtain⟨p2,hp2⟩:=Db (xs:=us.map fq++[fq v]) (r:=(i:Int)) (by omega) (by simp;omega)
   obtain⟨p3,hp3⟩:=Db (xs:=ys.map dQ) (r:=(i:Int)) (by omega) (by rw[List.length_map];omega)
   simp[Ix,-List.map_map];refine⟨sz (by decide),sz (by omega),p2,hp2,?_⟩
   simp[Mg,-List.map_map];refine⟨⟨_,es⟩,_,ey8,p3,hp3,rfl,rfl,by simp[PyData.depth],sz (by decide),_,es,Nat.lt_of_lt_of_le (show _<10 by omega) (sz (by decide)),?_⟩
   exact hK _ _ ⟨_,_,_,_,by simp;omega,bF,by rw[bM se];exact ey8,hf8.upd sa s0,rfl⟩
 ·rintro i acc d m5 K hi ⟨us,ul,rfl,hu,hf5,ey5,o,rfl⟩ hK;simp;refine Vu hL (by omega) hf5 fun x m6 x0 _ x1 x2 hf6 kc=>?_
  simp;refine⟨Nat.lt_of_lt_of_le (show _<10 by omega) (sz (by decide)),?_⟩
  refine hK _ _ _ ⟨us++[x],by simp;omega,by simp,?_,?_,kc e _ ea ey5,_,rfl⟩
  ·intro u hu';rcases List.mem_append.mp hu' with q | q
   ·exact hu u q
   ·rw[List.mem_singleton.mp q];exact⟨x0,x1,x2⟩
  ·rwa [show(0:Int)+1+N+2*((i+1:Nat):Int)=0+1+N+2*(i:Int)+2 by omega]
theorem Xq:∀ ds m R,ds.length=nK.length->mD ds m R->Bc (EN R) (bY zV ds) m:=by
 rintro ds m R hl ⟨a,ts,L,rfl,h3,h4,nm,hL,hT,h⟩;have hf:=Fed.refl hT
 have hL9:L<=9000000:=by omega
 have ge:=Em ts
 have le:=xT ts
 simp[Bc];refine⟨ts,rfl,by omega,fun c m1 hc k1 ec=>?_⟩
 have hf1:=hf.kn k1
 have ca:=(hf.new hc).1
 repeat first | refine⟨rfl,?_⟩ | refine⟨_,rfl,?_⟩ | refine⟨jE,?_⟩ | refine⟨jH,?_⟩ | refine⟨jN,?_⟩ | refine⟨iV,?_⟩ | refine⟨jM,?_⟩ | refine⟨jQ,?_⟩ | refine⟨jF,?_⟩
 intro e he;have e0:m e=none:=k1.none he
 have ea:=(hf.new e0).1
 have ce:c≠e:=by rintro rfl;rw[ec]at he;cases he
 have hf2:=hf1.upd (x:=.l []) ea e0
 have ec2:(aY m1 e (.l [])) c=some (.l ((dZ ts).map dQ)):=by rw[bM ce];exact ec
 have ee2:(aY m1 e (.l [])) e=some (.l []):=bF
 generalize aY m1 e (.l [])=m2 at hf2 ec2 ee2 ⊢
 simp[Ez];refine⟨_,ec2,?_⟩;refine tG (by decide) (by decide) hL9 (by decide) hf2 fun r m3 r0 r1 hf3 kc=>?_
 have ec3:=kc c _ ca ec2
 have ee3:=kc e _ ea ee2
 obtain⟨N,hN,hN2⟩:∃ N:Nat,(if 2+r<((dZ ts).map dQ).length then 2+r else (((dZ ts).map dQ).length:Int))=N/\(N=2\/N=3):=by
  rw[List.length_map]
  split
  ·exact⟨(2+r).toNat,by omega,by omega⟩
  ·exact⟨(dZ ts).length,rfl,by omega⟩
 show ∃ j,_
 refine⟨_,rfl,?_⟩;rw[hN];refine⟨by omega,by omega,?_⟩
 rw[Int.toNat_natCast];refine sR (fun i d m'=>∃ (xs ys:List (Str×Bool)) (o4:Option D),m' c=some (.l (xs.map dQ))/\m' e=some (.l (ys.map dQ))/\ys.length=i/\xs.length+i=(dZ ts).length/\Fed (0+1+i) L m m' a/\d=[some (.cel a),some (.dat (TH ts)),some (.cel c),some (.cel e),o4,none,none,none,none,none,none,none]) ?_ ?_ _ _ ⟨dZ ts,[],none,ec3,ee3,rfl,rfl,by simpa using hf3,rfl⟩
 ·rintro d m4 ⟨xs,ys,o4,_,ey,yl,_,hf4,rfl⟩;exact J0 hN2 hL ey yl ea e0 hf4 h
 ·rintro i hi K hK d m4 ⟨xs,ys,o4,ex,ey,yl,xl,hf4,rfl⟩;simp[Hq];refine⟨⟨_,ey⟩,?_⟩;refine Bu (g:=dQ) (K:=fun p m'=>∃ xs,m' e=some (.l xs)/\xs.length<sizeLine/\K [some (.cel a),some (.dat (TH ts)),some (.cel c),some (.cel e),some (.dat (.int i)),none,none,none,none,none,none,none] (aY m' e (.l (xs++[p])))) hL (by omega) hf4 ca (by exact hc) ex (by omega) (by omega) fun t ht zs m5 zl zt hf5 e5 k5=>?_
  refine⟨_,k5 e _ ea (Ne.symm ce) ey,Nat.lt_of_lt_of_le (show _<10 by rw[List.length_map];omega) (sz (by decide)),?_⟩
  refine hK _ _ ⟨zs,ys++[t],_,by rw[bM ce];exact e5,by rw[bF];simp,by simp;omega,by omega,?_,rfl⟩
  have:=hf5.upd (x:=.l (ys.map dQ++[dQ t])) ea e0
  rwa [show(0:Int)+1+((i+1:Nat):Int)=0+1+(i:Int)+1 by omega]
theorem nN{b L:Int}{ts:List (Str×Bool)}{a:Addr}{m0 m:Mu}{R:DK}{c:Int}(h3:3<=ts.length)(h4:ts.length<=4)(nm:Nm (ts.map (·.1)))(hL:L+c<=8000000)(hf:Fed c L m0 m a)(h:∀ p m',Cl p->Fed (c+b) L m0 m' a->R (.dat p) m'):mF b 8000000 [.cel a,.dat (TH ts)] m R :=
 ⟨a,ts,L+c,rfl,h3,h4,nm,hL,hf.1,fun p m' hp hf'=>h p m' hp (hf.trans hf')⟩
theorem j3:∀ ds m R,ds.length=pX.length->qK ds m R->Ax (EN R) (bY Cj ds) m:=by
 rintro ds m R hl ⟨a,ts,L,rfl,h3,h4,nm,hL,hT,h⟩;have hf:=Fed.refl hT
 have fin:∀ c p m',Cl p->Fed c L m m' a->c<=100->R (.dat p) m':=fun c p m' hp hf' hc=>h p m' hp (hf'.mono hc)
 simp[Ax];refine dD (by decide) (by decide) (by omega) (by decide) hf fun r m1 r0 r1 hf1=>?_
 have hr:r=0\/r=1\/r=2\/r=3\/r=4\/r=5:=by omega
 rcases hr with rfl | rfl | rfl | rfl | rfl | rfl
 ·simp[mT,PyData.canLay0,PyData.depth,PyData.eqv];exact nN h3 h4 nm (by omega) hf1 fun p m' hp hf'=>fin _ p m' hp hf' (by decide)
 ·simp[mT,mY,PyData.canLay0,PyData.depth,PyData.eqv];exact nN h3 h4 nm (by omega) hf1 fun p m' hp hf'=>fin _ p m' hp hf' (by decide)
 ·simp[mT,mY,sA,PyData.canLay0,PyData.depth,PyData.eqv];exact nN h3 h4 nm (by omega) hf1 fun p m' hp hf'=>fin _ p m' hp hf' (by decide)
 ·simp[mT,mY,sA,vD,PyData.canLay0,PyData.depth,PyData.eqv];exact nN h3 h4 nm (by omega) hf1 fun p m' hp hf'=>fin _ p m' hp hf' (by decide)
 ·simp[mT,mY,sA,vD,wQ,PyData.canLay0,PyData.depth,PyData.eqv];refine⟨a,ts,L+(0+1),rfl,h3,h4,nm,by omega,hf1.1,fun p m2 hp hf2'=>?_⟩
  have hf2:=hf1.trans hf2'
  repeat first | refine⟨rfl,?_⟩ | refine⟨_,rfl,?_⟩ | refine⟨jE,?_⟩ | refine⟨jH,?_⟩ | refine⟨jN,?_⟩ | refine⟨iV,?_⟩ | refine⟨jM,?_⟩ | refine⟨jQ,?_⟩ | refine⟨jF,?_⟩
  rcases hp with rfl | hp
  ·simp;exact nN h3 h4 nm (by omega) hf2 fun p m' hp hf'=>fin _ p m' hp hf' (by decide)
  ·have hp':=hp
   obtain⟨xs,n,P,rfl,_⟩:=hp';simp;exact fin _ _ m2 hp hf2 (by decide)
 ·simp[mT,mY,sA,vD,wQ,Ib,PyData.canLay0,PyData.depth,PyData.eqv];exact nN h3 h4 nm (by omega) hf1 fun p m' hp hf'=>fin _ p m' hp hf' (by decide)
end K29
namespace K29
open PySem PySem.Spec PyProof.Rows L2 DL K01
theorem Lx:∀ (n:Nat) (j k:Int) (s:A n),SH n id k (SH n id j s)=SH n id (j+k) s
 | 0,_,_,e=>nomatch e
 | n+1,j,k,s=>by
  cases s with
  | told i=>rfl
  | one w i r=>exact congrArg (fun x=>Stp.one w x r) (Int.add_assoc ..)
  | two w i l=>exact(congrArg (fun x=>Stp.two w x (l+j+k)) (Int.add_assoc ..)).trans (congrArg (fun x=>Stp.two w (i+(j+k)) x) (Int.add_assoc ..))
  | nop w r=>rfl
  | cas i ps =>
   show Stp.cas (i+j+k) ((ps.map fun p=>(p.1,p.2.map (SH n id j))).map fun p=>(p.1,p.2.map (SH n id k)))=Stp.cas (i+(j+k)) (ps.map fun p=>(p.1,p.2.map (SH n id (j+k))))
   rw[Int.add_assoc,List.map_map]
   congr 1
   refine List.map_congr_left fun p _=>?_;simp only[Function.comp,List.map_map]
   congr 1
   exact List.map_congr_left fun s _=>Lx n j k s
theorem Ih:∀ (n:Nat) (s:A n),SH n id 0 s=s
 | 0,e=>nomatch e
 | n+1,s=>by
  cases s with
  | told i=>rfl
  | one w i r=>exact congrArg (fun x=>Stp.one w x r) (Int.add_zero i)
  | two w i l=>exact(congrArg (fun x=>Stp.two w x (l+0)) (Int.add_zero i)).trans (congrArg (fun x=>Stp.two w i x) (Int.add_zero l))
  | nop w r=>rfl
  | cas i ps =>
   show Stp.cas (i+0) (ps.map fun p=>(p.1,p.2.map (SH n id 0)))=Stp.cas i ps
   rw[Int.add_zero]
   congr 1
   have:(fun p:List Str×List (A n)=>(p.1,p.2.map (SH n id 0)))=id:=by
    funext p
    have:SH n id 0=id:=funext fun s=>Ih n s
    rw[this,List.map_id];rfl
   rw[this,List.map_id]
theorem Gv{f:Int->Int}{c:Int}(hf:∀ i,0<=i->i<c->f i=i):∀ (n:Nat) (b k:Int) (s:A n),SO n c b s->SH n f k s=SH n id k s
 | 0,_,_,e,_=>nomatch e
 | n+1,b,k,s,ok=>by
  cases s with
  | told i=>exact congrArg Stp.told (hf i ok.1 ok.2)
  | one w i r=>rfl
  | two w i l=>rfl
  | nop w r=>rfl
  | cas i ps =>
   show Stp.cas (i+k) (ps.map fun p=>(p.1,p.2.map (SH n f k)))=Stp.cas (i+k) (ps.map fun p=>(p.1,p.2.map (SH n id k)))
   congr 1
   refine List.map_congr_left fun p hp=>?_
   congr 1
   exact List.map_congr_left fun s hs=>Gv hf n b k s ((ok.2.2.2 p hp).2.2.2 s hs)
theorem Eg{f:Int->Int}{c c' k:Int}(k0:0<=k)(hf:∀ i,0<=i->i<c->0<=f i/\f i<c'):∀ (n:Nat) (b:Int) (s:A n),SO n c b s->SO n c' (b+k) (SH n f k s)
 | 0,_,e,_=>nomatch e
 | n+1,b,s,ok=>by
  cases s with
  | told i=>exact hf i ok.1 ok.2
  | one w i r =>
   obtain⟨a,b1,c1,d⟩:=ok;exact⟨a,by omega,by omega,d⟩
  | two w i l =>
   obtain⟨a,b1,c1,d,e⟩:=ok;exact⟨a,by omega,by omega,by omega,by omega⟩
  | nop w r=>exact ok
  | cas i ps =>
   obtain⟨a,b1,c1,d⟩:=ok;refine⟨by omega,by omega,by rw[List.length_map];exact c1,fun p hp=>?_⟩
   obtain⟨q,hq,rfl⟩:=List.mem_map.mp hp;obtain⟨e1,e2,e3,e4⟩:=d q hq;refine⟨e1,e2,by rw[List.length_map];exact e3,fun s hs=>?_⟩
   obtain⟨t,ht,rfl⟩:=List.mem_map.mp hs;exact Eg k0 hf n b t (e4 t ht)
theorem Ej:∀ (n:Nat) (f:Int->Int) (k:Int) (s:A n),WE n (SH n f k s)=WE n s
 | 0,_,_,e=>nomatch e
 | n+1,f,k,s=>by
  cases s with
  | told i=>rfl
  | one w i r=>rfl
  | two w i l=>rfl
  | nop w r=>rfl
  | cas i ps =>
   show 100+((ps.map fun p=>(p.1,p.2.map (SH n f k))).map fun p=>400+(p.2.map (WE n)).sum).sum=100+(ps.map fun p=>400+(p.2.map (WE n)).sum).sum
   rw[List.map_map]
   congr 2
   refine List.map_congr_left fun p _=>?_;simp only[Function.comp,List.map_map]
   congr 2
   exact List.map_congr_left fun s _=>Ej n f k s
theorem uF{n w:Nat}{f:Int->Int}{c c' k b:Int}{P:List (A n)}(k0:0<=k)(hf:∀ i,0<=i->i<c->0<=f i/\f i<c')(h:PaO n c b w P):PaO n c' (b+k) w (P.map (SH n f k)):=by
 refine⟨by rw[List.length_map];exact h.1,fun s hs=>?_,?_⟩
 ·obtain⟨t,ht,rfl⟩:=List.mem_map.mp hs;exact Eg k0 hf n b t (h.2.1 t ht)
 ·have:(P.map (SH n f k)).map (WE n)=P.map (WE n):=by
   rw[List.map_map];exact List.map_congr_left fun s _=>Ej n f k s
  rw[this];exact h.2.2
def Sl(w e:Nat)(xs:List PyData):Prop:=PyData.showableAll xs=true/\PyData.leavesShortAll 8 xs=true/\PyData.weightAll xs<=w/\PyData.depthAll xs<=e
theorem lW{w e:Nat}:Sl w e []:=⟨rfl,rfl,Nat.zero_le _,Nat.zero_le _⟩
theorem eV{w e v f u:Nat}{x:PyData}{xs:List PyData}(h:Sw v f x)(t:Sl w e xs)(hu:v+1+w<=u)(hf:f<=e):Sl u e (x::xs):=by
 obtain⟨a,b,c,d⟩:=h;obtain⟨a',b',c',d'⟩:=t;refine⟨?_,?_,?_,?_⟩
 ·simp only[PyData.showableAll,a,a',Bool.and_self]
 ·simp only[PyData.leavesShortAll,b,b',Bool.and_self]
 ·simp only[PyData.weightAll];omega
 ·simp only[PyData.depthAll];omega
theorem iU{w e:Nat}{xs:List PyData}(h:Sl w e xs):Sw w (e+1) (.tuple xs):=by
 obtain⟨a,b,c,d⟩:=h;refine⟨by simpa only[PyData.showable] using a,by rw[PyData.leavesShort];exact b,by simpa only[PyData.weight] using c,?_⟩
 simp only[PyData.depth];omega
theorem uP{α:Type}{g:α->PyData}{f:α->Nat}{e:Nat}:∀ {P:List α},(∀ s∈P,Sw (f s) e (g s))->Sl ((P.map f).sum+P.length) e (P.map g)
 | [],_=>lW
 | s::P,h=>by
  refine eV (h s List.mem_cons_self) (uP fun t ht=>h t (List.mem_cons_of_mem _ ht)) ?_ (Nat.le_refl _);simp only[List.map_cons,List.sum_cons,List.length_cons];omega
theorem N8:∀ i<301,Sw 20 1 (.int ((i:Nat):Int)):=by
 unfold Sw;decide +kernel
theorem mM{i:Int}(h0:0<=i)(h1:i<=300):Sw 20 1 (.int i):=by
 have:=N8 i.toNat (by omega)
 rwa [show((i.toNat:Nat):Int)=i by omega]at this
theorem qW:∀ w∈(["told","turned","ends","behind","both","strike","add","any","long","cases"]:List Str),w.cps.toList.all (fun c=>decide (c<1114112))=true/\w.length<=20:=by decide +kernel
theorem Rz{x:PyData}(h:lY x):Sw 42 2 x:=by
 rcases h with⟨z,rfl,g⟩ | ⟨e,rfl,g⟩
 ·exact(lJ g).mono (by decide) (by decide)
 ·refine iU (eV (lJ g) (eV (mM (i:=if e.2=true then 1 else 0) (by split<;>decide) (by split<;>decide)) (lW (w:=0)) (Nat.le_refl _) (by decide)) (by decide) (by decide))
theorem Iq{r:List PyData}(hr:r.length<=2)(hg:∀ x∈r,lY x):Sl 86 2 r:=by
 have:=uP (g:=id) (f:=fun _=>42) (P:=r) (e:=2) fun x hx=>Rz (hg x hx)
 rw[List.map_id]at this;obtain⟨a,b,c,d⟩:=this;refine⟨a,b,?_,d⟩;have:=uO (f:=fun _:PyData=>42) (v:=42) (P:=r) fun _ _=>Nat.le_refl _
 omega
theorem yE{n:Nat}{c b:Int}{P:List (A n)}(h8:P.length<=8)(hs:∀ s∈P,Sw (WE n s) (5*n) (dJ n s)):Sw ((P.map (WE n)).sum+8) (5*n+1) (cO n P) :=
 (iU (uP hs)).mono (by omega) (Nat.le_refl _)
theorem Cf{c b:Int}(hc:c<=300)(hb:b<=300):∀ (n:Nat) (s:A n),SO n c b s->Sw (WE n s) (5*n) (dJ n s)
 | 0,e,_=>nomatch e
 | n+1,s,ok=>by
  cases s with
  | told i=>exact(iU (eV (lJ (qW _ (by decide))) (eV (mM ok.1 (by have:=ok.2;omega)) (lW (w:=0)) (Nat.le_refl _) (Nat.le_refl _)) (Nat.le_refl _) (by decide))).mono (by show _<=100;decide) (by omega)
  | one w i r =>
   obtain⟨a,b1,c1,d,e⟩:=ok;exact(iU (eV (lJ (qW w (by simp at a ⊢;rcases a with rfl | rfl<;>simp))) (eV (mM b1 (by omega)) (Iq d e) (Nat.le_refl _) (by decide)) (Nat.le_refl _) (by decide))).mono (by show _<=250;decide) (by omega)
  | two w i l =>
   obtain⟨a,b1,c1,d,e⟩:=ok;exact(iU (eV (lJ (qW w (by simp at a ⊢;rcases a with rfl | rfl | rfl | rfl<;>simp))) (eV (mM b1 (by omega)) (eV (mM d (by omega)) (lW (w:=0)) (Nat.le_refl _) (Nat.le_refl _)) (Nat.le_refl _) (by decide)) (Nat.le_refl _) (by decide))).mono (by show _<=100;decide) (by omega)
  | nop w r =>
   obtain⟨a,d,e⟩:=ok;exact(iU (eV (lJ (qW w (by simp at a ⊢;rcases a with rfl | rfl<;>simp))) (Iq d e) (Nat.le_refl _) (by decide))).mono (by show _<=200;decide) (by omega)
  | cas i ps =>
   obtain⟨a,b1,c1,d⟩:=ok;have parts:∀ p∈ps,Sw (310+(p.2.map (WE n)).sum) (5*n+3) (.tuple [.tuple (p.1.map .str),cO n p.2]):=fun p hp=>by
    obtain⟨e1,e2,e3,e4⟩:=d p hp;exact iU (eV (Pm e2 e1) (eV (yE (c:=c) (b:=b) e3 fun s hs=>Cf hc hb n s (e4 s hs)) (lW (w:=0)) (Nat.le_refl _) (Nat.le_succ _)) (by omega) (by omega))
   have s1:=uP parts
   refine(iU (eV (lJ (qW _ (by decide))) (eV (mM a (by omega)) (eV (iU s1) (lW (w:=0)) (Nat.le_refl _) (Nat.le_refl _)) (Nat.le_refl _) (by omega)) (Nat.le_refl _) (by omega))).mono ?_ (by omega)
   show _<=100+(ps.map fun p=>400+(p.2.map (WE n)).sum).sum
   have:∀ qs:List (List Str×List (A n)),(qs.map fun p=>310+(p.2.map (WE n)).sum).sum+qs.length<=(qs.map fun p=>400+(p.2.map (WE n)).sum).sum:=fun qs=>by
    induction qs with
    | nil=>simp
    | cons q qs ih=>simp only[List.map_cons,List.sum_cons,List.length_cons];omega
   have:=this ps
   omega
theorem vJ{n w:Nat}{c b:Int}{P:List (A n)}(hn:n<=4)(hc:c<=300)(hb:b<=300)(hw:w<=10000)(h:PaO n c b w P):(cO n P).showable=true/\(cO n P).shown.length<=sizeLine/\(cO n P).depth<=100 :=
 Iz (yE (c:=c) (b:=b) h.1 fun s hs=>Cf hc hb n s (h.2.1 s hs)) (by have:=h.2.2;omega) (by omega)
theorem O7{n w:Nat}{c b:Int}{P:List (A n)}{ns:List Int}(hn:n<=4)(hc:c<=300)(hb:b<=300)(hw:w<=10000)(h:PaO n c b w P)(hl:ns.length<=3)(h24:∀ i∈ns,0<=i/\i<24):(PyData.tuple [cO n P,.tuple (ns.map .int)]).showable=true/\(PyData.tuple [cO n P,.tuple (ns.map .int)]).shown.length<=sizeLine/\(PyData.tuple [cO n P,.tuple (ns.map .int)]).depth<=100:=by
 have s1:=yE (c:=c) (b:=b) h.1 fun s hs=>Cf hc hb n s (h.2.1 s hs)
 have s2:Sw (21*3) 2 (.tuple (ns.map .int)):=Lr (w:=20) (e:=1) (fun x hx=>by
  obtain⟨i,hi,rfl⟩:=List.mem_map.mp hx;exact mM (h24 i hi).1 (by have:=(h24 i hi).2;omega)) (by simpa using hl)
 exact Iz (w:=20000) (e:=50) ((iU (eV (s1.mono (Nat.le_refl _) (show _<=30 by omega)) (eV s2 (lW (w:=0)) (Nat.le_refl _) (by decide)) (Nat.le_refl _) (Nat.le_refl _))).mono (by have:=h.2.2;omega) (by decide)) (by decide) (by decide)
end K29
namespace K29
open PySem PySem.Spec PyProof.Rows L2 DL K01
def own(N:Nat):List Int:=(List.range N).map Int.ofNat
theorem qY(N:Nat):(own N).length=N:=by simp[own]
theorem Xv(N:Nat):(List.range N).map (fun i:Nat=>PyData.int (i:Int))=(own N).map .int:=by
 unfold own;rw[List.map_map];rfl
theorem J8{N:Nat}(i:Int)(h0:0<=i)(h1:i<N):fT (own N) i=i:=by
 obtain⟨k,rfl⟩:∃ k:Nat,i=k:=⟨i.toNat,by omega⟩
 have hk:k<N:=by omega
 unfold fT own;rw[Int.toNat_natCast,List.getD_eq_getElem?_getD,List.getElem?_map,List.getElem?_range hk];rfl
theorem zP{c:Int}(i:Int)(h0:0<=i)(h1:i<c):0<=id i/\id i<c:=⟨h0,h1⟩
theorem Gh{n N:Nat}{b k:Int}{w:Nat}{P:List (A n)}(h:PaO n N b w P):P.map (SH n (fT (own N)) k)=P.map (SH n id k) :=
 List.map_congr_left fun s hs=>Gv (c:=N) J8 n b k s (h.2.1 s hs)
theorem PaO.mono{n w w':Nat}{c b b':Int}{P:List (A n)}(h:PaO n c b w P)(hw:w<=w')(hb:b=b'):PaO n c b' w' P:=by subst hb;exact⟨h.1,h.2.1,Nat.le_trans h.2.2 hw⟩
theorem BG{v r:Int}(v0:0<=v)(v1:v<9)(h0:0<=r)(h1:r<5):∃ k:Int,cA [PyData.int 0,.int 1,.int 2,.int 100,.int v] r=some (.int k)/\0<=k/\k<=100:=by
 obtain⟨p,e,u,rfl,q⟩:=oF (xs:=[PyData.int 0,.int 1,.int 2,.int 100,.int v]) (P:=fun p=>∃ k:Int,p=.int k/\0<=k/\k<=100) (r:=r) (by
  intro p hp;simp at hp;rcases hp with rfl | rfl | rfl | rfl | rfl
  ·exact⟨0,rfl,by decide,by decide⟩
  ·exact⟨1,rfl,by decide,by decide⟩
  ·exact⟨2,rfl,by decide,by decide⟩
  ·exact⟨100,rfl,by decide,by decide⟩
  ·exact⟨v,rfl,v0,by omega⟩) h0 h1
 exact⟨u,e,q⟩
theorem Er{a:Addr}{L:Int}{m0:Mu}{Q:List PyData->Mu->Prop}(hL:L<=9000000):∀ (is:List Int) (ns:List Int) (o:Option D) (b:Int) (m:Mu),is.length+ns.length<=3->b+is.length<=1000->(∀ i∈ns,0<=i/\i<24)->Fed b L m0 m a->(∀ (ns':List Int) m',ns'.length=is.length+ns.length->(∀ i∈ns',0<=i/\i<24)->Fed (b+is.length) L m0 m' a->Q (ns'.map .int) m') ->
  bD (gN 0) cC (aP 2 bL (aA (aC 1) (aA (aE (.int 24)) aF))) ((is.map PyData.int).map .dat) (ns.map .int) [o,some (.cel a)] m Q
 | [],ns,o,b,m,hn,hb,hs,hf,h=>by simpa[bD] using h ns m (by simp) hs (by simpa using hf)
 | i::is,ns,o,b,m,hn,hb,hs,hf,h=>by
  simp only[List.map_cons,bD];simp;refine dD (by decide) (by decide) hL (by simp at hb;omega) hf fun r m1 r0 r1 hf1=>?_
  have ih:=Er (Q:=Q) hL is (ns++[r]) (some (I i)) (b+1) m1 (by simp at hn ⊢;omega) (by simp at hb ⊢;omega) (fun j hj=>by
   rcases List.mem_append.mp hj with q | q
   ·exact hs j q
   ·rw[List.mem_singleton.mp q];exact⟨r0,r1⟩) hf1 (fun ns' m' l s f=>h ns' m' (by simp at l ⊢;omega) s (by
    have:b+((i::is).length:Int)=b+1+(is.length:Int):=by simp;omega
    rw[this];exact f))
  simp;exact⟨Nat.lt_of_lt_of_le (show ns.length<10 by simp at hn;omega) (sz (by decide)),by simpa using ih⟩
theorem qL{b:Bool}(h:b=true):(!b)=false:=by rw[h];rfl
theorem EX:∀ ds m R,ds.length=vF.length->nB ds m R->Ma (EN R) (bY Bi ds) m:=by
 rintro ds m R hl ⟨ns,rfl,hn,h⟩;refine⟨_,rfl,rfl,ns,rfl,hn,fun a m0 hT0=>?_⟩;refine⟨6,rfl,by decide,by decide,?_⟩
 show cH _ _ _ (dC 0 6) _ _
 refine sR (n:=6) (fun i d m'=>Tp (500*i) m' a/\∃ o2 o3 o4 o5 o6 o7 o8 o9 o10 o11 o12 o13 o14,d=[some (.dat (.list (ns.map .int))),some (.cel a),o2,o3,o4,o5,o6,o7,o8,o9,o10,o11,o12,o13,o14]) ?_ ?_ _ _ ⟨by simpa using hT0,_,_,_,_,_,_,_,_,_,_,_,_,_,rfl⟩
 ·rintro d m' ⟨_,o2,o3,o4,o5,o6,o7,o8,o9,o10,o11,o12,o13,o14,rfl⟩;exact h m'
 rintro i hi K hK d m1 ⟨hT,o2,o3,o4,o5,o6,o7,o8,o9,o10,o11,o12,o13,o14,rfl⟩;have hL:(500*(i:Int))<=3000:=by omega
 refine⟨_,rfl,rfl,a,500*i,rfl,by omega,hT,fun ts m2 h3 h4 nm hf2=>?_⟩
 refine⟨_,rfl,_,rfl,rfl,a,ts,500*i+20,rfl,h3,h4,nm,by omega,hf2.1,fun p m3 hp hf3'=>?_⟩
 have hf3:=hf2.trans hf3'
 obtain⟨xs,n0,P0,rfl,x1,x3,hn0,hP0⟩:=hp;refine⟨_,rfl,rfl,rfl,?_⟩;refine⟨_,rfl,_,rfl,by omega,?_⟩
 rw[Xv];obtain⟨N,eN⟩:∃ N,N=xs.length:=⟨_,rfl⟩;rw[<- eN]at hP0 x1 x3 ⊢;refine⟨_,rfl,rfl,?_⟩;refine dD (by decide) (by decide) (by omega) (by decide) hf3 fun r m4 r0 r1 hf4=>?_
 obtain⟨T,rfl⟩:∃ T:Nat,r=T:=⟨r.toNat,by omega⟩
 refine⟨_,rfl,by omega,by omega,?_⟩
 rw[Int.toNat_natCast];refine sR (n:=T) (fun j d m'=>∃ (n:Nat) (P:List (A n)) (o7 o8 o9 o10:Option D),n<=2+j/\PaO n N (5+2*j) (4000+700*j) P/\Fed (20+100+1+2*j) (500*i) m1 m' a/\d=[some (.dat (.list (ns.map .int))),some (.cel a),some (I i),some (.dat (TH ts)),some (.dat (.tuple xs)),some (.dat (cO n P)),some (.dat (.list ((own N).map .int))),o7,o8,o9,o10,o11,o12,o13,o14]) ?_ ?_ _ _ ⟨n0,P0,_,_,_,_,by omega,by simpa using hP0,by simpa using hf4,rfl⟩
 ·rintro d m5 ⟨n,P,o7,o8,o9,o10,hn4,hP,hf5,rfl⟩;obtain⟨B,eB⟩:∃ B:Int,B=5+2*(T:Int):=⟨_,rfl⟩;obtain⟨W,eW⟩:∃ W:Nat,W=4000+700*T:=⟨_,rfl⟩;rw[<- eB,<- eW]at hP;have hB:B<=9:=by omega
  have hW:W<=10000:=by omega
  have hn5:n<=4:=by omega
  have hN:(N:Int)<=300:=by omega
  refine⟨_,rfl,rfl,?_⟩;refine dD (by decide) (by decide) (by omega) (by omega) hf5 fun v m6 v0 v1 hf6=>?_
  refine⟨_,rfl,sz (Nat.le_of_ble_eq_true rfl),_,rfl,rfl,?_⟩;refine dD (by decide) (by decide) (by omega) (by omega) hf6 fun r m7 r0 r1 hf7=>?_
  obtain⟨k,ek,k0,k1⟩:=BG v0 v1 r0 r1;refine⟨_,ek,?_⟩;refine⟨_,rfl,.inl ⟨_,rfl,?_⟩⟩;show bD _ _ _ (((own N).map PyData.int).map .dat) [] [none,some (.cel a)] _ _
  refine Er (by omega) (own N) [] none _ m7 (by rw[qY];simpa using x3) (by rw[qY];omega) (by simp) hf7 fun vs m8 vl v24 hf8=>?_
  rw[qY]at vl hf8;have vN:vs.length=N:=by simpa using vl
  obtain⟨s1,s2,s3⟩:=O7 hn5 hN (by omega) hW hP (by omega) v24
  obtain⟨p1,p2,p3⟩:=vJ hn5 hN (by omega) hW hP
  refine⟨_,rfl,_,rfl,_,rfl,z2,s1,s2,s3,?_⟩;refine⟨_,rfl,_,rfl,rfl,n,P,k,N,B,rfl,by omega,hP.1,hP.2.1,?_⟩
  have hQ:PaO n N (B+k) W (P.map (SH n id k)):=uF k0 zP hP
  obtain⟨l1,l2,l3⟩:=vJ hn5 hN (by omega) hW hQ
  refine⟨_,rfl,l1,l2,l3,_,rfl,_,rfl,_,rfl,rfl,n,P,own N,k,B,_,rfl,.inr rfl,by omega,hP.1,(by rw[qY];exact hP.2.1),fun m9 k9=>?_⟩
  rw[Gh hP];refine⟨l1,l2,l3,_,rfl,dF (qL (decide_eq_true rfl)) ?_⟩;refine⟨_,rfl,rfl,n,P.map (SH n id k),3,N,B+k,rfl,by omega,hQ.1,hQ.2.1,?_⟩
  have e3:(P.map (SH n id k)).map (SH n id 3)=P.map (SH n id (k+3)):=by
   rw[List.map_map];exact List.map_congr_left fun s _=>Lx n k 3 s
  rw[e3];have hQ3:PaO n N (B+(k+3)) W (P.map (SH n id (k+3))):=uF (by omega) zP hP
  obtain⟨q1,q2,q3⟩:=vJ hn5 hN (by omega) hW hQ3
  refine⟨q1,q2,q3,_,rfl,_,rfl,rfl,n,P,k+3,N,B,rfl,by omega,hP.1,hP.2.1,?_⟩
  refine⟨q1,q2,q3,_,rfl,dF (qL (decide_eq_true rfl)) ?_⟩;refine⟨_,rfl,rfl,n,P,0,N,B,rfl,by omega,hP.1,hP.2.1,?_⟩
  have e0:P.map (SH n id 0)=P:=by
   have:SH n id 0=id:=funext fun s=>Ih n s
   rw[this,List.map_id]
  rw[e0];refine⟨p1,p2,p3,_,rfl,p1,p2,p3,_,rfl,dF (qL (decide_eq_true rfl)) ?_⟩;refine⟨_,rfl,_,rfl,rfl,n,P,vs,B,rfl,by omega,hP.1,(by rw[vN];exact hP.2.1),?_⟩
  have hV:PaO n 24 (B+0) W (P.map (SH n (fT vs) 0)):=uF (c:=(N:Int)) (Int.le_refl _) (fun i h0 h1=>by
   obtain⟨z,rfl⟩:∃ z:Nat,i=z:=⟨i.toNat,by omega⟩
   have hz:z<vs.length:=by omega
   unfold fT;rw[Int.toNat_natCast,List.getD_eq_getElem?_getD,List.getElem?_eq_getElem hz];exact v24 _ (List.getElem_mem hz)) hP
  obtain⟨u1,u2,u3⟩:=vJ hn5 (by decide) (by omega) hW hV
  refine⟨u1,u2,u3,_,rfl,_,rfl,rfl,n,P,vs,0,B,_,rfl,.inl rfl,by omega,hP.1,(by rw[vN];exact hP.2.1),fun m10 k10=>?_⟩
  refine⟨u1,u2,u3,_,rfl,dF (qL (decide_eq_true rfl)) ?_⟩;refine⟨_,rfl,_,rfl,_,rfl,z2,s1,s2,s3,_,rfl,_,rfl,dF (qL (decide_eq_true rfl)) ?_⟩;refine hK _ _ ⟨?_,_,_,_,_,_,_,_,_,_,_,_,_,_,rfl⟩;have:=(((hf8.kn k9).kn k10).mono (c:=500) (by omega)).1
  have e:(500*(i:Int)+500)=500*((i+1:Nat):Int):=by push_cast;omega
  rw[e]at this;exact this
 ·rintro j hj K2 hK2 d m5 ⟨n,P,o7,o8,o9,o10,hn4,hP,hf5,rfl⟩;refine⟨_,rfl,_,rfl,rfl,?_⟩;refine uD (by omega) (by omega) (by omega) (by omega) hf5 fun x y k l m6 hx hy hf6=>?_
  have gx:=mJ nm hx
  have gy:=mJ nm hy
  refine⟨_,rfl,_,rfl,rfl,?_⟩;refine uM nm hx hy fun m7 k7=>?_;refine⟨rfl,k,l,rfl,?_⟩;refine⟨_,rfl,_,rfl,_,rfl,rfl,n,P,own N,2,_,_,rfl,.inr rfl,by omega,hP.1,(by rw[qY];exact hP.2.1),fun m8 k8=>?_⟩
  rw[Gh hP];have hQ:PaO n N (5+2*(j:Int)+2) (4000+700*j) (P.map (SH n id 2)):=uF (by decide) zP hP
  refine⟨_,rfl,z2,_,rfl,sz (Nat.le_of_ble_eq_true rfl),?_⟩;refine⟨_,rfl,sz (Nat.le_of_ble_eq_true rfl),_,rfl,sz (Nat.le_of_ble_eq_true rfl),_,rfl,_,rfl,z3,_,rfl,z2,?_⟩;refine hK2 _ _ ⟨n+1,[Stp.nop "any" [.str x,.str y],Stp.cas 0 [(WS k l,P.map (SH n id 2))]],_,_,_,_,by omega,?_,?_,rfl⟩
  ·have eb:(5:Int)+2*((j+1:Nat):Int)=5+2*(j:Int)+2:=by push_cast;omega
   rw[eb];refine⟨Nat.le_of_ble_eq_true rfl,AllS.mem (P:=([Stp.nop "any" [.str x,.str y],Stp.cas 0 [(WS k l,P.map (SH n id 2))]]:List (A (n+1)))) ⟨⟨by decide,Nat.le_of_ble_eq_true rfl,?_⟩,⟨by decide,by omega,Nat.le_of_ble_eq_true rfl,?_⟩,trivial⟩,?_⟩
   ·intro p hp;simp at hp;rcases hp with rfl | rfl
    ·exact .inl ⟨_,rfl,gx⟩
    ·exact .inl ⟨_,rfl,gy⟩
   ·intro p hp;rw[List.mem_singleton.mp hp];exact⟨lH k l,hZ k l,hQ.1,hQ.2.1⟩
   ·have:=hQ.2.2
    show 200+((100+(400+((P.map (SH n id 2)).map (WE n)).sum+0))+0)<=_
    omega
  ·have:=(hf6.kn k7).kn k8
   have e:(20:Int)+100+1+2*((j+1:Nat):Int)=20+100+1+2*(j:Int)+2:=by push_cast;omega
   rw[e];exact this
theorem G7:∀ ds m R,gW 0 ds m R->False:=fun _ _ _ h=>by
 obtain⟨n,P,ns,k,b,q,_,_,hn,_⟩:=h;exact absurd hn (Nat.not_lt_zero _)
theorem Wz:∀ ds m R,gD 0 ds m R->False:=fun _ _ _ h=>by
 obtain⟨n,P,k,c,b,_,hn,_⟩:=h;exact absurd hn (Nat.not_lt_zero _)
theorem Va:∀ ds m R,iR 0 ds m R->False:=fun _ _ _ h=>by
 obtain⟨n,P,ns,b,_,hn,_⟩:=h;exact absurd hn (Nat.not_lt_zero _)
end K29
namespace HD
open PySem PySem.W
section
variable {α β:Type}{tb:String->Option Builtin}{p:Program}{w:World}{n₀:Nat}{ann:Option Value}{c:Code}{B:List Frame}
theorem Ju{b:Nat}:∀ {n m:Nat} {s s1 s2:Shared} {t t1 t2:Thread},segGo tb p w n₀ ann b n s t=some (s1,t1)->segGo tb p w n₀ ann b m s1 t1=some (s2,t2)->segGo tb p w n₀ ann b (n+m) s t=some (s2,t2)
 | 0,m,s,s1,s2,t,t1,t2,h,k=>by
  obtain⟨rfl,rfl⟩:s=s1/\t=t1:=by simpa[segGo] using h
  rw[Nat.zero_add];exact k
 | n+1,m,s,s1,s2,t,t1,t2,h,k=>by
  rw[show n+1+m=n+m+1 by omega]
  unfold segGo at h ⊢
  cases he:endAt b t with
  | some f=>rw[he]at h;cases h
  | none =>
   rw[he]at h
   cases hk:stepOk n₀ ann t with
   | false=>rw[hk]at h;cases h
   | true =>
    rw[hk]at h
    cases hs:step (denote tb) p w s t with
    | halt o s'=>rw[hs]at h;cases h
    | go s' t'=>rw[hs]at h;exact Ju h k
def R(N:Nat)(tb:String->Option Builtin)(p:Program)(w:World)(n₀:Nat)(ann:Option Value)(c:Code)(B:List Frame)(m:Sem α)(s:Shared)(pos:Pos)(a:α)(s':Shared)(pos':Pos):Prop :=
 ∀ (K:α->Sem Fin) (H:Value->Sem Fin) (gd:Bool->Bool) (lv:List Value->List Value),∃ n,n<=N/\segGo tb p w n₀ ann B.length n s ⟨m.wrap K H gd lv,c,pos,B⟩=some (s',⟨K a,c,pos',B⟩)
variable {s s1 s':Shared}{pos pos1 pos':Pos}{N N1 N2:Nat}
theorem R.pure{a:α}:R 0 tb p w n₀ ann c B (Pure.pure a) s pos a s pos:=fun K H gd lv=>⟨0,Nat.le_refl _,rfl⟩
theorem R.mono{m:Sem α}{a:α}(hN:N1<=N)(h:R N1 tb p w n₀ ann c B m s pos a s' pos'):R N tb p w n₀ ann c B m s pos a s' pos':=fun K H gd lv=>let ⟨n,l,e⟩:=h K H gd lv;⟨n,Nat.le_trans l hN,e⟩
theorem R.bind{m:Sem α}{f:α->Sem β}{a:α}{b:β}(h:R N1 tb p w n₀ ann c B m s pos a s1 pos1)(k:R N2 tb p w n₀ ann c B (f a) s1 pos1 b s' pos'):R (N1+N2) tb p w n₀ ann c B (m>>=f) s pos b s' pos':=fun K H gd lv=>by
 obtain⟨n1,l1,e1⟩:=h (fun a=>(f a).wrap K H gd lv) H gd lv;obtain⟨n2,l2,e2⟩:=k K H gd lv;refine⟨n1+n2,Nat.add_le_add l1 l2,?_⟩;have e:(m>>=f).wrap K H gd lv=m.wrap (fun a=>(f a).wrap K H gd lv) H gd lv:=by
  rw[Sem.bind_eq_wrap',Sem.wrap_wrap];rfl
 rw[e];exact Ju e1 e2
end
end HD
set_option maxHeartbeats 0
namespace H29
open PySem PySem.W HD
abbrev prog:Program:=PySem.Challenge.pw_whens_k29_papers_laid_and_retold
abbrev q0:Pos:=⟨0,0,0,0⟩
def mf(k:Nat)(cl:Value)(g:Addr)(clo:List (Str×Addr))(d kd dc pm:Value)(an:Option Addr)(cd ct:Value)(bi:Addr):Obj:=match prog.main.body.getD k (.Pass q0) with
 | .FunctionDef n a b _ _ _ s _ _ _=>⟨cl,none,.func ⟨n,n,a,.stmts b,s,g,clo,d,kd,dc,pm,an,cd,ct,bi⟩,#[]⟩
 | _=>⟨cl,none,.plain,#[]⟩
def tq(xs:List Value):Obj:=⟨.type "tuple",none,.seq xs.toArray,#[]⟩
def lf(o:Obj):BT:=.node o .nil .nil
noncomputable def o3(P:Params):Obj:=⟨.type "dict",none,.dict #[⟨PyData.keyHash P "__name__",.str "__name__" 165,.str "law_whens_k29_papers_laid_and_retold" 250⟩,⟨PyData.keyHash P "__doc__",.str "__doc__" 166,.none⟩,⟨PyData.keyHash P "__package__",.str "__package__" 167,.none⟩,⟨PyData.keyHash P "__loader__",.str "__loader__" 168,Value.builtin "__main__.__loader__#opaque"⟩,⟨PyData.keyHash P "__spec__",.str "__spec__" 169,.none⟩,⟨PyData.keyHash P "__annotations__",.str "__annotations__" 170,.ref 6⟩,⟨PyData.keyHash P "__builtins__",.str "__builtins__" 171,.ref 4⟩,⟨PyData.keyHash P "__file__",.str "__file__" 173,.str "/claim/cut.py" 172⟩,⟨PyData.keyHash P "__cached__",.str "__cached__" 174,.none⟩,⟨PyData.keyHash P "ROW_NUMBERS_END",.str "ROW_NUMBERS_END" 210,.ref 15⟩,⟨PyData.keyHash P "rows_named",.str "rows_named" 217,.ref 22⟩,⟨PyData.keyHash P "with_rows",.str "with_rows" 225,.ref 29⟩,⟨PyData.keyHash P "laid_step",.str "laid_step" 231,.ref 34⟩,⟨PyData.keyHash P "laid_behind",.str "laid_behind" 237,.ref 39⟩,⟨PyData.keyHash P "retold_step",.str "retold_step" 243,.ref 44⟩,⟨PyData.keyHash P "retold",.str "retold" 249,.ref 49⟩,⟨PyData.keyHash P "_law_feed",.str "_law_feed" 258,.ref 56⟩,⟨PyData.keyHash P "_law_draw",.str "_law_draw" 270,.ref 63⟩,⟨PyData.keyHash P "_law_things",.str "_law_things" 276,.ref 68⟩,⟨PyData.keyHash P "_law_words",.str "_law_words" 284,.ref 75⟩,⟨PyData.keyHash P "_law_back",.str "_law_back" 292,.ref 82⟩,⟨PyData.keyHash P "_law_sign",.str "_law_sign" 303,.ref 89⟩,⟨PyData.keyHash P "_law_sides",.str "_law_sides" 310,.ref 96⟩,⟨PyData.keyHash P "_law_all_signs",.str "_law_all_signs" 316,.ref 101⟩,⟨PyData.keyHash P "_law_kinds",.str "_law_kinds" 322,.ref 106⟩,⟨PyData.keyHash P "_law_all_ends",.str "_law_all_ends" 328,.ref 111⟩,⟨PyData.keyHash P "_law_lowest",.str "_law_lowest" 338,.ref 118⟩,⟨PyData.keyHash P "_law_added",.str "_law_added" 348,.ref 125⟩,⟨PyData.keyHash P "_law_time",.str "_law_time" 357,.ref 132⟩,⟨PyData.keyHash P "_law_may",.str "_law_may" 363,.ref 137⟩,⟨PyData.keyHash P "_law_two",.str "_law_two" 373,.ref 144⟩,⟨PyData.keyHash P "_law_spot",.str "_law_spot" 384,.ref 151⟩,⟨PyData.keyHash P "_law_compared",.str "_law_compared" 390,.ref 156⟩,⟨PyData.keyHash P "_law_behind",.str "_law_behind" 396,.ref 161⟩,⟨PyData.keyHash P "_law_behind_all",.str "_law_behind_all" 402,.ref 166⟩,⟨PyData.keyHash P "_law_split",.str "_law_split" 408,.ref 171⟩,⟨PyData.keyHash P "_law_against",.str "_law_against" 414,.ref 176⟩,⟨PyData.keyHash P "_law_ring",.str "_law_ring" 420,.ref 181⟩,⟨PyData.keyHash P "_law_word_and_gap",.str "_law_word_and_gap" 426,.ref 186⟩,⟨PyData.keyHash P "_law_by_cases",.str "_law_by_cases" 432,.ref 191⟩,⟨PyData.keyHash P "_law_short",.str "_law_short" 438,.ref 196⟩,⟨PyData.keyHash P "_law_three",.str "_law_three" 444,.ref 201⟩,⟨PyData.keyHash P "_law_some_clash",.str "_law_some_clash" 454,.ref 208⟩,⟨PyData.keyHash P "_law_shifted",.str "_law_shifted" 468,.ref 215⟩,⟨PyData.keyHash P "law",.str "law" 474,.ref 220⟩] 45,#[]⟩
noncomputable def o15(P:Params):Obj:=⟨.type "dict",none,.dict #[⟨PyData.keyHash P "turned",.str "turned" 189,.int 2 190⟩,⟨PyData.keyHash P "behind",.str "behind" 191,.int 3 192⟩,⟨PyData.keyHash P "both",.str "both" 193,.int 3 194⟩,⟨PyData.keyHash P "ends",.str "ends" 195,.int 2 196⟩,⟨PyData.keyHash P "strike",.str "strike" 197,.int 3 198⟩,⟨PyData.keyHash P "add",.str "add" 199,.int 3 200⟩,⟨PyData.keyHash P "cases",.str "cases" 201,.int 2 202⟩] 7,#[]⟩
noncomputable def o16(P:Params):Obj:=tq []
noncomputable def Yp(P:Params):Obj:=tq [.str "step" 214]
noncomputable def j6(P:Params):Obj:=tq []
noncomputable def o21(P:Params):Obj:=⟨.type "code",none,.fields #[.str "rows_named" 211,.str "rows_named" 212,.str "/claim/cut.py" 213,.int 3 0,.int 1 0,.int 0 0,.int 0 0,.int 3 0,.ref 16,.bool true,.int 181 0,.ref 17,.none,.ref 18,.ref 19,.ref 20,.int 215 0,.int 3 0,.str "/claim/cut.py" 216],#[]⟩
noncomputable def o22(P:Params):Obj:=mf 2 (.type "function") 3 [] .none .none .none (.str "whens.papers" 187) none (.ref 21) .none 0
noncomputable def M2(P:Params):Obj:=tq []
noncomputable def U5(P:Params):Obj:=tq [.str "step" 221,.str "numbers" 222]
noncomputable def J9(P:Params):Obj:=tq []
noncomputable def o28(P:Params):Obj:=⟨.type "code",none,.fields #[.str "with_rows" 218,.str "with_rows" 219,.str "/claim/cut.py" 220,.int 5 0,.int 2 0,.int 0 0,.int 0 0,.int 3 0,.ref 23,.bool true,.int 181 0,.ref 24,.none,.ref 25,.ref 26,.ref 27,.int 223 0,.int 5 0,.str "/claim/cut.py" 224],#[]⟩
noncomputable def o29(P:Params):Obj:=mf 3 (.type "function") 3 [] .none .none .none (.str "whens.papers" 187) none (.ref 28) .none 0
noncomputable def W9(P:Params):Obj:=tq []
noncomputable def o33(P:Params):Obj:=⟨.type "code",none,.fields #[.str "laid_step" 226,.str "laid_step" 227,.str "/claim/cut.py" 228,.int 7 0,.int 2 0,.int 0 0,.int 0 0,.int 3 0,.ref 30,.bool true,.int 181 0,.ref 31,.none,.none,.none,.ref 32,.int 229 0,.int 7 0,.str "/claim/cut.py" 230],#[]⟩
noncomputable def o34(P:Params):Obj:=mf 4 (.type "function") 3 [] .none .none .none (.str "whens.papers" 187) none (.ref 33) .none 0
noncomputable def Rm(P:Params):Obj:=tq []
noncomputable def o38(P:Params):Obj:=⟨.type "code",none,.fields #[.str "laid_behind" 232,.str "laid_behind" 233,.str "/claim/cut.py" 234,.int 12 0,.int 2 0,.int 0 0,.int 0 0,.int 3 0,.ref 35,.bool true,.int 181 0,.ref 36,.none,.none,.none,.ref 37,.int 235 0,.int 12 0,.str "/claim/cut.py" 236],#[]⟩
noncomputable def o39(P:Params):Obj:=mf 5 (.type "function") 3 [] .none .none .none (.str "whens.papers" 187) none (.ref 38) .none 0
noncomputable def E8(P:Params):Obj:=tq []
noncomputable def o43(P:Params):Obj:=⟨.type "code",none,.fields #[.str "retold_step" 238,.str "retold_step" 239,.str "/claim/cut.py" 240,.int 14 0,.int 2 0,.int 0 0,.int 0 0,.int 3 0,.ref 40,.bool true,.int 181 0,.ref 41,.none,.none,.none,.ref 42,.int 241 0,.int 14 0,.str "/claim/cut.py" 242],#[]⟩
noncomputable def o44(P:Params):Obj:=mf 6 (.type "function") 3 [] .none .none .none (.str "whens.papers" 187) none (.ref 43) .none 0
noncomputable def CV(P:Params):Obj:=tq []
noncomputable def o48(P:Params):Obj:=⟨.type "code",none,.fields #[.str "retold" 244,.str "retold" 245,.str "/claim/cut.py" 246,.int 20 0,.int 2 0,.int 0 0,.int 0 0,.int 3 0,.ref 45,.bool true,.int 181 0,.ref 46,.none,.none,.none,.ref 47,.int 247 0,.int 20 0,.str "/claim/cut.py" 248],#[]⟩
noncomputable def o49(P:Params):Obj:=mf 7 (.type "function") 3 [] .none .none .none (.str "whens.papers" 187) none (.ref 48) .none 0
noncomputable def C5(P:Params):Obj:=tq []
noncomputable def Qo(P:Params):Obj:=tq [.str "_law_script" 255]
noncomputable def X0(P:Params):Obj:=tq []
noncomputable def o55(P:Params):Obj:=⟨.type "code",none,.fields #[.str "_law_feed" 252,.str "_law_feed" 253,.str "/claim/cut.py" 254,.int 23 0,.int 1 0,.int 0 0,.int 0 0,.int 3 0,.ref 50,.bool true,.int 181 0,.ref 51,.none,.ref 52,.ref 53,.ref 54,.int 256 0,.int 23 0,.str "/claim/cut.py" 257],#[]⟩
noncomputable def o56(P:Params):Obj:=mf 9 (.type "function") 3 [] .none .none .none (.str "law_whens_k29_papers_laid_and_retold" 250) none (.ref 55) .none 0
noncomputable def N7(P:Params):Obj:=tq []
noncomputable def Ug(P:Params):Obj:=tq [.str "_law_feed_here" 262,.str "_law_many" 263,.str "_law_turn" 264,.str "_law_cell" 265,.str "_law_mixed" 266,.str "_law_digit" 267]
noncomputable def Xf(P:Params):Obj:=tq []
noncomputable def o62(P:Params):Obj:=⟨.type "code",none,.fields #[.str "_law_draw" 259,.str "_law_draw" 260,.str "/claim/cut.py" 261,.int 25 0,.int 2 0,.int 0 0,.int 0 0,.int 3 0,.ref 57,.bool true,.int 181 0,.ref 58,.none,.ref 59,.ref 60,.ref 61,.int 268 0,.int 25 0,.str "/claim/cut.py" 269],#[]⟩
noncomputable def o63(P:Params):Obj:=mf 10 (.type "function") 3 [] .none .none .none (.str "law_whens_k29_papers_laid_and_retold" 250) none (.ref 62) .none 0
noncomputable def FS(P:Params):Obj:=tq []
noncomputable def o67(P:Params):Obj:=⟨.type "code",none,.fields #[.str "_law_things" 271,.str "_law_things" 272,.str "/claim/cut.py" 273,.int 39 0,.int 3 0,.int 0 0,.int 0 0,.int 3 0,.ref 64,.bool true,.int 181 0,.ref 65,.none,.none,.none,.ref 66,.int 274 0,.int 39 0,.str "/claim/cut.py" 275],#[]⟩
noncomputable def o68(P:Params):Obj:=mf 11 (.type "function") 3 [] .none .none .none (.str "law_whens_k29_papers_laid_and_retold" 250) none (.ref 67) .none 0
noncomputable def Wo(P:Params):Obj:=tq []
noncomputable def Rx(P:Params):Obj:=tq [.str "_law_kinds_here" 280,.str "_law_some" 281]
noncomputable def FE(P:Params):Obj:=tq []
noncomputable def o74(P:Params):Obj:=⟨.type "code",none,.fields #[.str "_law_words" 277,.str "_law_words" 278,.str "/claim/cut.py" 279,.int 50 0,.int 1 0,.int 0 0,.int 0 0,.int 3 0,.ref 69,.bool true,.int 181 0,.ref 70,.none,.ref 71,.ref 72,.ref 73,.int 282 0,.int 50 0,.str "/claim/cut.py" 283],#[]⟩
noncomputable def o75(P:Params):Obj:=mf 12 (.type "function") 3 [] .none .none .none (.str "law_whens_k29_papers_laid_and_retold" 250) none (.ref 74) .none 0
noncomputable def Oy(P:Params):Obj:=tq []
noncomputable def BJ(P:Params):Obj:=tq [.str "_law_word" 288,.str "_law_order" 289]
noncomputable def b7(P:Params):Obj:=tq []
noncomputable def o81(P:Params):Obj:=⟨.type "code",none,.fields #[.str "_law_back" 285,.str "_law_back" 286,.str "/claim/cut.py" 287,.int 59 0,.int 1 0,.int 0 0,.int 0 0,.int 3 0,.ref 76,.bool true,.int 181 0,.ref 77,.none,.ref 78,.ref 79,.ref 80,.int 290 0,.int 59 0,.str "/claim/cut.py" 291],#[]⟩
noncomputable def o82(P:Params):Obj:=mf 13 (.type "function") 3 [] .none .none .none (.str "law_whens_k29_papers_laid_and_retold" 250) none (.ref 81) .none 0
noncomputable def Rh(P:Params):Obj:=tq []
noncomputable def Ux(P:Params):Obj:=tq [.str "_law_kinds_here" 296,.str "_law_word" 297,.str "_law_x" 298,.str "_law_y" 299,.str "_law_some" 300]
noncomputable def K3(P:Params):Obj:=tq []
noncomputable def o88(P:Params):Obj:=⟨.type "code",none,.fields #[.str "_law_sign" 293,.str "_law_sign" 294,.str "/claim/cut.py" 295,.int 62 0,.int 4 0,.int 0 0,.int 0 0,.int 3 0,.ref 83,.bool true,.int 181 0,.ref 84,.none,.ref 85,.ref 86,.ref 87,.int 301 0,.int 62 0,.str "/claim/cut.py" 302],#[]⟩
noncomputable def o89(P:Params):Obj:=mf 14 (.type "function") 3 [] .none .none .none (.str "law_whens_k29_papers_laid_and_retold" 250) none (.ref 88) .none 0
noncomputable def W2(P:Params):Obj:=tq []
noncomputable def Po(P:Params):Obj:=tq [.str "_law_kind" 307]
noncomputable def Xh(P:Params):Obj:=tq []
noncomputable def o95(P:Params):Obj:=⟨.type "code",none,.fields #[.str "_law_sides" 304,.str "_law_sides" 305,.str "/claim/cut.py" 306,.int 68 0,.int 1 0,.int 0 0,.int 0 0,.int 3 0,.ref 90,.bool true,.int 181 0,.ref 91,.none,.ref 92,.ref 93,.ref 94,.int 308 0,.int 68 0,.str "/claim/cut.py" 309],#[]⟩
noncomputable def o96(P:Params):Obj:=mf 15 (.type "function") 3 [] .none .none .none (.str "law_whens_k29_papers_laid_and_retold" 250) none (.ref 95) .none 0
noncomputable def M7(P:Params):Obj:=tq []
noncomputable def o100(P:Params):Obj:=⟨.type "code",none,.fields #[.str "_law_all_signs" 311,.str "_law_all_signs" 312,.str "/claim/cut.py" 313,.int 70 0,.int 2 0,.int 0 0,.int 0 0,.int 3 0,.ref 97,.bool true,.int 181 0,.ref 98,.none,.none,.none,.ref 99,.int 314 0,.int 70 0,.str "/claim/cut.py" 315],#[]⟩
noncomputable def o101(P:Params):Obj:=mf 16 (.type "function") 3 [] .none .none .none (.str "law_whens_k29_papers_laid_and_retold" 250) none (.ref 100) .none 0
noncomputable def CI(P:Params):Obj:=tq []
noncomputable def o105(P:Params):Obj:=⟨.type "code",none,.fields #[.str "_law_kinds" 317,.str "_law_kinds" 318,.str "/claim/cut.py" 319,.int 75 0,.int 2 0,.int 0 0,.int 0 0,.int 3 0,.ref 102,.bool true,.int 181 0,.ref 103,.none,.none,.none,.ref 104,.int 320 0,.int 75 0,.str "/claim/cut.py" 321],#[]⟩
noncomputable def o106(P:Params):Obj:=mf 17 (.type "function") 3 [] .none .none .none (.str "law_whens_k29_papers_laid_and_retold" 250) none (.ref 105) .none 0
noncomputable def Zw(P:Params):Obj:=tq []
noncomputable def o110(P:Params):Obj:=⟨.type "code",none,.fields #[.str "_law_all_ends" 323,.str "_law_all_ends" 324,.str "/claim/cut.py" 325,.int 78 0,.int 1 0,.int 0 0,.int 0 0,.int 3 0,.ref 107,.bool true,.int 181 0,.ref 108,.none,.none,.none,.ref 109,.int 326 0,.int 78 0,.str "/claim/cut.py" 327],#[]⟩
noncomputable def o111(P:Params):Obj:=mf 18 (.type "function") 3 [] .none .none .none (.str "law_whens_k29_papers_laid_and_retold" 250) none (.ref 110) .none 0
noncomputable def X3(P:Params):Obj:=tq []
noncomputable def N3(P:Params):Obj:=tq [.str "_law_top" 332,.str "_law_bottom" 333,.str "_law_one" 334,.str "_law_other" 335]
noncomputable def DW(P:Params):Obj:=tq []
noncomputable def o117(P:Params):Obj:=⟨.type "code",none,.fields #[.str "_law_lowest" 329,.str "_law_lowest" 330,.str "/claim/cut.py" 331,.int 83 0,.int 2 0,.int 0 0,.int 0 0,.int 3 0,.ref 112,.bool true,.int 181 0,.ref 113,.none,.ref 114,.ref 115,.ref 116,.int 336 0,.int 83 0,.str "/claim/cut.py" 337],#[]⟩
noncomputable def o118(P:Params):Obj:=mf 19 (.type "function") 3 [] .none .none .none (.str "law_whens_k29_papers_laid_and_retold" 250) none (.ref 117) .none 0
noncomputable def G9(P:Params):Obj:=tq []
noncomputable def EM(P:Params):Obj:=tq [.str "_law_one" 342,.str "_law_other" 343,.str "_law_sign_here" 344,.str "_law_top" 345]
noncomputable def y6(P:Params):Obj:=tq []
noncomputable def o124(P:Params):Obj:=⟨.type "code",none,.fields #[.str "_law_added" 339,.str "_law_added" 340,.str "/claim/cut.py" 341,.int 89 0,.int 3 0,.int 0 0,.int 0 0,.int 3 0,.ref 119,.bool true,.int 181 0,.ref 120,.none,.ref 121,.ref 122,.ref 123,.int 346 0,.int 89 0,.str "/claim/cut.py" 347],#[]⟩
noncomputable def o125(P:Params):Obj:=mf 20 (.type "function") 3 [] .none .none .none (.str "law_whens_k29_papers_laid_and_retold" 250) none (.ref 124) .none 0
noncomputable def Xi(P:Params):Obj:=tq []
noncomputable def L5(P:Params):Obj:=tq [.str "_law_feed_here" 352,.str "_law_top" 353,.str "_law_bottom" 354]
noncomputable def L6(P:Params):Obj:=tq []
noncomputable def o131(P:Params):Obj:=⟨.type "code",none,.fields #[.str "_law_time" 349,.str "_law_time" 350,.str "/claim/cut.py" 351,.int 92 0,.int 1 0,.int 0 0,.int 0 0,.int 3 0,.ref 126,.bool true,.int 181 0,.ref 127,.none,.ref 128,.ref 129,.ref 130,.int 355 0,.int 92 0,.str "/claim/cut.py" 356],#[]⟩
noncomputable def o132(P:Params):Obj:=mf 21 (.type "function") 3 [] .none .none .none (.str "law_whens_k29_papers_laid_and_retold" 250) none (.ref 131) .none 0
noncomputable def E1(P:Params):Obj:=tq []
noncomputable def M9(P:Params):Obj:=tq [.str "_law_feed_here" 367,.str "_law_things_here" 368,.str "_law_one" 369,.str "_law_other" 370]
noncomputable def Yu(P:Params):Obj:=tq []
noncomputable def o143(P:Params):Obj:=⟨.type "code",none,.fields #[.str "_law_two" 364,.str "_law_two" 365,.str "/claim/cut.py" 366,.int 105 0,.int 2 0,.int 0 0,.int 0 0,.int 3 0,.ref 138,.bool true,.int 181 0,.ref 139,.none,.ref 140,.ref 141,.ref 142,.int 371 0,.int 105 0,.str "/claim/cut.py" 372],#[]⟩
noncomputable def o144(P:Params):Obj:=mf 23 (.type "function") 3 [] .none .none .none (.str "law_whens_k29_papers_laid_and_retold" 250) none (.ref 143) .none 0
noncomputable def K6(P:Params):Obj:=tq []
noncomputable def Zc(P:Params):Obj:=tq [.str "_law_kinds_here" 377,.str "_law_word" 378,.str "_law_x" 379,.str "_law_first" 380,.str "_law_last" 381]
noncomputable def FI(P:Params):Obj:=tq []
noncomputable def o150(P:Params):Obj:=⟨.type "code",none,.fields #[.str "_law_spot" 374,.str "_law_spot" 375,.str "/claim/cut.py" 376,.int 109 0,.int 3 0,.int 0 0,.int 0 0,.int 3 0,.ref 145,.bool true,.int 181 0,.ref 146,.none,.ref 147,.ref 148,.ref 149,.int 382 0,.int 109 0,.str "/claim/cut.py" 383],#[]⟩
noncomputable def o151(P:Params):Obj:=mf 24 (.type "function") 3 [] .none .none .none (.str "law_whens_k29_papers_laid_and_retold" 250) none (.ref 150) .none 0
noncomputable def Xb(P:Params):Obj:=tq []
noncomputable def o155(P:Params):Obj:=⟨.type "code",none,.fields #[.str "_law_compared" 385,.str "_law_compared" 386,.str "/claim/cut.py" 387,.int 115 0,.int 2 0,.int 0 0,.int 0 0,.int 3 0,.ref 152,.bool true,.int 181 0,.ref 153,.none,.none,.none,.ref 154,.int 388 0,.int 115 0,.str "/claim/cut.py" 389],#[]⟩
noncomputable def o156(P:Params):Obj:=mf 25 (.type "function") 3 [] .none .none .none (.str "law_whens_k29_papers_laid_and_retold" 250) none (.ref 155) .none 0
noncomputable def V7(P:Params):Obj:=tq []
noncomputable def o160(P:Params):Obj:=⟨.type "code",none,.fields #[.str "_law_behind" 391,.str "_law_behind" 392,.str "/claim/cut.py" 393,.int 120 0,.int 4 0,.int 0 0,.int 0 0,.int 3 0,.ref 157,.bool true,.int 181 0,.ref 158,.none,.none,.none,.ref 159,.int 394 0,.int 120 0,.str "/claim/cut.py" 395],#[]⟩
noncomputable def o161(P:Params):Obj:=mf 26 (.type "function") 3 [] .none .none .none (.str "law_whens_k29_papers_laid_and_retold" 250) none (.ref 160) .none 0
noncomputable def GM(P:Params):Obj:=tq []
noncomputable def o170(P:Params):Obj:=⟨.type "code",none,.fields #[.str "_law_split" 403,.str "_law_split" 404,.str "/claim/cut.py" 405,.int 152 0,.int 2 0,.int 0 0,.int 0 0,.int 3 0,.ref 167,.bool true,.int 181 0,.ref 168,.none,.none,.none,.ref 169,.int 406 0,.int 152 0,.str "/claim/cut.py" 407],#[]⟩
noncomputable def o171(P:Params):Obj:=mf 28 (.type "function") 3 [] .none .none .none (.str "law_whens_k29_papers_laid_and_retold" 250) none (.ref 170) .none 0
noncomputable def G5(P:Params):Obj:=tq []
noncomputable def o175(P:Params):Obj:=⟨.type "code",none,.fields #[.str "_law_against" 409,.str "_law_against" 410,.str "/claim/cut.py" 411,.int 158 0,.int 2 0,.int 0 0,.int 0 0,.int 3 0,.ref 172,.bool true,.int 181 0,.ref 173,.none,.none,.none,.ref 174,.int 412 0,.int 158 0,.str "/claim/cut.py" 413],#[]⟩
noncomputable def o176(P:Params):Obj:=mf 29 (.type "function") 3 [] .none .none .none (.str "law_whens_k29_papers_laid_and_retold" 250) none (.ref 175) .none 0
noncomputable def Wv(P:Params):Obj:=tq []
noncomputable def o180(P:Params):Obj:=⟨.type "code",none,.fields #[.str "_law_ring" 415,.str "_law_ring" 416,.str "/claim/cut.py" 417,.int 169 0,.int 2 0,.int 0 0,.int 0 0,.int 3 0,.ref 177,.bool true,.int 181 0,.ref 178,.none,.none,.none,.ref 179,.int 418 0,.int 169 0,.str "/claim/cut.py" 419],#[]⟩
noncomputable def o181(P:Params):Obj:=mf 30 (.type "function") 3 [] .none .none .none (.str "law_whens_k29_papers_laid_and_retold" 250) none (.ref 180) .none 0
noncomputable def Tj(P:Params):Obj:=tq []
noncomputable def o185(P:Params):Obj:=⟨.type "code",none,.fields #[.str "_law_word_and_gap" 421,.str "_law_word_and_gap" 422,.str "/claim/cut.py" 423,.int 188 0,.int 2 0,.int 0 0,.int 0 0,.int 3 0,.ref 182,.bool true,.int 181 0,.ref 183,.none,.none,.none,.ref 184,.int 424 0,.int 188 0,.str "/claim/cut.py" 425],#[]⟩
noncomputable def o186(P:Params):Obj:=mf 31 (.type "function") 3 [] .none .none .none (.str "law_whens_k29_papers_laid_and_retold" 250) none (.ref 185) .none 0
noncomputable def Th(P:Params):Obj:=tq []
noncomputable def o190(P:Params):Obj:=⟨.type "code",none,.fields #[.str "_law_by_cases" 427,.str "_law_by_cases" 428,.str "/claim/cut.py" 429,.int 201 0,.int 2 0,.int 0 0,.int 0 0,.int 3 0,.ref 187,.bool true,.int 181 0,.ref 188,.none,.none,.none,.ref 189,.int 430 0,.int 201 0,.str "/claim/cut.py" 431],#[]⟩
noncomputable def o191(P:Params):Obj:=mf 32 (.type "function") 3 [] .none .none .none (.str "law_whens_k29_papers_laid_and_retold" 250) none (.ref 190) .none 0
noncomputable def N5(P:Params):Obj:=tq []
noncomputable def o195(P:Params):Obj:=⟨.type "code",none,.fields #[.str "_law_short" 433,.str "_law_short" 434,.str "/claim/cut.py" 435,.int 214 0,.int 2 0,.int 0 0,.int 0 0,.int 3 0,.ref 192,.bool true,.int 181 0,.ref 193,.none,.none,.none,.ref 194,.int 436 0,.int 214 0,.str "/claim/cut.py" 437],#[]⟩
noncomputable def o196(P:Params):Obj:=mf 33 (.type "function") 3 [] .none .none .none (.str "law_whens_k29_papers_laid_and_retold" 250) none (.ref 195) .none 0
noncomputable def Rb(P:Params):Obj:=tq []
noncomputable def o200(P:Params):Obj:=⟨.type "code",none,.fields #[.str "_law_three" 439,.str "_law_three" 440,.str "/claim/cut.py" 441,.int 222 0,.int 2 0,.int 0 0,.int 0 0,.int 3 0,.ref 197,.bool true,.int 181 0,.ref 198,.none,.none,.none,.ref 199,.int 442 0,.int 222 0,.str "/claim/cut.py" 443],#[]⟩
noncomputable def o201(P:Params):Obj:=mf 34 (.type "function") 3 [] .none .none .none (.str "law_whens_k29_papers_laid_and_retold" 250) none (.ref 200) .none 0
noncomputable def G0(P:Params):Obj:=tq []
noncomputable def Ze(P:Params):Obj:=tq [.str "_law_feed_here" 448,.str "_law_things_here" 449,.str "_law_way" 450,.str "_law_found" 451]
noncomputable def t9(P:Params):Obj:=tq []
noncomputable def o207(P:Params):Obj:=⟨.type "code",none,.fields #[.str "_law_some_clash" 445,.str "_law_some_clash" 446,.str "/claim/cut.py" 447,.int 241 0,.int 2 0,.int 0 0,.int 0 0,.int 3 0,.ref 202,.bool true,.int 181 0,.ref 203,.none,.ref 204,.ref 205,.ref 206,.int 452 0,.int 241 0,.str "/claim/cut.py" 453],#[]⟩
noncomputable def o208(P:Params):Obj:=mf 35 (.type "function") 3 [] .none .none .none (.str "law_whens_k29_papers_laid_and_retold" 250) none (.ref 207) .none 0
noncomputable def EV(P:Params):Obj:=tq []
noncomputable def Xc(P:Params):Obj:=tq [.str "_law_paper" 458,.str "_law_many" 459,.str "_law_numbers" 460,.str "_law_found" 461,.str "_law_step" 462,.str "_law_parts" 463,.str "_law_words_here" 464,.str "_law_one" 465]
noncomputable def Si(P:Params):Obj:=tq []
noncomputable def o214(P:Params):Obj:=⟨.type "code",none,.fields #[.str "_law_shifted" 455,.str "_law_shifted" 456,.str "/claim/cut.py" 457,.int 253 0,.int 3 0,.int 0 0,.int 0 0,.int 3 0,.ref 209,.bool true,.int 181 0,.ref 210,.none,.ref 211,.ref 212,.ref 213,.int 466 0,.int 253 0,.str "/claim/cut.py" 467],#[]⟩
noncomputable def o215(P:Params):Obj:=mf 36 (.type "function") 3 [] .none .none .none (.str "law_whens_k29_papers_laid_and_retold" 250) none (.ref 214) .none 0
noncomputable def Yi(P:Params):Obj:=tq []
noncomputable def o219(P:Params):Obj:=⟨.type "code",none,.fields #[.str "law" 469,.str "law" 470,.str "/claim/cut.py" 471,.int 269 0,.int 1 0,.int 0 0,.int 0 0,.int 3 0,.ref 216,.bool true,.int 181 0,.ref 217,.none,.none,.none,.ref 218,.int 472 0,.int 269 0,.str "/claim/cut.py" 473],#[]⟩
noncomputable def o220(P:Params):Obj:=mf 37 (.type "function") 3 [] .none .none .none (.str "law_whens_k29_papers_laid_and_retold" 250) none (.ref 219) .none 0
noncomputable def tF(P:Params):BT:=(.node (boot_o_0 P) (.node (boot_o_1 P) (.node (o3 P) (.node (boot_o_7 P) (.node (o15 P) (.node (⟨.none,none,.fields #[],#[]⟩) (.node (o63 P) (lf (⟨.none,none,.fields #[],#[]⟩)) (lf (o191 P))) (.node (o95 P) (lf (mf 26 (.none) 0 [] .none .none .none .none none .none .none 0)) .nil)) (.node (mf 7 (.none) 0 [] .none .none .none .none none .none .none 0) (.node (b7 P) (lf (o143 P)) (lf (o207 P))) (.node (o111 P) (lf (o175 P)) .nil))) (.node (M2 P) (.node (o39 P) (.node (Rx P) (lf (mf 22 (.none) 0 [] .none .none .none .none none .none .none 0)) (lf (mf 34 (.none) 0 [] .none .none .none .none none .none .none 0))) (.node (⟨.none,none,.fields #[],#[]⟩) (lf (GM P)) .nil)) (.node (o55 P) (.node (mf 14 (.none) 0 [] .none .none .none .none none .none .none 0) (lf (o151 P)) (lf (o215 P))) (.node (G9 P) (lf (⟨.none,none,.fields #[],#[]⟩)) .nil)))) (.node (tq []) (.node (j6 P) (.node (Rm P) (.node (o67 P) (lf (o131 P)) (lf (o195 P))) (.node (mf 16 (.none) 0 [] .none .none .none .none none .none .none 0) (lf (⟨.none,none,.fields #[],#[]⟩)) .nil)) (.node (⟨.none,none,.fields #[],#[]⟩) (.node (Rh P) (lf (Zc P)) (lf (Xc P))) (.node (DW P) (lf (mf 30 (.none) 0 [] .none .none .none .none none .none .none 0)) .nil))) (.node (mf 3 (.none) 0 [] .none .none .none .none none .none .none 0) (.node (o43 P) (.node (o75 P) (lf (⟨.none,none,.fields #[],#[]⟩)) (lf (⟨.none,none,.fields #[],#[]⟩))) (.node (Zw P) (lf (o171 P)) .nil)) (.node (Ug P) (.node (⟨.none,none,.fields #[],#[]⟩) (lf (o155 P)) (lf (o219 P))) (.node (mf 20 (.none) 0 [] .none .none .none .none none .none .none 0) (lf (Th P)) .nil))))) (.node (boot_o_5 P) (.node (boot_o_9 P) (.node (⟨.none,none,.fields #[],#[]⟩) (.node (o33 P) (.node (⟨.none,none,.fields #[],#[]⟩) (lf (L6 P)) (lf (⟨.none,none,.fields #[],#[]⟩))) (.node (M7 P) (lf (o161 P)) .nil)) (.node (o49 P) (.node (o81 P) (lf (K6 P)) (lf (EV P))) (.node (⟨.none,none,.fields #[],#[]⟩) (lf (Wv P)) .nil))) (.node (U5 P) (.node (⟨.none,none,.fields #[],#[]⟩) (.node (mf 12 (.none) 0 [] .none .none .none .none none .none .none 0) (lf (mf 22 (.type "function") 3 [] .none .none .none (.str "law_whens_k29_papers_laid_and_retold" 250) none (.ref 136) .none 0)) (lf (o201 P))) (.node (o105 P) (lf (mf 28 (.none) 0 [] .none .none .none .none none .none .none 0)) .nil)) (.node (N7 P) (.node (o89 P) (lf (⟨.none,none,.fields #[],#[]⟩)) (lf (⟨.none,none,.fields #[],#[]⟩))) (.node (EM P) (lf (o185 P)) .nil)))) (.node (⟨.type "code",none,.fields #[.str "<module>" 182,.str "<module>" 183,.str "/claim/cut.py" 184,.int 1 0,.int 0 0,.int 0 0,.int 0 0,.int 0 0,.ref 11,.bool false,.int 181 0,.ref 12,.none,.none,.none,.none,.int 185 0,.int 1 0,.str "/claim/cut.py" 186],#[]⟩) (.node (o21 P) (.node (mf 5 (.none) 0 [] .none .none .none .none none .none .none 0) (.node (Wo P) (lf (tq [])) (lf (Rb P))) (.node (o101 P) (lf (⟨.type "code",none,.fields #[.str "_law_behind_all" 397,.str "_law_behind_all" 398,.str "/claim/cut.py" 399,.int 140 0,.int 4 0,.int 0 0,.int 0 0,.int 3 0,.ref 162,.bool true,.int 181 0,.ref 163,.none,.none,.none,.ref 164,.int 400 0,.int 140 0,.str "/claim/cut.py" 401],#[]⟩)) .nil)) (.node (X0 P) (.node (Ux P) (lf (mf 24 (.none) 0 [] .none .none .none .none none .none .none 0)) (lf (mf 36 (.none) 0 [] .none .none .none .none none .none .none 0))) (.node (o117 P) (lf (o181 P)) .nil))) (.node (o29 P) (.node (CV P) (.node (⟨.none,none,.fields #[],#[]⟩) (lf (Yu P)) (lf (t9 P))) (.node (mf 18 (.none) 0 [] .none .none .none .none none .none .none 0) (lf (⟨.none,none,.fields #[],#[]⟩)) .nil)) (.node (mf 10 (.none) 0 [] .none .none .none .none none .none .none 0) (.node (Xh P) (lf (V7 P)) .nil) (.node (o125 P) (lf (mf 32 (.none) 0 [] .none .none .none .none none .none .none 0)) .nil)))))) (.node (boot_o_2 P) (.node (boot_o_4 P) (.node (boot_o_8 P) (.node (o16 P) (.node (mf 4 (.none) 0 [] .none .none .none .none none .none .none 0) (.node (FS P) (lf (L5 P)) (lf (N5 P))) (.node (o96 P) (lf (o160 P)) .nil)) (.node (o48 P) (.node (mf 13 (.none) 0 [] .none .none .none .none none .none .none 0) (lf (o144 P)) (lf (o208 P))) (.node (X3 P) (lf (o176 P)) .nil))) (.node (⟨.none,none,.fields #[],#[]⟩) (.node (E8 P) (.node (FE P) (lf (⟨.type "code",none,.fields #[.str "_law_may" 358,.str "_law_may" 359,.str "/claim/cut.py" 360,.int 96 0,.int 2 0,.int 0 0,.int 0 0,.int 3 0,.ref 133,.bool true,.int 181 0,.ref 134,.none,.none,.none,.ref 135,.int 361 0,.int 96 0,.str "/claim/cut.py" 362],#[]⟩)) (lf (o200 P))) (.node (mf 17 (.none) 0 [] .none .none .none .none none .none .none 0) (lf (⟨.none,none,.fields #[],#[]⟩)) .nil)) (.node (o56 P) (.node (o88 P) (lf (Xb P)) (lf (Yi P))) (.node (⟨.none,none,.fields #[],#[]⟩) (lf (mf 31 (.none) 0 [] .none .none .none .none none .none .none 0)) .nil)))) (.node (⟨.none,none,.fields #[.int 3 0,.int 0 0,.ref 21,.int 5 0,.int 0 0,.ref 28,.int 7 0,.int 0 0,.ref 33,.int 12 0,.int 0 0,.ref 38,.int 14 0,.int 0 0,.ref 43,.int 20 0,.int 0 0,.ref 48,.int 23 0,.int 0 0,.ref 55,.int 25 0,.int 0 0,.ref 62,.int 39 0,.int 0 0,.ref 67,.int 50 0,.int 0 0,.ref 74,.int 59 0,.int 0 0,.ref 81,.int 62 0,.int 0 0,.ref 88,.int 68 0,.int 0 0,.ref 95,.int 70 0,.int 0 0,.ref 100,.int 75 0,.int 0 0,.ref 105,.int 78 0,.int 0 0,.ref 110,.int 83 0,.int 0 0,.ref 117,.int 89 0,.int 0 0,.ref 124,.int 92 0,.int 0 0,.ref 131,.int 96 0,.int 0 0,.ref 136,.int 105 0,.int 0 0,.ref 143,.int 109 0,.int 0 0,.ref 150,.int 115 0,.int 0 0,.ref 155,.int 120 0,.int 0 0,.ref 160,.int 140 0,.int 0 0,.ref 165,.int 152 0,.int 0 0,.ref 170,.int 158 0,.int 0 0,.ref 175,.int 169 0,.int 0 0,.ref 180,.int 188 0,.int 0 0,.ref 185,.int 201 0,.int 0 0,.ref 190,.int 214 0,.int 0 0,.ref 195,.int 222 0,.int 0 0,.ref 200,.int 241 0,.int 0 0,.ref 207,.int 253 0,.int 0 0,.ref 214,.int 269 0,.int 0 0,.ref 219],#[]⟩) (.node (mf 2 (.none) 0 [] .none .none .none .none none .none .none 0) (.node (⟨.none,none,.fields #[],#[]⟩) (.node (o68 P) (lf (o132 P)) (lf (o196 P))) (.node (o100 P) (lf (mf 27 (.none) 0 [] .none .none .none .none none .none .none 0)) .nil)) (.node (Qo P) (.node (⟨.none,none,.fields #[],#[]⟩) (lf (FI P)) (lf (Si P))) (.node (mf 19 (.none) 0 [] .none .none .none .none none .none .none 0) (lf (o180 P)) .nil))) (.node (o28 P) (.node (o44 P) (.node (Oy P) (lf (M9 P)) (lf (Ze P))) (.node (⟨.none,none,.fields #[],#[]⟩) (lf (G5 P)) .nil)) (.node (Xf P) (.node (Po P) (lf (o156 P)) (lf (o220 P))) (.node (o124 P) (lf (⟨.none,none,.fields #[],#[]⟩)) .nil))))) (.node (boot_o_6 P) (.node (boot_o_10 P) (.node (Yp P) (.node (o34 P) (.node (mf 11 (.none) 0 [] .none .none .none .none none .none .none 0) (lf (mf 21 (.none) 0 [] .none .none .none .none none .none .none 0)) (lf (mf 33 (.none) 0 [] .none .none .none .none none .none .none 0))) (.node (⟨.none,none,.fields #[],#[]⟩) (lf (tq [])) .nil)) (.node (C5 P) (.node (o82 P) (lf (⟨.none,none,.fields #[],#[]⟩)) (lf (⟨.none,none,.fields #[],#[]⟩))) (.node (N3 P) (lf (⟨.none,none,.fields #[],#[]⟩)) .nil))) (.node (J9 P) (.node (mf 6 (.none) 0 [] .none .none .none .none none .none .none 0) (.node (o74 P) (lf (E1 P)) (lf (G0 P))) (.node (o106 P) (lf (o170 P)) .nil)) (.node (⟨.none,none,.fields #[],#[]⟩) (.node (W2 P) (lf (mf 25 (.none) 0 [] .none .none .none .none none .none .none 0)) (lf (mf 37 (.none) 0 [] .none .none .none .none none .none .none 0))) (.node (y6 P) (lf (o186 P)) .nil)))) (.node (⟨.type "frame",none,.plain,#[some (.ref 13),some (.ref 3),some (.ref 3),none,some (.str "__main__" 164),none,some (.ref 0)]⟩) (.node (o22 P) (.node (o38 P) (.node (⟨.none,none,.fields #[],#[]⟩) (lf (⟨.none,none,.fields #[],#[]⟩)) (lf (⟨.none,none,.fields #[],#[]⟩))) (.node (CI P) (lf (mf 27 (.type "function") 3 [] .none .none .none (.str "law_whens_k29_papers_laid_and_retold" 250) none (.ref 165) .none 0)) .nil)) (.node (mf 9 (.none) 0 [] .none .none .none .none none .none .none 0) (.node (K3 P) (lf (o150 P)) (lf (o214 P))) (.node (o118 P) (lf (Tj P)) .nil))) (.node (W9 P) (.node (⟨.none,none,.fields #[],#[]⟩) (.node (BJ P) (lf (mf 23 (.none) 0 [] .none .none .none .none none .none .none 0)) (lf (mf 35 (.none) 0 [] .none .none .none .none none .none .none 0))) (.node (o110 P) (lf (mf 29 (.none) 0 [] .none .none .none .none none .none .none 0)) .nil)) (.node (o62 P) (.node (mf 15 (.none) 0 [] .none .none .none .none none .none .none 0) (lf (⟨.none,none,.fields #[],#[]⟩)) .nil) (.node (Xi P) (lf (o190 P)) .nil)))))))
noncomputable def tB(P:Params):BT:=(.node (boot_o_0 P) (.node (boot_o_1 P) (.node (boot_o_3 P) (lf (boot_o_7 P)) (lf (tq []))) (.node (boot_o_5 P) (lf (boot_o_9 P)) (lf (⟨.type "code",none,.fields #[.str "<module>" 182,.str "<module>" 183,.str "/claim/cut.py" 184,.int 1 0,.int 0 0,.int 0 0,.int 0 0,.int 0 0,.ref 11,.bool false,.int 181 0,.ref 12,.none,.none,.none,.none,.int 185 0,.int 1 0,.str "/claim/cut.py" 186],#[]⟩)))) (.node (boot_o_2 P) (.node (boot_o_4 P) (lf (boot_o_8 P)) (lf (⟨.none,none,.fields #[],#[]⟩))) (.node (boot_o_6 P) (lf (boot_o_10 P)) (lf (⟨.type "frame",none,.plain,#[some (.ref 13),some (.ref 3),some (.ref 3),none,some (.str "__main__" 164),none,some (.ref 0)]⟩)))))
def env0:Env:={scope:=prog.main.scope,locals:=mainNs,globals:=mainNs,cells:=[],code:=.ref 13,frame:=some 14}
def vM(a n:Nat):List Stmt:=(prog.main.body.drop a).take n
end H29
set_option maxHeartbeats 0
namespace H29
open PySem PySem.W HD
noncomputable abbrev TV(t:BT)(n k:Nat)(os:OsState):SharedT:=⟨t,n,{},⟨[]⟩,{},k,os⟩
section
variable (w:World)(p:Program)(b:List Stmt)(os:OsState)
noncomputable abbrev cB(b:List Stmt):Code:=Code.body b env0
theorem Zg:segRunT treeTable p w 11 (some (.ref 6)) 1 1126 (TV (tB w.params) 15 187 os) (piecesOf (vM 0 38) env0 (cB b) q0 [topFrame q0])=some (.next,TV (tF w.params) 221 475 os,cB b,⟨269,0,294,15⟩):=by
 refine byRow2 "special-get-raises" (P:=fun w=>segRunT treeTable p w 11 (some (.ref 6)) 1 1126 (TV (tB w.params) 15 187 os) (piecesOf (vM 0 38) env0 (cB b) q0 [topFrame q0])=some (.next,TV (tF w.params) 221 475 os,cB b,⟨269,0,294,15⟩)) (fun w=>?_) (fun w=>?_) w
 ·rw[Fast.te10110043849684766642,Fast.te14364793385576792824];kernel_rfl
 ·rw[Fast.te10110043849684766642,Fast.te14364793385576792824];kernel_rfl
end
noncomputable abbrev bE:List Stmt:=behindTheImports prog
theorem Qj:bE=vM 0 38++[]:=by kernel_rfl
noncomputable abbrev SB(w:World)(os:OsState):SharedT:=⟨tB w.params,15,{},⟨[]⟩,{},187,os⟩
section
variable (w:World)(os:OsState)
theorem Ua:topGo treeTable prog w 11 (some (.ref 6)) 12 ⟨boot_heap w.params,⟨[]⟩,boot_drawn,boot_toks,os⟩ (topStub prog)=some ((SB w os).abs,⟨denote treeTable (.body bE env0),.body bE env0,q0,[topFrame q0]⟩):=by
 rw[Fast.te15667345088766844465,Fast.te11892475500146522536,Fast.te14364793385576792824];kernel_rfl
theorem Yk:segRun treeTable prog w 11 (some (.ref 6)) 1 1 (SB w os).abs (blockOf bE env0 (.body bE env0) q0 [topFrame q0])=some (.next,(SB w os).abs,.body bE env0,q0):=by
 kernel_rfl
theorem Z2(b:List Stmt):topRun treeTable prog w 11 (some (.ref 6)) 2 (TV (tF w.params) 221 475 os).abs ⟨doneF .next,cB b,⟨269,0,294,15⟩,[topFrame q0]⟩=some (TV (tF w.params) 221 475 os).abs:=by
 kernel_rfl
theorem Ts(b:List Stmt):topRun treeTable prog w 11 (some (.ref 6)) (1126+2) (TV (tB w.params) 15 187 os).abs (restOf (vM 0 38++[]) env0 (.body b env0) q0 [topFrame q0])=some (TV (tF w.params) 221 475 os).abs:=by
 exact piece_app (segRun_of (Zg w prog b os)) (piece_nil (Z2 w os b))
noncomputable def H1(P:Params):Heap:=absHeap (tF P) 221 {}
theorem i8:topRun treeTable prog w 11 (some (.ref 6)) (12+(1+((1126+2)))) ⟨boot_heap w.params,⟨[]⟩,boot_drawn,boot_toks,os⟩ (topStub prog)=some ⟨H1 w.params,⟨[]⟩,{},475,os⟩:=by
 refine go_top (Ua w os) (piece_block (Yk w os) ?_);rw[Qj];exact Ts w os _
end
def qv:Program:=view prog [1,2,3,4,5,6,7,9,10,11,12,13,14,15,16,17,18,19,20,21,22,23,24,25,26,27,28,29,30,31,32,33,34,35,36,37]
def lo:List Str:=[Str.ofString "ROW_NUMBERS_END"]
abbrev lw:OpenLaw:=PySem.Challenge.rw_whens_k29_papers_laid_and_retold
abbrev XT:Shared->Bool:=fun s=>xlAt qv [] s&&recOk (RowW.records lw.row.toRowW) s
theorem J3(N:Nat)(h:Nat.ble 600 N=true):∀ w:World,(fencedOpening treeTable prog w N).map (fun s=>(s.heap,s.gens,s.drawn,s.toks))=some (boot_heap w.params,⟨[]⟩,boot_drawn,boot_toks):=boot_open (by kernel_rfl) h (fun _=>rfl)
theorem Pi(w:World):((boot_heap w.params).isNs mainGlobals&&(⟨[]⟩:Array GenState).size==0,(boot_heap w.params).objs.size,(boot_heap w.params).nsMap mainGlobals "__annotations__")=(true,11,some (.ref 6)):=by kernel_rfl
theorem Yb(w:World)(os:OsState):(staticsOk (importedModules prog.main.body) (boot_heap w.params) (H1 w.params)&&namesBound prog (H1 w.params)&&gensDone ⟨H1 w.params,⟨[]⟩,{},475,os⟩&&laidKept (boot_heap w.params) (H1 w.params))=true:=by kernel_rfl
theorem D0(w:World)(os:OsState):openSeen qv lo (importedModules prog.main.body) XT true ⟨H1 w.params,⟨[]⟩,{},475,os⟩=openGood qv lo:=by
 rw[Fast.te4187177175401517315];kernel_rfl
theorem left(H:Hook)(hH:∀ (w:World) (os:OsState),H.obs ⟨H1 w.params,⟨[]⟩,{},475,os⟩=H.val w):LeftO prog qv lo XT H.obs H.val 3276 :=
 LeftO.of_pieces (H₀:=boot_heap) (H₁:=H1) (gs₀:=⟨[]⟩) (gs₁:=⟨[]⟩) (d₀:=boot_drawn) (d₁:={}) (k₀:=boot_toks) (k₁:=475) (m₀:=11) (ann:=some (.ref 6)) (M:=1141) (J3 3276 (by decide)) Pi i8 (by decide) fun w=>funext fun os=>by rw[Yb w os,D0 w os,hH w os]
theorem head{H:Hook}{d:DefRec}{kwd:List (Str×Expr)}(hH:∀ (w:World) (os:OsState),H.obs ⟨H1 w.params,⟨[]⟩,{},475,os⟩=H.val w)(k1:lw.row.wellSaid=true)(hdef:defOf qv lw.row.name=some (d,kwd))(hp:lw.row.prog.theDef lw.row.name=some (d.params,d.body,d.scope))(hk:kwWritten? d.params.kwonlyargs d.params.kw_defaults=some kwd)
  (hw:lw.row.toRowW.promised) (call:WalkO qv lo (XL qv []) H.says lw.row.toRowW d kwd fun f vs=>PySem.call f vs):lw.row.Holds :=
 holds_open (q:=qv) (loose:=lo) (Xt:=XT) (XP:=XL qv []) (Yf:=H.obs) (Ya:=H.val) (YP:=H.says) (N:=3276) (left H hH) (Hook.of H) (Hook.keeps H) (fun s e=>xl_of s (Bool.and_eq_true_iff.mp e).1) XL.keeps hdef hp hk (fun s e=>recFacts_of (Bool.and_eq_true_iff.mp e).2) (by rfl) k1 (by decide +kernel) ⟨rfl,rfl,rfl,rfl,rfl,by decide +kernel⟩ hw call
end H29
namespace K29
open PySem PySem.Spec PyProof.Rows L2 DL
def Tl:List (Str×Stmt×Addr):=("rows_named",pY,22)::("with_rows",pP,29)::("laid_step",tI,34)::("laid_behind",nV,39)::("retold_step",qH,44)::("retold",nF,49)::("_law_feed",sN,56)::("_law_draw",fM,63)::("_law_things",qS,68)::("_law_words",iF,75)::("_law_back",lP,82)::("_law_sign",iL,89)::("_law_sides",iO,96)::("_law_all_signs",qA,101)::("_law_kinds",kH,106)::("_law_all_ends",qB,111)::("_law_lowest",oH,118)::("_law_added",pD,125)::("_law_time",rY,132)::("_law_two",kZ,144)::("_law_spot",sP,151)::("_law_compared",pL,156)::("_law_behind",rC,161)::("_law_split",sI,171)::("_law_against",qF,176)::("_law_ring",nX,181)::("_law_word_and_gap",tD,186)::("_law_by_cases",rN,191)::("_law_short",qN,196)::("_law_three",rF,201)::("_law_some_clash",rK,208)::("_law_shifted",mU,215)::("law",uI,220)::[]
def AL:List Str:=["tuple","len","list","int","sorted","range","zip","dict","abs","set","min","repr"]
theorem all_mk{l:PySem.W.OpenLaw}{w:World}{K:PySem.W.Frag}{h:Heap}{mg:Str->Option Value}{fa:Addr}(X:K.In h)(G:h.Ns mainGlobals mg)(hfa:mg "law"=some (.ref fa))(D:∀ (i:Nat) (nm:Str) (st:Stmt) (a:Addr),Tl[i]?=some (nm,st,a)->Df K mg nm st a)(Z:∀ (i:Nat) (x:Str),AL[i]?=some x->mg x=none)
  {kL:Addr} {n_ROW_NUMBERS_END:Nat} {t_ROW_NUMBERS_END_0 u_ROW_NUMBERS_END_0 t_ROW_NUMBERS_END_1 u_ROW_NUMBERS_END_1 t_ROW_NUMBERS_END_2 u_ROW_NUMBERS_END_2 t_ROW_NUMBERS_END_3 u_ROW_NUMBERS_END_3 t_ROW_NUMBERS_END_4 u_ROW_NUMBERS_END_4 t_ROW_NUMBERS_END_5 u_ROW_NUMBERS_END_5 t_ROW_NUMBERS_END_6 u_ROW_NUMBERS_END_6:Tok} (yS:PySem.W.nsIn K mainGlobals "ROW_NUMBERS_END"=some (some (.ref kL))) (xG:K.lookup kL=some ⟨.type "dict",none,.dict #[⟨PyData.keyHash w.params "turned",.str "turned" t_ROW_NUMBERS_END_0,.int (2) u_ROW_NUMBERS_END_0⟩,⟨PyData.keyHash w.params "behind",.str "behind" t_ROW_NUMBERS_END_1,.int (3) u_ROW_NUMBERS_END_1⟩,⟨PyData.keyHash w.params "both",.str "both" t_ROW_NUMBERS_END_2,.int (3) u_ROW_NUMBERS_END_2⟩,⟨PyData.keyHash w.params "ends",.str "ends" t_ROW_NUMBERS_END_3,.int (2) u_ROW_NUMBERS_END_3⟩,⟨PyData.keyHash w.params "strike",.str "strike" t_ROW_NUMBERS_END_4,.int (3) u_ROW_NUMBERS_END_4⟩,⟨PyData.keyHash w.params "add",.str "add" t_ROW_NUMBERS_END_5,.int (3) u_ROW_NUMBERS_END_5⟩,⟨PyData.keyHash w.params "cases",.str "cases" t_ROW_NUMBERS_END_6,.int (2) u_ROW_NUMBERS_END_6⟩] n_ROW_NUMBERS_END,#[]⟩)  (y_ROW_NUMBERS_END:(kL==sysModules)=false)
  : ∃ fd:FuncData,(∀ (s:Shared) (v:Value),BindsTo s fd ⟨[v],[]⟩ [("_law_script",v)])/\∀ base:Heap,K.In base->base.Ns mainGlobals mg->FnOk l.prog w K mg base fU 13 fa fd ["_law_script"] (LSp K 1 nB):=by
 have Bk:=PySem.W.mg_of X G yS
 have Af:KD K w kL kW:=⟨[("turned",.int (2)),("behind",.int (3)),("both",.int (3)),("ends",.int (2)),("strike",.int (3)),("add",.int (3)),("cases",.int (2))],⟨_,_,_,xG,rfl,rfl,rfl,rfl,⟨rfl,⟨_,rfl⟩,⟨_,rfl⟩,⟨rfl,⟨_,rfl⟩,⟨_,rfl⟩,⟨rfl,⟨_,rfl⟩,⟨_,rfl⟩,⟨rfl,⟨_,rfl⟩,⟨_,rfl⟩,⟨rfl,⟨_,rfl⟩,⟨_,rfl⟩,⟨rfl,⟨_,rfl⟩,⟨_,rfl⟩,⟨rfl,⟨_,rfl⟩,⟨_,rfl⟩,True.intro⟩⟩⟩⟩⟩⟩⟩,by show List.Nodup (["turned","behind","both","ends","strike","add","cases"]:List Str);decide +kernel,y_ROW_NUMBERS_END⟩,fun Z m H=>⟨_,_,rfl,by simp only[RP],⟨_,_,rfl,by simp only[RP],⟨_,_,rfl,by simp only[RP],⟨_,_,rfl,by simp only[RP],⟨_,_,rfl,by simp only[RP],⟨_,_,rfl,by simp only[RP],⟨_,_,rfl,by simp only[RP],rfl⟩⟩⟩⟩⟩⟩⟩⟩
 have bB:=Z 0 _ rfl
 have bN:=Z 1 _ rfl
 have nA:=Z 2 _ rfl
 have hX:=Z 3 _ rfl
 have nT:=Z 4 _ rfl
 have eM:=Z 5 _ rfl
 have Aq:=Z 6 _ rfl
 have oV:=Z 7 _ rfl
 have xE:=Z 8 _ rfl
 have xR:=Z 9 _ rfl
 have zY:=Z 10 _ rfl
 have gX:=Z 11 _ rfl
 refine u6 (D 32 _ _ _ rfl) hfa (fun _ _ _ _ _ _=>kI (by intros;rfl)) fun base=>?_
 have wP:=V9 (P:=l.prog) (w:=w) (base:=base) (D 6 _ _ _ rfl) nA hX Tw
 have bG:=Z1 (P:=l.prog) (w:=w) (base:=base) (D 7 _ _ _ rfl) bN AZ
 have Dw:=a9 (P:=l.prog) (w:=w) (base:=base) (D 8 _ _ _ rfl) bG nT eM bB Aq Zi
 have gP:=Pq (P:=l.prog) (w:=w) (base:=base) (D 19 _ _ _ rfl) bG bN S6
 have fW:=Zx (P:=l.prog) (w:=w) (base:=base) (D 14 _ _ _ rfl) oV bB FT
 have Dt:=Zo (P:=l.prog) (w:=w) (base:=base) (D 23 _ _ _ rfl) bG bN bB Uh
 have dU:=Sm (P:=l.prog) (w:=w) (base:=base) (D 9 _ _ _ rfl) GG
 have iA:=FB (P:=l.prog) (w:=w) (base:=base) (D 10 _ _ _ rfl) dU Qa
 have Di:=Wx (P:=l.prog) (w:=w) (base:=base) (D 24 _ _ _ rfl) gP fW Dt dU bG iA bB Rj
 have eD:=Ud (P:=l.prog) (w:=w) (base:=base) (D 12 _ _ _ rfl) Tx
 have Bb:=EZ (P:=l.prog) (w:=w) (base:=base) (D 15 _ _ _ rfl) eD Yh
 have oI:=Wy (P:=l.prog) (w:=w) (base:=base) (D 16 _ _ _ rfl) xE F6
 have Ca:=t4 (P:=l.prog) (w:=w) (base:=base) (D 18 _ _ _ rfl) bG oI Ps
 have zF:=CT (P:=l.prog) (w:=w) (base:=base) (D 17 _ _ _ rfl) oI Vl
 have nY:=J5 (P:=l.prog) (w:=w) (base:=base) (D 25 _ _ _ rfl) Bb bG Ca zF bN eM zY bB Xq
 have wT:=DF (P:=l.prog) (w:=w) (base:=base) (D 28 _ _ _ rfl) nY bG bN j7
 have fN:aS l.prog w K mg base "_law_sign" iL 89 jJ 6 (eQ 3):=(zW (j:=2) (D 11 _ _ _ rfl) (zW (j:=1) (D 11 _ _ _ rfl) (zW (j:=0) (D 11 _ _ _ rfl) (vE (P:=l.prog) (w:=w) (base:=base) (k:=0+3) (sp:=eQ 0) (D 11 _ _ _ rfl) (fun _ _ _ _ _ _=>Bf (by intros;rfl)) fun _ _ _ h=>h) iA (Bx 0)) iA (Bx 1)) iA (Bx 2))
 have wR:=Sc (P:=l.prog) (w:=w) (base:=base) (D 26 _ _ _ rfl) gP fW bG eD dU fN bN bB D3
 have Br:=DX (P:=l.prog) (w:=w) (base:=base) (D 27 _ _ _ rfl) gP fW bG eD dU fN bN bB Xm
 have yN:=GB (P:=l.prog) (w:=w) (base:=base) (D 13 _ _ _ rfl) eD fN bB Zr
 have uE:=Vj (P:=l.prog) (w:=w) (base:=base) (D 20 _ _ _ rfl) fN eD bN hX K9
 have xK:=z7 (P:=l.prog) (w:=w) (base:=base) (D 21 _ _ _ rfl) hX bB Wk
 have wA:=v6 (P:=l.prog) (w:=w) (base:=base) (D 22 _ _ _ rfl) dU yN eD uE iA xK oV eM bN nT xR bB z6
 have Ah:=U7 (P:=l.prog) (w:=w) (base:=base) (D 29 _ _ _ rfl) bG fW dU wA bN bB K8
 have wD:=y4 (P:=l.prog) (w:=w) (base:=base) (D 30 _ _ _ rfl) bG Di wT wR Br Ah nY j3
 have mE:aS l.prog w K mg base "_law_shifted" mU 215 mG 6 (gW 5):=(sG (j:=4) (D 31 _ _ _ rfl) (sG (j:=3) (D 31 _ _ _ rfl) (sG (j:=2) (D 31 _ _ _ rfl) (sG (j:=1) (D 31 _ _ _ rfl) (sG (j:=0) (D 31 _ _ _ rfl) (vE (P:=l.prog) (w:=w) (base:=base) (k:=0+1) (sp:=gW 0) (D 31 _ _ _ rfl) (fun _ _ _ _ _ _=>qI (by intros;rfl)) G7) bB (sO 0)) bB (sO 1)) bB (sO 2)) bB (sO 3)) bB (sO 4))
 have lV:=DP (P:=l.prog) (w:=w) (base:=base) (D 1 _ _ _ rfl) bB bN Pu
 have mN:=BN (P:=l.prog) (w:=w) (base:=base) (D 0 _ _ _ rfl) Bk Af K1
 have W7:=vE (P:=l.prog) (w:=w) (base:=base) (ps:=lX) (k:=2*0+2) (sp:=gD 0) (D 3 _ _ _ rfl) (fun _ _ _ _ _ _=>eE (by intros;rfl)) Wz
 have j8:=qT (j:=0) (P:=l.prog) (w:=w) (base:=base) (D 2 _ _ _ rfl) lV mN W7 bB (oY 0)
 have F8:=sD (j:=0) (P:=l.prog) (w:=w) (base:=base) (D 3 _ _ _ rfl) j8 bB (qE 0)
 have X2:=qT (j:=1) (P:=l.prog) (w:=w) (base:=base) (D 2 _ _ _ rfl) lV mN F8 bB (oY 1)
 have Sa:=sD (j:=1) (P:=l.prog) (w:=w) (base:=base) (D 3 _ _ _ rfl) X2 bB (qE 1)
 have Pj:=qT (j:=2) (P:=l.prog) (w:=w) (base:=base) (D 2 _ _ _ rfl) lV mN Sa bB (oY 2)
 have DB:=sD (j:=2) (P:=l.prog) (w:=w) (base:=base) (D 3 _ _ _ rfl) Pj bB (qE 2)
 have Y0:=qT (j:=3) (P:=l.prog) (w:=w) (base:=base) (D 2 _ _ _ rfl) lV mN DB bB (oY 3)
 have p5:=sD (j:=3) (P:=l.prog) (w:=w) (base:=base) (D 3 _ _ _ rfl) Y0 bB (qE 3)
 have AR:=qT (j:=4) (P:=l.prog) (w:=w) (base:=base) (D 2 _ _ _ rfl) lV mN p5 bB (oY 4)
 have lE:=sD (j:=4) (P:=l.prog) (w:=w) (base:=base) (D 3 _ _ _ rfl) AR bB (qE 4)
 have BE:=vE (P:=l.prog) (w:=w) (base:=base) (ps:=mH) (k:=2*0+1) (sp:=iR 0) (D 5 _ _ _ rfl) (fun _ _ _ _ _ _=>eE (by intros;rfl)) Va
 have Z6:=qZ (j:=0) (P:=l.prog) (w:=w) (base:=base) (D 4 _ _ _ rfl) BE bB (qU 0)
 have Uk:=rA (j:=0) (P:=l.prog) (w:=w) (base:=base) (D 5 _ _ _ rfl) Z6 bB (sY 0)
 have Zk:=qZ (j:=1) (P:=l.prog) (w:=w) (base:=base) (D 4 _ _ _ rfl) Uk bB (qU 1)
 have S9:=rA (j:=1) (P:=l.prog) (w:=w) (base:=base) (D 5 _ _ _ rfl) Zk bB (sY 1)
 have Ys:=qZ (j:=2) (P:=l.prog) (w:=w) (base:=base) (D 4 _ _ _ rfl) S9 bB (qU 2)
 have CL:=rA (j:=2) (P:=l.prog) (w:=w) (base:=base) (D 5 _ _ _ rfl) Ys bB (sY 2)
 have Su:=qZ (j:=3) (P:=l.prog) (w:=w) (base:=base) (D 4 _ _ _ rfl) CL bB (qU 3)
 have Y7:=rA (j:=3) (P:=l.prog) (w:=w) (base:=base) (D 5 _ _ _ rfl) Su bB (sY 3)
 have Sd:=qZ (j:=4) (P:=l.prog) (w:=w) (base:=base) (D 4 _ _ _ rfl) Y7 bB (qU 4)
 have pB:=rA (j:=4) (P:=l.prog) (w:=w) (base:=base) (D 5 _ _ _ rfl) Sd bB (sY 4)
 exact f6 (D 32 _ _ _ rfl) wP Dw wD gP dU fW mE bG lE pB nA eM bN bB gX EX
theorem walk{l:PySem.W.OpenLaw}{q:Program}{loose:List Str}{XP:(Str->Option Value)->Heap->Prop}{YP:World->Heap->Prop}{d:DefRec}{K:Params->PySem.W.Frag}(hn:l.most=some 63)(hdf:d.params.defaults=[])
  (hY:∀ (w:World) (h:Heap),YP w h->(K w.params).In h)
  (F:∀ (w:World) (mg:Str->Option Value) (fa:Addr) (h:Heap),(K w.params).In h->h.Ns mainGlobals mg->mg d.name=some (.ref fa) ->
   ∃ fd:FuncData,(∀ (s:Shared) (u:Value),BindsTo s fd ⟨[u],[]⟩ [("_law_script",u)])/\∀ base:Heap,(K w.params).In base->base.Ns mainGlobals mg->FnOk l.prog w (K w.params) mg base fU 13 fa fd ["_law_script"] (LSp (K w.params) 1 nB)) :
  PySem.W.WalkO q loose XP YP l.row.toRowW d [] (fun f vs=>PySem.call f vs) :=
 L2.walk_of (n:=63) (k:=13) (x:="_law_script") (CX:=fun _=>fU) (sp:=fun w=>LSp (K w.params) 1 nB) hn (by decide) hdf ⟨rfl,rfl,by decide,by decide⟩ hY F (fun _ _ a ns hl _ hS=>Wu hS ⟨ns,rfl,hl,fun _=>rfl⟩) fun _ _ _ _ _ z=>z
noncomputable def kk(P:Params):PySem.W.Frag:=[(3,H29.o3 P),(15,H29.o15 P),(21,H29.o21 P),(22,H29.o22 P),(28,H29.o28 P),(29,H29.o29 P),(33,H29.o33 P),(34,H29.o34 P),(38,H29.o38 P),(39,H29.o39 P),(43,H29.o43 P),(44,H29.o44 P),(48,H29.o48 P),(49,H29.o49 P),(55,H29.o55 P),(56,H29.o56 P),(62,H29.o62 P),(63,H29.o63 P),(67,H29.o67 P),(68,H29.o68 P),(74,H29.o74 P),(75,H29.o75 P),(81,H29.o81 P),(82,H29.o82 P),(88,H29.o88 P),(89,H29.o89 P),(95,H29.o95 P),(96,H29.o96 P),(100,H29.o100 P),(101,H29.o101 P),(105,H29.o105 P),(106,H29.o106 P),(110,H29.o110 P),(111,H29.o111 P),(117,H29.o117 P),(118,H29.o118 P),(124,H29.o124 P),(125,H29.o125 P),(131,H29.o131 P),(132,H29.o132 P),(143,H29.o143 P),(144,H29.o144 P),(150,H29.o150 P),(151,H29.o151 P),(155,H29.o155 P),(156,H29.o156 P),(160,H29.o160 P),(161,H29.o161 P),(170,H29.o170 P),(171,H29.o171 P),(175,H29.o175 P),(176,H29.o176 P),(180,H29.o180 P),(181,H29.o181 P),(185,H29.o185 P),(186,H29.o186 P),(190,H29.o190 P),(191,H29.o191 P),(195,H29.o195 P),(196,H29.o196 P),(200,H29.o200 P),(201,H29.o201 P),(207,H29.o207 P),(208,H29.o208 P),(214,H29.o214 P),(215,H29.o215 P),(219,H29.o219 P),(220,H29.o220 P)]
end K29
open PySem PySem.W PyProof.Rows
set_option maxRecDepth 100000 in
set_option maxHeartbeats 0 in
theorem PySem.Challenge.cw_whens_k29_papers_laid_and_retold_holds : PySem.Challenge.rw_whens_k29_papers_laid_and_retold.Holds := by
 w_on;refine PySem.W.holds_law (by kernel_rfl) fun said=>?_;refine H29.head (H:=kHook K29.kk [3,15,21,22,28,29,33,34,38,39,43,44,48,49,55,56,62,63,67,68,74,75,81,82,88,89,95,96,100,101,105,106,110,111,117,118,124,125,131,132,143,144,150,151,155,156,160,161,170,171,175,176,180,181,185,186,190,191,195,196,200,201,207,208,214,215,219,220] (fun _=>by kernel_rfl)) (fun w os=>by kernel_rfl) (by assumption) (by rfl) (by rfl) (by rfl) ?hw ?hc;(case hw=>w_witness2)
 k_fill
 refine K29.walk (l:=PySem.Challenge.rw_whens_k29_papers_laid_and_retold) rfl rfl (fun w h Y=>PySem.W.kIn_of Y) ?F
 case F =>
  intro w mg fa h KX G hmg
  refine' K29.all_mk   (kL:=15) KX G hmg (DL.dfs_of KX G _ ?D) (DL.nos_of KX G _ ?Z) ?yS ?xG ?y_ROW_NUMBERS_END
  (case D=>repeat' first | exact True.intro | refine⟨DL.di (by kernel_rfl) rfl (by kernel_rfl) (by kernel_rfl),?_⟩)
  (case Z=>repeat' first | exact True.intro | refine⟨by kernel_rfl,?_⟩)
  (case yS=>kernel_rfl)
  (case xG=>exact rfl)
  (case y_ROW_NUMBERS_END=>rfl)
#print axioms PySem.Challenge.cw_whens_k29_papers_laid_and_retold_holds
