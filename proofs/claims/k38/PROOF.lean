import PyProof.Rows.All
import Wide.All
import OpenK.AllK
import Wide.FinOn
import Lean
import PyProof.EqAt
import PyProof.EqKinds
import PyProof.TupleCall
import PyProof.ListMulRoad
import KE.KRevIter
import PyProof.ZipIter
import PyProof.TupleIter
import PyProof.Rows.SortWalk
import PyProof.Rows.SortStr
import PyProof.Rows.StrWeight2
import PyProof.ConsumeWalk
import PyProof.SliceStr2
import PyProof.ListRange
import PyProof.TupleOfSeq
import PyProof.P3In
import PyProof.AttrMissHeap
import KE.KDictOf
import PyProof.StrBlockI
import PyProof.WalksEnum
import PyProof.EnumMake
import PyProof.DictWalks
import PyProof.SetRoads
import PyProof.SetNew
import PyProof.Rows.SetFrom
import PyProof.CollectWalk
import PyProof.StrWalks
import PyProof.FString5
import PyProof.Rows.SortShell
import PyProof.SeqI3
import PyProof.SliceList
import Open.Tops
import PyProof.DictDisplay
import PyProof.Rows.TupDisplay
import PySem.Challenge.RW_whens_k38_plain_mays_and_parts
set_option Elab.async false
set_option linter.all false
set_option maxRecDepth 100000
set_option maxHeartbeats 4000000
namespace L2
open PySem PySem.Spec PyProof.Rows
noncomputable instance decPy:DecidableEq PyData:=fun _ _=>Classical.propDecidable _
mutual
def isK:PyData->Bool
 | .int _=>true
 | .str x=>PyData.strOk x
 | .tuple xs=>isKs xs
 | .none | .bool _ | .list _ | .dict _=>false
def isKs:List PyData->Bool
 | []=>true
 | x::xs=>isK x&&isKs xs
end
mutual
def Bw(w:World):PyData->Int
 | .int i=>hashInt i
 | .str x=>hashStr w x
 | .tuple xs=>reduceHash (Builtin.Tuple.tupleHashOf (hashKs w xs))
 | .none | .bool _ | .list _ | .dict _=>0
def hashKs(w:World):List PyData->List Int
 | []=>[]
 | x::xs=>Bw w x::hashKs w xs
end
mutual
def yL:PyData->Nat
 | .int _ | .str _=>1
 | .tuple xs=>drawsKs xs+1
 | .none | .bool _ | .list _ | .dict _=>0
def drawsKs:List PyData->Nat
 | []=>0
 | x::xs=>yL x+drawsKs xs
end
mutual
theorem vJ:∀ p:PyData,isK p=true->p.canLay0=true
 | .int _,_=>rfl
 | .str _,h=>h
 | .tuple xs,h=>isKs_lay xs h
 | .none,h | .bool _,h | .list _,h | .dict _,h=>by simp[isK]at h
theorem isKs_lay:∀ ps:List PyData,isKs ps=true->PyData.canLayAll0 ps=true
 | [],_=>rfl
 | x::xs,h=>by
  simp only[isKs,Bool.and_eq_true]at h;simp only[PyData.canLayAll0,vJ x h.1,isKs_lay xs h.2,Bool.and_self]
end
mutual
theorem Je:∀ p q:PyData,isK p=true->isK q=true->p.eqv q=decide (p=q)
 | .int i,.int j,_,_=>by
  simp only[PyData.eqv,PyData.int.injEq];exact Bool.eq_iff_iff.mpr (by simp)
 | .str x,.str y,_,_=>by
  simp only[PyData.eqv,PyData.str.injEq];exact Bool.eq_iff_iff.mpr (by simp)
 | .tuple xs,.tuple ys,h,h'=>by
  have e:=isKs_eqv xs ys h h'
  simp only[PyData.eqv,PyData.tuple.injEq];exact e
 | .int i,.str y,_,_ | .str y,.int i,_,_ | .int i,.tuple y,_,_ | .tuple y,.int i,_,_ | .str i,.tuple y,_,_ | .tuple y,.str i,_,_=>by
  simp only[PyData.eqv];exact(decide_eq_false (fun e=>nomatch e)).symm
 | .none,_,h,_ | .bool _,_,h,_ | .list _,_,h,_ | .dict _,_,h,_=>by simp[isK]at h
 | .int _,.none,_,h | .int _,.bool _,_,h | .int _,.list _,_,h | .int _,.dict _,_,h=>by simp[isK]at h
 | .str _,.none,_,h | .str _,.bool _,_,h | .str _,.list _,_,h | .str _,.dict _,_,h=>by simp[isK]at h
 | .tuple _,.none,_,h | .tuple _,.bool _,_,h | .tuple _,.list _,_,h | .tuple _,.dict _,_,h=>by simp[isK]at h
theorem isKs_eqv:∀ p q:List PyData,isKs p=true->isKs q=true->PyData.eqvAll p q=decide (p=q)
 | [],[],_,_=>by simp[PyData.eqvAll]
 | [],_::_,_,_=>by simp[PyData.eqvAll]
 | _::_,[],_,_=>by simp[PyData.eqvAll]
 | x::xs,y::ys,h,h'=>by
  simp only[isKs,Bool.and_eq_true]at h h';simp only[PyData.eqvAll,Je x y h.1 h'.1,isKs_eqv xs ys h.2 h'.2,List.cons.injEq];exact(Bool.decide_and _ _).symm
end
mutual
theorem Kt{h h':Heap}{d:Addr}{o:Obj}{es ep}(ho:h.get? d=some o)(hd:o.data=.dict es ep)(hs:Heap.SameBut d h h') :
  ∀ (p:PyData) (v:Value) (as:List Addr),isK p=true->Reads h v p as->Reads h' v p as
 | .int _,_,_,_,r=>by cases r;exact .int _ _
 | .str _,_,_,_,r=>by cases r;exact .str _ _
 | .tuple xs,_,_,hk,r=>by
  cases r with
  | tuple h1 h2 h3 h4 =>
   rename_i a ob vs n;have hne:a≠d:=by
    rintro rfl;obtain rfl:ob=o:=Option.some.inj (h1.symm.trans ho);rw[hd]at h3;exact nomatch h3
   exact .tuple ((hs.2 _ hne).trans h1) h2 h3 (readsAll_keep ho hd hs xs _ _ hk h4)
 | .none,_,_,h,_ | .bool _,_,_,h,_ | .list _,_,_,h,_ | .dict _,_,_,h,_=>by simp[isK]at h
theorem readsAll_keep{h h':Heap}{d:Addr}{o:Obj}{es ep}(ho:h.get? d=some o)(hd:o.data=.dict es ep)(hs:Heap.SameBut d h h') :
  ∀ (ps:List PyData) (vs:List Value) (as:List Addr),isKs ps=true->ReadsAll h vs ps as->ReadsAll h' vs ps as
 | [],_,_,_,r=>by cases r;exact .nil
 | x::xs,_,_,hk,r=>by
  simp only[isKs,Bool.and_eq_true]at hk
  cases r with
  | cons r1 r2=>exact .cons (Kt ho hd hs x _ _ hk.1 r1) (readsAll_keep ho hd hs xs _ _ hk.2 r2)
end
section
variable {prog:Program}{w:World}
mutual
theorem Kj:∀ (p:PyData) (v:Value) (A:Around) (E:Value->Shared->Prop) (s:Shared) (as:List Addr) (Q:Int->Shared->Prop),isK p=true->Reads s.heap v p as->A.units+p.depth<cLine ->
  Q (Bw w p) {s with toks:=s.toks+yL p}->wpAny (model prog w) A (pyHash v) Q E s
 | .int i,_,A,E,s,_,Q,_,r,_,h=>by cases r;exact wpAny_pyHash_int h
 | .str x,_,A,E,s,_,Q,_,r,_,h=>by cases r;exact wpAny_pyHash_str h
 | .tuple xs,_,A,E,s,_,Q,hk,r,hu,h=>by
  cases r with
  | tuple h1 h2 h3 h4 =>
   refine PySem.W.pyHash_slot (T:="tuple") ⟨_,h1,h2⟩ F.slot_tuple_hash F.entry_tuple_hash (F.args_tuple_hash_1 _) (beq_builtin_none _) (.inr (by omega)) ?_
   show wpAny _ _ (Builtin.Tuple.tupleItemsOf (.ref _)>>=_) _ _ s
   refine wpAny_bind (wpAny_tupleItemsOf h1 h3 ?_);refine wpAny_bind ?_;rw[<- Array.forIn_toList];refine hash_readsAll xs _ A.in1 E s _ #[] _ hk h4 (by simp only[PyData.depth,Around.in1_units]at hu ⊢;omega) fun b hb=>?_
   show wpAny _ _ (retInt (Builtin.Tuple.tupleHashOf b.toList)) _ _ _
   rw[hb];exact wpAny_bind (wpAny_mkInt (wpAny_pure ⟨_,_,rfl,h⟩))
 | .none,_,_,_,_,_,_,h,_,_,_ | .bool _,_,_,_,_,_,_,h,_,_,_ | .list _,_,_,_,_,_,_,h,_,_,_ | .dict _,_,_,_,_,_,_,h,_,_,_=>by simp[isK]at h
theorem hash_readsAll:∀ (ps:List PyData) (vs:List Value) (A:Around) (E:Value->Shared->Prop) (s:Shared) (as:List Addr) (b:Array Int) (Q:Array Int->Shared->Prop),isKs ps=true->ReadsAll s.heap vs ps as->A.units+PyData.depthAll ps<cLine ->
  (∀ b',b'.toList=b.toList++hashKs w ps->Q b' {s with toks:=s.toks+drawsKs ps}) ->
  wpAny (model prog w) A (forIn vs b fun x r=>do let h <- pyHash x;pure PUnit.unit;pure (ForInStep.yield (r.push h))) Q E s
 | [],_,A,E,s,_,b,Q,_,x,_,h=>by cases x;exact wpAny_pure (h b (by simp[hashKs]))
 | k::xs,_,A,E,s,_,b,Q,hk,x,hu,h=>by
  cases x with
  | cons x1 x2 =>
   simp only[isKs,Bool.and_eq_true,PyData.depthAll]at hk hu;rw[List.forIn_cons];refine wpAny_bind (wpAny_bind (Kj k _ A E s _ _ hk.1 x1 (by omega) ?_))
   refine wpAny_bind (wpAny_pure (wpAny_pure ?_));refine hash_readsAll xs _ A E _ _ _ Q hk.2 x2 (by omega) fun b' hb=>?_
   have:=h b' (by simp[hb,hashKs])
   simpa[drawsKs,Nat.add_assoc] using this
end
mutual
theorem Jw:∀ (p:PyData) (v:Value) (A:Around) (E:Value->Shared->Prop) (s:Shared) (as:List Addr) (n:Nat) (Q:Bool->Shared->Prop),isK p=true->Reads s.heap v p as->p.depth<=n ->
  Q true s->wpAny (model prog w) A (eqIsQuiet n v) Q E s
 | .int i,_,A,E,s,_,n,Q,_,r,_,h=>by cases r;rw[eqIsQuiet_byValue _ rfl];exact wpAny_pure h
 | .str x,_,A,E,s,_,n,Q,_,r,_,h=>by cases r;rw[eqIsQuiet_byValue _ rfl];exact wpAny_pure h
 | .tuple xs,_,A,E,s,_,n,Q,hk,r,hn,h=>by
  cases r with
  | tuple h1 h2 h3 h4 =>
   have hT:s.TypeIs (.ref _) "tuple":=⟨_,h1,h2⟩
   unfold eqIsQuiet;refine wpAny_bind (wpAny_specialOf hT F.slot_tuple_eq.lookup ?_);show wpAny _ _ (isInstance (.ref _) (.type "tuple")>>=_) _ _ s
   refine wpAny_bind (wpAny_isInstance hT isSubtype_tuple_tuple ?_);simp only[Bool.not_true,Bool.false_eq_true,if_false];simp only[PyData.depth]at hn;obtain⟨n',rfl⟩:∃ n',n=n'+1:=⟨n-1,by omega⟩
   refine wpAny_bind (wpAny_seqItems h1 h3 ?_);refine wpAny_bind ?_;show wpAny _ _ (forIn _ _ _) _ _ s
   rw[<- Array.forIn_toList];refine wpAny_forIn_list _ (fun rest r s'=>r.1=none/\s'=s/\∃ ps as,isKs ps=true/\PyData.depthAll ps<=n'/\(∀ q∈ps,q∈xs)/\ReadsAll s.heap rest ps as) _ ?_ ?_ _ _ ⟨rfl,rfl,xs,_,hk,by omega,fun _ z=>z,h4⟩
   ·rintro v rest r s' ⟨hr,rfl,ps,as',hks,hd,hmem,ra⟩
    cases ra with
    | cons r1 r2 =>
     rename_i q qs as1 as2;simp only[isKs,Bool.and_eq_true,PyData.depthAll]at hks hd;have hq:q∈xs:=hmem q List.mem_cons_self
     have hdep:sizeOf q<sizeOf (PyData.tuple xs):=by have:=List.sizeOf_lt_of_mem hq;simp;omega
     refine wpAny_bind (Jw q v A E _ _ _ _ hks.1 r1 (by omega) ?_)
     simp only[Bool.not_true,Bool.false_eq_true,if_false];exact wpAny_pure ⟨rfl,rfl,qs,_,hks.2,by omega,fun z hz=>hmem z (List.mem_cons_of_mem _ hz),r2⟩
   ·rintro⟨r1,r2⟩ s' ⟨hr,rfl,_⟩;simp only at hr;subst hr;exact wpAny_pure h
 | .none,_,_,_,_,_,_,_,h,_,_,_ | .bool _,_,_,_,_,_,_,_,h,_,_,_ | .list _,_,_,_,_,_,_,_,h,_,_,_ | .dict _,_,_,_,_,_,_,_,h,_,_,_=>by simp[isK]at h
termination_by p=>sizeOf p
end
end
noncomputable def gY(prog:Program)(w:World):HeapKind prog w (List PyData) where
 is:=fun h ks a=>isKs ks=true/\PyData.depthAll ks<=6/\∃ as,Reads h (.ref a) (.tuple ks) as
 hash:=fun ks=>Bw w (.tuple ks)
 draws:=fun ks=>yL (.tuple ks)
 room:=fun A=>A.units+20<cLine
 inj:=fun {h a x y} hx hy=>by
  obtain⟨k1,_,_,r1⟩:=hx;obtain⟨k2,_,_,r2⟩:=hy;have e:=SeqAt.Reads.unique _ _ _ _ _ (vJ (.tuple x) k1) r1 r2
  exact PyData.tuple.inj e
 keeps:=fun x ho hd hs=>let ⟨k1,k2,as,r⟩:=x;⟨k1,k2,as,Kt ho hd hs _ _ _ k1 r⟩
 pyHash:=fun {A E s k a Q} hu hk h=>by
  obtain⟨k1,k2,as,r⟩:=hk;exact Kj (.tuple k) _ A E s as Q k1 r (by simp only[PyData.depth];omega) h
 eqBool:=fun {A E s x y a b Q} hu hx hy h=>by
  obtain⟨k1,d1,as,r1⟩:=hx;obtain⟨k2,d2,bs,r2⟩:=hy;refine SeqAt.eqAt_reads (.tuple x) (.tuple y) A s _ _ _ _ r1 r2 (vJ (.tuple x) k1) (vJ (.tuple y) k2) (by simp only[PyData.depth];omega) prog w E Q ?_
  rw[Je (.tuple x) (.tuple y) k1 k2];have e:decide (PyData.tuple x=PyData.tuple y)=decide (x=y):=by
   simp only[PyData.tuple.injEq]
  rw[e];exact h
 quiet:=fun {A E s k a Q} hk h=>by
  obtain⟨k1,k2,as,r⟩:=hk;exact Jw (.tuple k) _ A E s as 8 Q k1 r (by simp only[PyData.depth];omega) h
end L2
namespace L2
open PySem PySem.Spec PyProof.Rows
abbrev aH:=Sum Int Str
def iL:aH->Value->Bool
 | .inl k,v=>Value.isInt k v
 | .inr x,v=>Value.isStrOf x v
def Vr(w:World):aH->Int
 | .inl k=>hashInt k
 | .inr x=>hashStr w x
theorem fY:∀ {k:aH} {v:Value},iL k v=true->(∃ i t,k=Sum.inl i/\v=Value.int i t)\/(∃ x t,k=Sum.inr x/\v=Value.str x t)
 | .inl i,v,h=>by
  obtain⟨t,e⟩:=Value.isInt_shape (k:=i) (v:=v) h;exact .inl ⟨i,t,rfl,e⟩
 | .inr x,v,h=>by
  obtain⟨t,e⟩:=Value.isStrOf_shape (x:=x) (v:=v) h;exact .inr ⟨x,t,rfl,e⟩
theorem Oa(i:Int)(t:Tok):iL (.inl i) (.int i t)=true:=by simp[iL,Value.isInt]
theorem Np(x:Str)(t:Tok):iL (.inr x) (.str x t)=true:=by simp[iL,Value.isStrOf]
theorem Rs(a b:Int):decide ((Sum.inl a:aH)=Sum.inl b)=(a==b):=by
 by_cases e:a=b
 ·subst e;simp
 ·have h:¬ (Sum.inl a:aH)=Sum.inl b:=fun q=>e (Sum.inl.inj q)
  rw[decide_eq_false h];exact(beq_eq_false_iff_ne.mpr e).symm
theorem Z2(a b:Str):decide ((Sum.inr a:aH)=Sum.inr b)=decide (a=b):=by
 by_cases e:a=b
 ·subst e;simp
 ·have h:¬ (Sum.inr a:aH)=Sum.inr b:=fun q=>e (Sum.inr.inj q)
  rw[decide_eq_false h,decide_eq_false e]
theorem Ss(a:Int)(b:Str):decide ((Sum.inl a:aH)=Sum.inr b)=false:=decide_eq_false (fun q=>nomatch q)
theorem O3(a:Str)(b:Int):decide ((Sum.inr a:aH)=Sum.inl b)=false:=decide_eq_false (fun q=>nomatch q)
def bD(prog:Program)(w:World):PySem.KeyKind prog w aH where
 is:=iL
 hash:=Vr w
 inj:=fun v a b ha hb=>by
  rcases fY ha with⟨i,t,rfl,rfl⟩ | ⟨x,t,rfl,rfl⟩
  ·rcases fY hb with⟨j,u,rfl,e⟩ | ⟨y,u,rfl,e⟩
   ·injection e with e1 _;rw[e1]
   ·exact nomatch e
  ·rcases fY hb with⟨j,u,rfl,e⟩ | ⟨y,u,rfl,e⟩
   ·exact nomatch e
   ·injection e with e1 _;rw[e1]
 byValue:=fun k v h=>by
  rcases fY h with⟨i,t,rfl,rfl⟩ | ⟨x,t,rfl,rfl⟩<;>rfl
 pyHash:=fun hv h=>by
  rcases fY hv with⟨i,t,rfl,rfl⟩ | ⟨x,t,rfl,rfl⟩
  ·exact wpAny_pyHash_int h
  ·exact wpAny_pyHash_str h
 eqBool:=fun hu hv h=>by
  rcases fY hu with⟨i,t,rfl,rfl⟩ | ⟨x,t,rfl,rfl⟩
  ·rcases fY hv with⟨j,u,rfl,rfl⟩ | ⟨y,u,rfl,rfl⟩
   ·rw[Rs]at h;exact wpAny_eqBool_int h
   ·rw[Ss]at h;exact SeqAt.EqAt.int_str i t y u _ _ _ _ h
  ·rcases fY hv with⟨j,u,rfl,rfl⟩ | ⟨y,u,rfl,rfl⟩
   ·rw[O3]at h;exact SeqAt.EqAt.str_int x t j u _ _ _ _ h
   ·rw[Z2]at h;exact wpAny_eqBool_str h
 «strs»:=fun k x t v h=>by
  rcases fY h with⟨i,u,rfl,e⟩ | ⟨y,u,rfl,e⟩
  ·exact nomatch e
  ·injection e with e1 _
   subst e1
   cases v<;>rfl
theorem Vw(prog:Program)(w:World)(i:Int)(t:Tok):(bD prog w).is (.inl i) (.int i t)=true:=Oa i t
theorem Xx(prog:Program)(w:World)(x:Str)(t:Tok):(bD prog w).is (.inr x) (.str x t)=true:=Np x t
end L2
namespace L2
open PySem PySem.Spec PyProof.Rows
inductive V where
 | non | bl (b:Bool) | int (i:Int) | str (x:Str) | byt (b:Array UInt8) | flt (b:UInt64) | ref (a:Addr) | ty (n:String)
 deriving DecidableEq
def RelV:V->Value->Prop
 | .non,u=>u=Value.none
 | .bl b,u=>u=Value.bool b
 | .int i,u=>∃ t,u=Value.int i t
 | .str x,u=>∃ t,u=Value.str x t
 | .byt b,u=>∃ t,u=Value.bytes b t
 | .flt b,u=>∃ t,u=Value.float b t
 | .ref a,u=>u=Value.ref a
 | .ty n,u=>u=Value.type n
abbrev Vals:List V->List Value->Prop:=Paired RelV
theorem Vals.length{xs:List V}{us:List Value}(r:Vals xs us):xs.length=us.length:=Paired.length r
theorem Vals.get:∀ {xs:List V} {us:List Value} {i:Nat} {x:V},Vals xs us->xs[i]?=some x->∃ u,us[i]?=some u/\RelV x u
 | _,_,_,_,.nil,e=>by simp at e
 | _,_,0,_,.cons r _,e=>by simp at e;subst e;exact⟨_,rfl,r⟩
 | _,_,i+1,x,.cons _ t,e=>by
  obtain⟨u,h1,h2⟩:=Vals.get (i:=i) (x:=x) t (by simpa using e)
  exact⟨u,by simpa using h1,h2⟩
theorem Vals.set{x:V}{u:Value}(r:RelV x u):∀ {xs:List V} {us:List Value} (i:Nat),Vals xs us->Vals (xs.set i x) (us.set i u)
 | _,_,_,.nil=>.nil
 | _,_,0,.cons _ t=>.cons r t
 | _,_,i+1,.cons q t=>.cons q (Vals.set r i t)
theorem Vals.append:∀ {xs ys:List V} {us ws:List Value},Vals xs us->Vals ys ws->Vals (xs++ys) (us++ws)
 | _,_,_,_,.nil,s=>s
 | _,_,_,_,.cons r t,s=>.cons r (Vals.append t s)
theorem Vals.take:∀ {xs:List V} {us:List Value} (n:Nat),Vals xs us->Vals (xs.take n) (us.take n)
 | _,_,0,_=>.nil
 | _,_,_+1,.nil=>.nil
 | _,_,n+1,.cons r t=>.cons r (Vals.take n t)
theorem Vals.drop:∀ {xs:List V} {us:List Value} (n:Nat),Vals xs us->Vals (xs.drop n) (us.drop n)
 | _,_,0,r=>r
 | _,_,_+1,.nil=>.nil
 | _,_,n+1,.cons _ t=>Vals.drop n t
def RelO:Option V->Option Value->Prop
 | some v,some u=>RelV v u
 | none,none=>True
 | _,_=>False
def KV{κ:Type}:List (κ×V)->List (κ×Value)->Prop:=Paired fun(p:κ×V) (q:κ×Value)=>p.1=q.1/\RelV p.2 q.2
def kV:aH->V
 | .inl i=>.int i
 | .inr x=>.str x
inductive HO where
 | lst (xs:List V)
 | tup (xs:List V)
 | dK (kvs:List (aH×V)) | dT (kvs:List (List aH×V)) | dN (K:PySem.W.Frag) (kvs:List (List PyData×V))
 | set (S:Int->Bool) (n:Nat)
 | ins (C dx:Addr) (fs:List (Str×V))
 | own (x:Addr)
 | xd (fs:List (Str×V))
 | met (f x:Addr)
 | rng (lo hi:Int)
 | frz (o:Obj) (u:HO)
 | tbl (ps:Array Value)
 | ext (φ:Heap->Prop)
abbrev Hp:=Addr->Option HO
def aI(H:Hp)(a:Addr)(o:HO):Hp:=fun b=>if b=a then some o else H b
theorem bQ{H:Hp}{a:Addr}{o:HO}:aI H a o a=some o:=by unfold aI;rw[if_pos rfl]
theorem aX{H:Hp}{a b:Addr}{o:HO}(h:b≠a):aI H a o b=H b:=by unfold aI;rw[if_neg h]
theorem rY{H:Hp}{a b:Addr}{o u:HO}(h:H a=some o)(h':H b=some u)(d:o≠u):a≠b:=by
 intro e;subst e;rw[h]at h';exact d (Option.some.inj h')
theorem lW{H:Hp}{a b:Addr}{o:HO}(h:H a=some o)(h':H b=none):a≠b:=by
 intro e;subst e;rw[h]at h';cases h'
def NoD(h:Heap)(a:Addr):Prop:=∃ o,h.get? a=some o/\o.dict=none
theorem NoD.new(h:Heap)(c:Value)(d:Data)(hf:Obj.isFreed {cls:=c,data:=d}=false:=by rfl):NoD (h.push {cls:=c,data:=d}) h.objs.size:=⟨_,Heap.get?_push_size _ hf,rfl⟩
theorem NoD.keep{h h':Heap}{a:Addr}(x:NoD h a)(k:∀ o,h.get? a=some o->h'.get? a=some o):NoD h' a:=let ⟨o,e,d⟩:=x;⟨o,k _ e,d⟩
def TupAt(K:PySem.W.Frag)(H:Hp)(a:Addr)(xs:List V):Prop:=(H a=some (.tup xs)\/∃ o,H a=some (.frz o (.tup xs))) \/
  ∃ (o:Obj) (its:Array Value) (n:Nat),K.lookup a=some o/\(o.cls=.type "tuple"/\o.dict=none)/\o.data=.seq its n/\its.size<=sizeLine/\Vals xs its.toList
mutual
def NKV(K:PySem.W.Frag)(H:Hp):PyData->V->Prop
 | .int i,v=>v=.int i
 | .str x,v=>v=.str x
 | .tuple xs,v=>∃ a vs,v=.ref a/\TupAt K H a vs/\NKVs K H xs vs
 | .none,_ | .bool _,_ | .list _,_ | .dict _,_=>False
def NKVs(K:PySem.W.Frag)(H:Hp):List PyData->List V->Prop
 | [],vs=>vs=[]
 | x::xs,vs=>∃ v r,vs=v::r/\NKV K H x v/\NKVs K H xs r
end
section
variable {K:PySem.W.Frag}{H H':Hp}
theorem TupAt.stay{a:Addr}{xs:List V}(x:TupAt K H a xs)(ht:∀ b xs,H b=some (.tup xs)->H' b=some (.tup xs))(hf:∀ b o u,H b=some (.frz o u)->H' b=some (.frz o u)):TupAt K H' a xs:=by
 rcases x with (x | ⟨o,x⟩) | x
 ·exact .inl (.inl (ht _ _ x))
 ·exact .inl (.inr ⟨o,hf _ _ _ x⟩)
 ·exact .inr x
mutual
theorem NKV.stay(ht:∀ b xs,H b=some (.tup xs)->H' b=some (.tup xs))(hf:∀ b o u,H b=some (.frz o u)->H' b=some (.frz o u)):∀ (p:PyData) (v:V),NKV K H p v->NKV K H' p v
 | .int _,_,x=>by simpa only[NKV] using x
 | .str _,_,x=>by simpa only[NKV] using x
 | .tuple xs,_,x=>by
  simp only[NKV]at x ⊢;obtain⟨a,vs,e,x1,x2⟩:=x;exact⟨a,vs,e,x1.stay ht hf,NKVs.stay ht hf xs vs x2⟩
 | .none,_,x | .bool _,_,x | .list _,_,x | .dict _,_,x=>by simp only[NKV]at x
theorem NKVs.stay(ht:∀ b xs,H b=some (.tup xs)->H' b=some (.tup xs))(hf:∀ b o u,H b=some (.frz o u)->H' b=some (.frz o u)):∀ (ps:List PyData) (vs:List V),NKVs K H ps vs->NKVs K H' ps vs
 | [],_,x=>by simpa only[NKVs] using x
 | p::ps,_,x=>by
  simp only[NKVs]at x ⊢;obtain⟨v,r,e,x1,x2⟩:=x;exact⟨v,r,e,NKV.stay ht hf p v x1,NKVs.stay ht hf ps r x2⟩
end
end
section
variable (P:Program)(w:World)
def ObjOk(H:Hp)(h:Heap)(a:Addr):HO->Prop
 | .lst xs=>xs.length<=sizeLine/\∃ (its:List Value) (n:Nat),Vals xs its/\h.get? a=some {cls:=.type "list",data:=.seq its.toArray n}
 | .tup xs=>(xs.length<=sizeLine/\NoD h a)/\∃ its:List Value,Vals xs its/\IsTup h a its.toArray
 | .dK kvs=>kvs.length<=sizeLine/\(a==sysModules)=false/\∃ vs,KV kvs vs/\h.DictOf (bD P w) a vs
 | .dT kvs=>kvs.length<=sizeLine/\(a==sysModules)=false/\∃ xs:List (List aH×Addr×Value),
   Paired (fun(p:List aH×V) (q:List aH×Addr×Value)=>p.1=q.1/\H q.2.1=some (.tup (p.1.map kV))/\RelV p.2 q.2.2) kvs xs /\
   ∃ o es ep,h.get? a=some o/\o.ExactDict/\o.data=.dict es ep/\es.toList=xs.map (entryOfKey (tupleKind (bD P w)))/\(xs.map (·.1)).Nodup
 | .dN K kvs=>kvs.length<=sizeLine/\(a==sysModules)=false/\∃ xs:List (List PyData×Addr×Value),
   Paired (fun(p:List PyData×V) (q:List PyData×Addr×Value)=>p.1=q.1/\(isKs p.1=true/\PyData.depthAll p.1<=6/\NKV K H (.tuple p.1) (.ref q.2.1))/\RelV p.2 q.2.2) kvs xs /\
   ∃ o es ep,h.get? a=some o/\o.ExactDict/\o.data=.dict es ep/\es.toList=xs.map (entryOfKey (gY P w))/\(xs.map (·.1)).Nodup
 | .set S n=>h.SetOf (intKind P w) a S n
 | .ins C dx fs=>H dx=some (.own a)/\fs.length<=1000/\dx≠a/\h.get? a=some (PySem.W.instObj C dx) /\
   ∃ mA,h.Ns1 dx mA/\(∀ f,RelO (fs.lookup f) (mA f))/\PySem.Within mA (fs.map (·.1))
 | .own _=>∃ o,h.get? a=some o
 | .xd fs=>∃ mA,h.Ns1 a mA/\∀ f,RelO (fs.lookup f) (mA f)
 | .rng lo hi=>∃ t u v,h.get? a=some {cls:=.type "range",data:=.fields #[.int lo t,.int hi u,.int 1 v]}
 | .frz o u=>h.get? a=some o/\ObjOk H h a u
 | .tbl ps=>h.get? a=some {cls:=.none,data:=.fields ps}
 | .met f x=>h.get? a=some (PySem.W.methodObj (.ref f) (.ref x))
 | .ext φ=>φ h/\(∃ o,h.get? a=some o)/\∀ h1 h2:Heap,φ h1->(∀ o,h1.get? a=some o->h2.get? a=some o)->φ h2
def HOk(H:Hp)(h:Heap):Prop:=∀ a o,H a=some o->ObjOk P w H h a o
end
section
variable {P:Program}{w:World}{H H':Hp}{h h':Heap}{a:Addr}{o:HO}
theorem ObjOk.lt(x:ObjOk P w H h a o):a<h.objs.size:=by
 cases o with
 | lst xs=>obtain⟨_,_,_,_,e⟩:=x;exact Heap.lt_size e
 | tup xs=>obtain⟨_,_,_,p⟩:=x;exact p.lt
 | dK kvs=>obtain⟨_,_,_,_,o,_,_,e,_⟩:=x;exact Heap.lt_size e
 | dT kvs=>obtain⟨_,_,_,_,o,_,_,e,_⟩:=x;exact Heap.lt_size e
 | dN K kvs=>obtain⟨_,_,_,_,o,_,_,e,_⟩:=x;exact Heap.lt_size e
 | set S n=>obtain⟨o,_,_,_,e,_⟩:=x;exact Heap.lt_size e
 | ins C dx fs=>obtain⟨_,_,_,e,_⟩:=x;exact Heap.lt_size e
 | own y=>obtain⟨_,e⟩:=x;exact Heap.lt_size e
 | xd fs=>obtain⟨_,⟨_,_,_,e,_⟩,_⟩:=x;exact Heap.lt_size e
 | rng lo hi=>obtain⟨_,_,_,e⟩:=x;exact Heap.lt_size e
 | frz ob u=>obtain⟨e,_⟩:=x;exact Heap.lt_size e
 | tbl ps=>exact Heap.lt_size (show h.get? a=some _ from x)
 | met f y=>exact Heap.lt_size (show h.get? a=some _ from x)
 | ext φ=>obtain⟨_,⟨_,e⟩,_⟩:=x;exact Heap.lt_size e
theorem Paired.mapP{α β:Type}{F G:α->β->Prop}:∀ {l₁:List α} {l₂:List β},Paired F l₁ l₂->(∀ a b,F a b->G a b)->Paired G l₁ l₂
 | _,_,.nil,_=>.nil
 | _,_,.cons r t,f=>.cons (f _ _ r) (Paired.mapP t f)
theorem ObjOk.stay(x:ObjOk P w H h a o)(k:∀ b u,(b=a\/H b=some (.own a))->h.get? b=some u->h'.get? b=some u)
  (ho:∀ b,H b=some (.own a)->H' b=some (.own a)) (ht:∀ b xs,H b=some (.tup xs)->H' b=some (.tup xs)) (hf:∀ b ob u,H b=some (.frz ob u)->H' b=some (.frz ob u)):ObjOk P w H' h' a o:=by
 induction o with
 | lst xs=>obtain⟨z,its,n,r,e⟩:=x;exact⟨z,its,n,r,k _ _ (.inl rfl) e⟩
 | tup xs=>obtain⟨z,its,r,ob,e,c⟩:=x;exact⟨⟨z.1,z.2.keep fun _ e=>k _ _ (.inl rfl) e⟩,its,r,ob,k _ _ (.inl rfl) e,c⟩
 | dK kvs=>obtain⟨z,y,vs,r,ob,es,ep,e,c⟩:=x;exact⟨z,y,vs,r,ob,es,ep,k _ _ (.inl rfl) e,c⟩
 | dT kvs =>
  obtain⟨z,y,xs,r,ob,es,ep,e,c⟩:=x;exact⟨z,y,xs,Paired.mapP r fun p q z=>⟨z.1,ht _ _ z.2.1,z.2.2⟩,ob,es,ep,k _ _ (.inl rfl) e,c⟩
 | dN K kvs =>
  obtain⟨z,y,xs,r,ob,es,ep,e,c⟩:=x;exact⟨z,y,xs,Paired.mapP r fun p q z=>⟨z.1,⟨z.2.1.1,z.2.1.2.1,NKV.stay ht hf _ _ z.2.1.2.2⟩,z.2.2⟩,ob,es,ep,k _ _ (.inl rfl) e,c⟩
 | set S n=>obtain⟨ob,es,ep,t,e,c⟩:=x;exact⟨ob,es,ep,t,k _ _ (.inl rfl) e,c⟩
 | ins C dx fs =>
  obtain⟨d,z,ne,e,mA,⟨od,es,ep,e2,c⟩,r⟩:=x;exact⟨ho _ d,z,ne,k _ _ (.inl rfl) e,mA,⟨od,es,ep,k _ _ (.inr d) e2,c⟩,r⟩
 | own y=>obtain⟨ob,e⟩:=x;exact⟨ob,k _ _ (.inl rfl) e⟩
 | xd fs=>obtain⟨mA,⟨od,es,ep,e,c⟩,r⟩:=x;exact⟨mA,⟨od,es,ep,k _ _ (.inl rfl) e,c⟩,r⟩
 | rng lo hi=>obtain⟨t,u,v,e⟩:=x;exact⟨t,u,v,k _ _ (.inl rfl) e⟩
 | frz ob u ih=>obtain⟨e,q⟩:=x;exact⟨k _ _ (.inl rfl) e,ih q⟩
 | tbl ps =>
  have e:h.get? a=some {cls:=.none,data:=.fields ps}:=x
  show h'.get? a=some {cls:=.none,data:=.fields ps}
  exact k a _ (.inl rfl) e
 | met f y =>
  have e:h.get? a=some (PySem.W.methodObj (.ref f) (.ref y)):=x
  show h'.get? a=some (PySem.W.methodObj (.ref f) (.ref y))
  exact k a _ (.inl rfl) e
 | ext φ=>obtain⟨p,⟨o,e⟩,st⟩:=x;exact⟨st _ _ p fun o q=>k _ _ (.inl rfl) q,⟨o,k _ _ (.inl rfl) e⟩,st⟩
theorem HOk.lt(x:HOk P w H h)(e:H a=some o):a<h.objs.size:=(x a o e).lt
theorem HOk.fresh(x:HOk P w H h)(e:h.objs.size<=a):H a=none:=by
 cases q:H a with
 | none=>rfl
 | some u=>exact absurd (Nat.lt_of_lt_of_le (x.lt q) e) (Nat.lt_irrefl _)
theorem HOk.kept(x:HOk P w H h)(k:∀ b u,h.get? b=some u->h'.get? b=some u):HOk P w H h':=fun a o e =>
 (x a o e).stay (fun b u _ q=>k b u q) (fun _ q=>q) (fun _ _ q=>q) fun _ _ _ q=>q
theorem HOk.laid(x:HOk P w H h)(k:∀ b u,h.get? b=some u->h'.get? b=some u)(hp:h.objs.size<=a)(new:ObjOk P w (aI H a o) h' a o):HOk P w (aI H a o) h':=fun b u e=>by
 have hn:=x.fresh hp
 by_cases hb:b=a
 ·subst hb;rw[bQ]at e;cases e;exact new
 ·rw[aX hb]at e;exact(x b u e).stay (fun c v _ q=>k c v q) (fun c q=>by rw[aX (lW q hn)];exact q) (fun c xs q=>by rw[aX (lW q hn)];exact q) fun c ob u q=>by rw[aX (lW q hn)];exact q
end
def Rd(H:Hp)(a:Addr)(u:HO):Prop:=H a=some u\/∃ o,H a=some (.frz o u)
theorem Rd.of{H:Hp}{a:Addr}{u:HO}(h:H a=some u):Rd H a u:=.inl h
theorem Rd.ok{P:Program}{w:World}{H:Hp}{h:Heap}{a:Addr}{u:HO}(r:Rd H a u)(x:HOk P w H h):ObjOk P w H h a u:=by
 rcases r with r | ⟨o,r⟩
 ·exact x a u r
 ·obtain⟨_,q⟩:=x a _ r;exact q
def rE:Option HO->Prop
 | some (.lst _)=>True
 | some (.dK _)=>True
 | some (.dT _)=>True
 | some (.dN _ _)=>True
 | some (.set _ _)=>True
 | some (.ins _ _ _)=>True
 | some (.ext _)=>True
 | _=>False
section
variable {P:Program}{w:World}{H:Hp}{h h':Heap}{x e:Addr}{o':HO}
theorem HOk.write(ok:HOk P w H h)(mu:rE (H x))(he:e=x\/H e=some (.own x))(k:∀ b u,b≠e->h.get? b=some u->h'.get? b=some u)(heo:∃ u,h'.get? e=some u)
  (new:ObjOk P w (aI H x o') h' x o'):HOk P w (aI H x o') h':=fun b u q=>by
 have nown:∀ c y,H c=some (.own y)->c≠x:=fun c y r z=>by subst z;rw[r]at mu;exact mu
 have ntup:∀ c xs,H c=some (.tup xs)->c≠x:=fun c xs r z=>by subst z;rw[r]at mu;exact mu
 by_cases hb:b=x
 ·subst hb;rw[bQ]at q;cases q;exact new
 ·rw[aX hb]at q
  by_cases hbe:b=e
  ·have q':H b=some (.own x):=by
    rcases he with z | z
    ·exact absurd (hbe.trans z) hb
    ·rw[hbe];exact z
   rw[q]at q';cases q';obtain⟨v,hv⟩:=heo;exact⟨v,by rw[hbe];exact hv⟩
  ·refine(ok b u q).stay (fun c v hc r=>k c v ?_ r) (fun c r=>by rw[aX (nown c b r)];exact r) (fun c xs r=>by rw[aX (ntup c xs r)];exact r) fun c ob u r=>by rw[aX (fun z=>by subst z;rw[r]at mu;exact mu)];exact r
   rcases hc with rfl | hc
   ·exact hbe
   ·rintro rfl;rcases he with z | z
    ·exact nown c b hc z
    ·rw[hc]at z;cases z;exact hb rfl
end
structure Un (fs ex:List Addr) (H H':Hp) (h h':Heap):Prop where
 keep:∀ b o,h.get? b=some o->H b=none->b∉fs->b∉ex->h'.get? b=some o
 slot:∀ b o,h.get? b=some o->H b=none->b∈fs->b∉ex->∃ sl,h'.get? b=some {o with slots:=sl}
 free:∀ b o,h.get? b=some o->H b=none->b∉ex->H' b=none
 there:∀ b o,h.get? b=some o->b∉ex->∃ o',h'.get? b=some o'
 tups:∀ b xs,H b=some (.tup xs)->H' b=some (.tup xs)
 frzs:∀ b o u,H b=some (.frz o u)->H' b=some (.frz o u)
 tbls:∀ b ps,H b=some (.tbl ps)->∃ more,H' b=some (.tbl (ps++more))
section
variable {fs fs' ex ex':List Addr}{H H1 H2:Hp}{h h1 h2 h':Heap}{a x e:Addr}{o:HO}
theorem Un.any(u:Un fs ex H H1 h h1){b:Addr}{ob:Obj}(q:h.get? b=some ob)(n:H b=none)(hx:b∉ex):∃ sl,h1.get? b=some {ob with slots:=sl}:=by
 by_cases hb:b∈fs
 ·exact u.slot b ob q n hb hx
 ·exact⟨ob.slots,u.keep b ob q n hb hx⟩
theorem Un.trans(a:Un fs ex H H1 h h1)(b:Un fs ex H1 H2 h1 h2):Un fs ex H H2 h h2 where
 keep:=fun c ob q n hc hx=>b.keep c ob (a.keep c ob q n hc hx) (a.free c ob q n hx) hc hx
 slot:=fun c ob q n hc hx=>by
  obtain⟨sl,e1⟩:=a.slot c ob q n hc hx;obtain⟨sl',e2⟩:=b.slot c _ e1 (a.free c ob q n hx) hc hx;exact⟨sl',e2⟩
 free:=fun c ob q n hx=>by
  obtain⟨o',e1⟩:=a.there c ob q hx;exact b.free c o' e1 (a.free c ob q n hx) hx
 there:=fun c ob q hx=>by
  obtain⟨o',e1⟩:=a.there c ob q hx;exact b.there c o' e1 hx
 tups:=fun c xs q=>b.tups c xs (a.tups c xs q)
 frzs:=fun c ob xs q=>b.frzs c ob xs (a.frzs c ob xs q)
 tbls:=fun c ps q=>by
  obtain⟨m1,e1⟩:=a.tbls c ps q;obtain⟨m2,e2⟩:=b.tbls c _ e1;exact⟨m1++m2,by rw[e2,Array.append_assoc]⟩
theorem Un.kept(k:∀ b u,h.get? b=some u->h'.get? b=some u):Un fs ex H H h h' :=
 ⟨fun b ob q _ _ _=>k b ob q,fun b ob q _ _ _=>⟨ob.slots,k b ob q⟩,fun _ _ _ n _=>n,fun b ob q _=>⟨ob,k b ob q⟩,fun _ _ q=>q,fun _ _ _ q=>q,fun _ ps q=>⟨#[],by rw[q];simp⟩⟩
theorem Un.refl:Un fs ex H H h h:=Un.kept fun _ _ q=>q
theorem Un.laid(k:∀ b u,h.get? b=some u->h'.get? b=some u)(hp:h.objs.size<=a)(hn:H a=none):Un fs ex H (aI H a o) h h' where
 keep:=fun b u q _ _ _=>k b u q
 slot:=fun b u q _ _ _=>⟨u.slots,k b u q⟩
 free:=fun b u q n _=>by rw[aX (Nat.ne_of_lt (Nat.lt_of_lt_of_le (Heap.lt_size q) hp))];exact n
 there:=fun b u q _=>⟨u,k b u q⟩
 tups:=fun b xs q=>by rw[aX (lW q hn)];exact q
 frzs:=fun b u xs q=>by rw[aX (lW q hn)];exact q
 tbls:=fun b ps q=>⟨#[],by rw[aX (lW q hn),q];simp⟩
theorem Un.write(mu:rE (H x))(he:e=x\/H e=some (.own x))(k:∀ b u,b≠e->h.get? b=some u->h'.get? b=some u)(heo:∃ u,h'.get? e=some u):Un fs ex H (aI H x o) h h':=by
 have hx:∀ b,H b=none->b≠x:=fun b n z=>by subst z;rw[n]at mu;exact mu
 have hb:∀ b,H b=none->b≠e:=fun b n z=>by
  subst z;rcases he with r | r
  ·exact hx b n r
  ·rw[n]at r;cases r
 have hm:∀ b u,H b=some u->¬ rE (some u)->b≠x:=fun b u q nm z=>by subst z;rw[q]at mu;exact nm mu
 refine⟨fun b u q n _ _=>k b u (hb b n) q,fun b u q n _ _=>⟨u.slots,k b u (hb b n) q⟩,fun b u q n _=>by rw[aX (hx b n)];exact n,fun b u q _=>?_,
  fun b xs q=>by rw[aX (hm b _ q fun z=>z)];exact q,fun b u xs q=>by rw[aX (hm b _ q fun z=>z)];exact q,fun b ps q=>⟨#[],by rw[aX (hm b _ q fun z=>z),q];simp⟩⟩
 by_cases hbe:b=e
 ·subst hbe;exact heo
 ·exact⟨u,k b u hbe q⟩
theorem Un.mono(u:Un fs ex H H1 h h1)(hs:∀ b∈fs,b∈fs')(hx:∀ b∈ex,b∈ex'):Un fs' ex' H H1 h h1 :=
 ⟨fun b ob q n hb he=>u.keep b ob q n (fun z=>hb (hs b z)) fun z=>he (hx b z),fun _ _ q n _ he=>u.any q n fun z=>he (hx _ z),fun b ob q n he=>u.free b ob q n fun z=>he (hx b z),fun b ob q he=>u.there b ob q fun z=>he (hx b z),u.tups,u.frzs,u.tbls⟩
end
def vY(h:Heap)(H:Hp):List Addr:=(List.range h.objs.size).filter fun a=>(H a).isSome
def iT(h:Heap)(H:Hp):Heap:=PySem.W.hideAll h (vY h H)
theorem CO(h:Heap)(H:Hp):(iT h H).objs.size=h.objs.size:=PySem.W.hideAll_size _ _
theorem Rk{h:Heap}{H:Hp}{b:Addr}{o:Obj}(e:h.get? b=some o)(n:H b=none):(iT h H).get? b=some o :=
 PySem.W.hideAll_get _ e fun hm=>by
  have q:(H b).isSome=true:=(List.mem_filter.mp hm).2
  rw[n]at q;simp at q
theorem P1{h:Heap}{H:Hp}{b:Addr}{o:Obj}(e:(iT h H).get? b=some o):h.get? b=some o/\H b=none:=by
 have e':h.get? b=some o:=PySem.W.of_hideAll (vY h H) e
 refine⟨e',?_⟩
 cases q:H b with
 | none=>rfl
 | some x =>
  have hm:b∈vY h H:=List.mem_filter.mpr ⟨List.mem_range.mpr (Heap.lt_size e'),by simp[q]⟩
  have z:(iT h H).get? b=none:=PySem.W.hideAll_none (vY h H) hm
  rw[z]at e;cases e
def X9(g h:Heap)(L:Addr):List (Addr×Obj):=(List.range h.objs.size).filterMap fun a=>if a=L\/(g.get? a).isSome=true then none else (h.get? a).map fun o=>(a,o)
def rest(g h:Heap)(L d:Addr):List (Addr×Obj):=(X9 g h L).filter fun p=>decide (p.1≠d)
end L2
namespace L2
open PySem PySem.Spec PyProof.Rows
structure Mod (K:PySem.W.Frag) (mg:Str->Option Value) (base:Heap):Prop where
 kin:K.In base
 glob:base.Ns mainGlobals mg
 blt:∃ mb,base.Ns builtinsNs mb/\∀ x:Str,x≠"__name__"->mb x=bootBuiltins x
 nolimit:base.NoLimit
structure Cx where
 prog:Program
 w:World
 K:PySem.W.Frag
 mg:Str->Option Value
 base:Heap
 A:Around
 N:List Str
 s₀:Shared
 H₀:Hp
 env:Env
 outer:List Env
 stack:List Env
 ex:List Addr
 fn:Str->Bool
 calm:Bool
 pn:List (Addr×Obj)
 xe:Value->Shared->Prop
def fP(l:List Env):List Addr:=l.filterMap (·.frame)
abbrev Cx.fs(X:Cx):List Addr:=fP X.outer
def fT(sc:Scope)(x:Str):Prop:=sc.names.lookup x=some .local\/sc.names.lookup x=some .cell\/sc.names.lookup x=some .free
def gH(sc:Scope)(x:Str):Prop:=sc.names.lookup x=some .local\/sc.names.lookup x=some .cell
def Yc(env:Env)(h:Heap)(m:Str->Option Value)(x:Str)(u:Value):Prop :=
 (env.kindOf x=some .local/\m x=some u)\/((env.kindOf x=some .cell\/env.kindOf x=some .free)/\∃ c,env.cells.lookup x=some c/\h.IsCell c (some u))
structure Cx.Ok (X:Cx):Prop where
 mod:Mod X.K X.mg X.base
 kind:X.env.scope.kind=.function
 glob:X.env.globals=mainGlobals
 blt:X.env.builtins=builtinsNs
 above:X.s₀.heap.objs.size<=X.env.locals
 inj:∀ x y c,X.env.cells.lookup x=some c->X.env.cells.lookup y=some c->x=y
 has:∀ x,(X.env.kindOf x=some .cell\/X.env.kindOf x=some .free)->∃ c,X.env.cells.lookup x=some c
 cab:∀ x c,X.fn x=true->X.env.cells.lookup x=some c->X.s₀.heap.objs.size<=c
 hd:X.calm=true->X.A.handled=none
 frames:X.A.frames=some X.stack
 stk:X.stack=X.outer\/(X.stack=X.env::X.outer/\X.env.frame=some X.env.locals)
 exf:∀ b∈X.ex,b≠X.env.locals/\∀ x c,X.env.cells.lookup x=some c->c≠b
 bs:∀ b o,X.base.get? b=some o->X.s₀.heap.get? b=some o/\X.H₀ b=none
 bsz:X.base.objs.size<=X.s₀.heap.objs.size
 noex:∀ b o,X.base.get? b=some o->b∉X.ex
 exfs:∀ b∈X.ex,b∉X.fs
 funs:X.s₀.heap.FunFrames X.base X.outer
 frf:∀ b∈X.fs,X.H₀ b=none
structure Inv (X:Cx) (pins:List (Addr×Obj)) (σ:List (Option V)) (H:Hp) (s:Shared):Prop where
 ok:X.Ok
 os:s.os=X.s₀.os
 bare:AllBare s.gens
 base:Un X.fs X.ex X.H₀ H X.s₀.heap s.heap
 loc:∃ m,s.heap.Ns X.env.locals m/\∀ (i:Nat) (x:Str) (v:V),X.N[i]?=some x->σ[i]?=some (some v)->fT X.env.scope x->∃ u,RelV v u/\Yc X.env s.heap m x u
 cell:∀ x c,X.env.cells.lookup x=some c->∃ v,s.heap.IsCell c v
 free:H X.env.locals=none
 freeC:∀ x c,X.env.cells.lookup x=some c->H c=none
 pin:∀ p∈X.pn++pins,s.heap.get? p.1=some p.2/\H p.1=none/\p.1≠X.env.locals/\p.1∉X.fs/\∀ v,p.2.data≠.cell v
 hok:HOk X.prog X.w H s.heap
 len:σ.length=X.N.length
section
variable {X:Cx}{pins:List (Addr×Obj)}{σ:List (Option V)}{H H':Hp}{s:Shared}{h':Heap}
theorem Cx.Ok.nofr(ok:X.Ok){b:Addr}{o:Obj}(e:X.base.get? b=some o):b∉X.fs:=fun hb=>by
 have:=(ok.funs.mem hb).1
 rw[e]at this;cases this
theorem Inv.bs(I:Inv X pins σ H s):∀ b o,X.base.get? b=some o->s.heap.get? b=some o/\H b=none:=fun b o e =>
 ⟨I.base.keep b o (I.ok.bs b o e).1 (I.ok.bs b o e).2 (I.ok.nofr e) (I.ok.noex b o e),I.base.free b o (I.ok.bs b o e).1 (I.ok.bs b o e).2 (I.ok.noex b o e)⟩
theorem Inv.bk(I:Inv X pins σ H s):∀ b o,X.base.get? b=some o->s.heap.get? b=some o:=fun b o e=>(I.bs b o e).1
theorem Inv.mod(I:Inv X pins σ H s):Mod X.K X.mg X.base:=I.ok.mod
theorem Inv.kIn(I:Inv X pins σ H s):X.K.In s.heap:=I.ok.mod.kin.keeps I.bk
theorem Inv.nolimit(I:Inv X pins σ H s):s.heap.NoLimit:=I.ok.mod.nolimit.keeps I.bk
theorem Inv.lt(I:Inv X pins σ H s):X.env.locals<s.heap.objs.size:=let ⟨_,hn,_⟩:=I.loc;hn.lt
theorem Inv.sz(I:Inv X pins σ H s):X.s₀.heap.objs.size<=s.heap.objs.size:=Nat.le_trans I.ok.above (Nat.le_of_lt I.lt)
theorem Inv.nofs(I:Inv X pins σ H s){a:Addr}(h:s.heap.objs.size<=a):a∉X.fs:=fun hb=>by
 obtain⟨_,o,ho,_⟩:=I.ok.funs.mem hb;exact absurd (Nat.lt_of_lt_of_le (Heap.lt_size ho) (Nat.le_trans I.sz h)) (Nat.lt_irrefl _)
theorem Inv.cne(I:Inv X pins σ H s):∀ x c,X.env.cells.lookup x=some c->c≠X.env.locals:=fun x c e z=>by
 obtain⟨v,o,ho,hd⟩:=I.cell x c e;obtain⟨m,⟨o',es,ep,ho',hd',_⟩,_⟩:=I.loc;rw[z,ho']at ho;cases ho;rw[hd']at hd;cases hd
theorem Inv.funs(I:Inv X pins σ H s):s.heap.FunFrames X.base X.outer:=by
 have all:∀ (l:List Env),(∀ b∈fP l,b∈X.fs)->X.s₀.heap.FunFrames X.base l->s.heap.FunFrames X.base l:=by
  intro l
  induction l with
  | nil=>intro _ _;trivial
  | cons env r ih =>
   intro hs hl;obtain⟨hk,⟨L,o,hf,hn,ho,hd⟩,hr⟩:=hl;have hL:L∈X.fs:=hs L (by unfold fP;rw[List.filterMap_cons,hf];exact List.mem_cons_self)
   obtain⟨sl,e⟩:=I.base.slot L o ho (I.ok.frf L hL) hL fun z=>I.ok.exfs L z hL;exact⟨hk,⟨L,_,hf,hn,e,hd⟩,ih (fun b hb=>hs b (by unfold fP;rw[List.filterMap_cons,hf];exact List.mem_cons_of_mem _ hb)) hr⟩
 exact all X.outer (fun _ hb=>hb) I.ok.funs
theorem Inv.stack(I:Inv X pins σ H s):s.heap.FunFrames X.base X.stack:=by
 rcases I.ok.stk with e | ⟨e,hf⟩
 ·rw[e];exact I.funs
 ·rw[e];obtain⟨m,hn,_⟩:=I.loc;refine .cons (by rw[I.ok.kind];decide) hf hn ?_ I.funs
  exact Heap.get?_none_of_le (Nat.le_trans I.ok.bsz I.ok.above)
theorem Inv.stkSub(I:Inv X pins σ H s):∀ b∈fP X.stack,b∈X.env.locals::X.fs:=fun b hb=>by
 rcases I.ok.stk with e | ⟨e,hf⟩
 ·rw[e]at hb;exact List.mem_cons_of_mem _ hb
 ·rw[e]at hb;unfold fP at hb;rw[List.filterMap_cons,hf]at hb;exact hb
theorem Inv.stkFree(I:Inv X pins σ H s):∀ b∈fP X.stack,H b=none:=fun b hb=>by
 rcases List.mem_cons.mp (I.stkSub b hb) with e | hb
 ·rw[e];exact I.free
 ·obtain⟨_,o,ho,_⟩:=I.ok.funs.mem hb;exact I.base.free b o ho (I.ok.frf b hb) fun z=>I.ok.exfs b z hb
theorem Inv.step{g':Array GenState}{t':Nat}{d':Drawn}{ch:List Addr}(I:Inv X pins σ H s)
  (hch:∀ b∈ch,(b∈X.ex\/X.s₀.heap.objs.size<=b)/\b≠X.env.locals/\(∀ x c,X.env.cells.lookup x=some c->c≠b)/\∀ p∈X.pn++pins,p.1≠b)
  (keep:∀ b o,b≠X.env.locals->b∉X.fs->b∉ch->s.heap.get? b=some o->H b=none->h'.get? b=some o)
  (slot:∀ b o,b≠X.env.locals->b∈X.fs->b∉ch->s.heap.get? b=some o->H b=none->∃ sl,h'.get? b=some {o with slots:=sl}) (free:∀ b o,b∉ch->s.heap.get? b=some o->H b=none->H' b=none)
  (there:∀ b o,b∉ch->s.heap.get? b=some o->∃ o',h'.get? b=some o')
  (tups:∀ b xs,H b=some (.tup xs)->H' b=some (.tup xs)) (frzs:∀ b o u,H b=some (.frz o u)->H' b=some (.frz o u)) (tbls:∀ b ps,H b=some (.tbl ps)->∃ more,H' b=some (.tbl (ps++more)))
  (ns:∀ m,s.heap.Ns X.env.locals m->h'.Ns X.env.locals m) (hok:HOk X.prog X.w H' h') (hg:AllBare g') :
  Inv X pins σ H' {s with heap:=h',gens:=g',drawn:=d',toks:=t'}:=by
 have neL:∀ b o,X.s₀.heap.get? b=some o->b≠X.env.locals:=fun b o e=>Nat.ne_of_lt (Nat.lt_of_lt_of_le (Heap.lt_size e) I.ok.above)
 have neC:∀ b o,X.s₀.heap.get? b=some o->b∉X.ex->b∉ch:=fun b o e hx hb=>by
  rcases (hch b hb).1 with z | z
  ·exact hx z
  ·exact absurd (Nat.lt_of_lt_of_le (Heap.lt_size e) z) (Nat.lt_irrefl _)
 have cellK:∀ x c,X.env.cells.lookup x=some c->∀ v,s.heap.IsCell c v->h'.IsCell c v:=fun x c e v ⟨o,ho,hd⟩=>by
  have nch:c∉ch:=fun z=>(hch c z).2.2.1 x c e rfl
  by_cases hc:c∈X.fs
  ·obtain⟨sl,q⟩:=slot c o (I.cne x c e) hc nch ho (I.freeC x c e);exact⟨_,q,hd⟩
  ·exact⟨o,keep c o (I.cne x c e) hc nch ho (I.freeC x c e),hd⟩
 refine⟨I.ok,I.os,hg,⟨fun b o e n hb hx=>?_,fun b o e n hb hx=>?_,fun b o e n hx=>?_,fun b o e hx=>?_,fun b xs e=>tups b xs (I.base.tups b xs e),fun b o xs e=>frzs b o xs (I.base.frzs b o xs e),fun b ps e=>?_⟩,?_,fun x c e=>?_,?_,fun x c e=>?_,fun p hp=>?_,hok,I.len⟩
 ·exact keep b o (neL b o e) hb (neC b o e hx) (I.base.keep b o e n hb hx) (I.base.free b o e n hx)
 ·obtain⟨sl,e1⟩:=I.base.slot b o e n hb hx;obtain⟨sl',e2⟩:=slot b _ (neL b o e) hb (neC b o e hx) e1 (I.base.free b o e n hx);exact⟨sl',e2⟩
 ·obtain⟨o',e1⟩:=I.base.there b o e hx;exact free b o' (neC b o e hx) e1 (I.base.free b o e n hx)
 ·obtain⟨o',e1⟩:=I.base.there b o e hx;exact there b o' (neC b o e hx) e1
 ·obtain⟨m1,e1⟩:=I.base.tbls b ps e;obtain⟨m2,e2⟩:=tbls b _ e1;exact⟨m1++m2,by rw[e2,Array.append_assoc]⟩
 ·obtain⟨m,hn,hl⟩:=I.loc;refine⟨m,ns m hn,fun i x v e1 e2 e3=>?_⟩;obtain⟨u,r,l⟩:=hl i x v e1 e2 e3;refine⟨u,r,?_⟩;rcases l with l | ⟨k,c,e,z⟩
  ·exact .inl l
  ·exact .inr ⟨k,c,e,cellK x c e _ z⟩
 ·obtain⟨v,z⟩:=I.cell x c e;exact⟨v,cellK x c e v z⟩
 ·obtain⟨m,⟨o,_,_,ho,_⟩,_⟩:=I.loc;exact free _ o (fun z=>(hch _ z).2.1 rfl) ho I.free
 ·obtain⟨v,o,ho,hd⟩:=I.cell x c e;exact free c o (fun z=>(hch c z).2.2.1 x c e rfl) ho (I.freeC x c e)
 ·obtain⟨e,n,ne,nf,d⟩:=I.pin p hp;have nch:p.1∉ch:=fun z=>(hch p.1 z).2.2.2 p hp rfl
  exact⟨keep p.1 p.2 ne nf nch e n,free p.1 p.2 nch e n,ne,nf,d⟩
theorem Inv.un{t':Nat}(I:Inv X pins σ H s)(u:Un X.fs [] H H' s.heap h')(hok:HOk X.prog X.w H' h'):Inv X pins σ H' {s with heap:=h',toks:=t'}:=by
 obtain⟨m,⟨o,es,ep,ho,r⟩,_⟩:=id I.loc;obtain⟨sl,hL⟩:=u.any ho I.free (by simp)
 exact I.step (g':=s.gens) (d':=s.drawn) (ch:=[]) (fun _ z=>nomatch z) (fun b o _ hb _ e n=>u.keep b o e n hb (by simp)) (fun b o _ hb _ e n=>u.slot b o e n hb (by simp)) (fun b o _ e n=>u.free b o e n (by simp)) (fun b o _ e=>u.there b o e (by simp)) u.tups u.frzs u.tbls (fun m' hm=>by
  obtain⟨o',es',ep',ho',r'⟩:=hm;rw[ho]at ho';cases ho';exact⟨_,es',ep',hL,r'⟩) hok I.bare
theorem Inv.call{g':Array GenState}{t':Nat}{d':Drawn}{ch:List Addr}(I:Inv X pins σ H s)(u:Un (fP X.stack) ch H H' s.heap h')(hok:HOk X.prog X.w H' h')(hg:AllBare g')
  (hch:∀ b∈ch,(b∈X.ex\/X.s₀.heap.objs.size<=b)/\b≠X.env.locals/\(∀ x c,X.env.cells.lookup x=some c->c≠b)/\∀ p∈X.pn++pins,p.1≠b) :
  Inv X pins σ H' {s with heap:=h',gens:=g',drawn:=d',toks:=t'}:=by
 obtain⟨m,⟨o,es,ep,ho,r⟩,_⟩:=id I.loc;obtain⟨sl,hL⟩:=u.any ho I.free fun z=>(hch _ z).2.1 rfl;exact I.step (ch:=ch) hch (fun b o hL hb hc e n=>u.keep b o e n (fun z=>(List.mem_cons.mp (I.stkSub b z)).elim hL hb) hc) (fun b o _ _ hc e n=>u.any e n hc) (fun b o hc e n=>u.free b o e n hc) (fun b o hc e=>u.there b o e hc) u.tups u.frzs u.tbls (fun m' hm=>by
  obtain⟨o',es',ep',ho',r'⟩:=hm;rw[ho]at ho';cases ho';exact⟨_,es',ep',hL,r'⟩) hok hg
theorem Inv.turned{t':Nat}{it:Addr}(I:Inv X pins σ H s)(k:∀ b o,b≠it->s.heap.get? b=some o->h'.get? b=some o)(hn:H it=none)(hL:it≠X.env.locals)
  (h1:it∈X.ex\/X.s₀.heap.objs.size<=it) (h2:∀ x c,X.env.cells.lookup x=some c->c≠it) (h3:∀ p∈X.pn++pins,p.1≠it):Inv X pins σ H {s with heap:=h',toks:=t'}:=by
 have nit:∀ b u,H b=some u->b≠it:=fun b u e z=>by rw[z,hn]at e;cases e
 refine I.step (g':=s.gens) (d':=s.drawn) (ch:=[it]) (fun b hb=>?_) (fun b o _ _ hc e _=>k b o (fun z=>hc (by simp[z])) e) (fun b o _ _ hc e _=>⟨o.slots,k b o (fun z=>hc (by simp[z])) e⟩) (fun _ _ _ _ n=>n)
  (fun b o hc e=>⟨o,k b o (fun z=>hc (by simp[z])) e⟩) (fun _ _ e=>e) (fun _ _ _ e=>e) (fun b ps e=>⟨#[],by rw[e];simp⟩) (fun m hm=>?_) (fun b u e=>?_) I.bare
 ·have e:b=it:=by simpa using hb
  subst e;exact⟨h1,hL,h2,h3⟩
 ·obtain⟨o,es,ep,ho,r⟩:=hm;exact⟨o,es,ep,k _ o (Ne.symm hL) ho,r⟩
 ·refine(I.hok b u e).stay (fun c v hc q=>k c v ?_ q) (fun _ q=>q) (fun _ _ q=>q) fun _ _ _ q=>q;rcases hc with z | z
  ·rw[z];exact nit b u e
  ·exact nit c _ z
theorem Inv.tok(I:Inv X pins σ H s)(t:Nat):Inv X pins σ H {s with toks:=t}:=I.un (h':=s.heap) (t':=t) Un.refl I.hok
theorem Inv.kept{t':Nat}(I:Inv X pins σ H s)(k:∀ b u,s.heap.get? b=some u->h'.get? b=some u):Inv X pins σ H {s with heap:=h',toks:=t'}:=I.un (Un.kept k) (I.hok.kept k)
theorem Inv.laid{a:Addr}{o:HO}{t':Nat}(I:Inv X pins σ H s)(k:∀ b u,s.heap.get? b=some u->h'.get? b=some u)(hp:s.heap.objs.size<=a)(new:ObjOk X.prog X.w (aI H a o) h' a o) :
  Inv X pins σ (aI H a o) {s with heap:=h',toks:=t'}:=I.un (Un.laid k hp (I.hok.fresh hp)) (I.hok.laid k hp new)
theorem Inv.write{x e:Addr}{o:HO}{t':Nat}(I:Inv X pins σ H s)(mu:rE (H x))(he:e=x\/H e=some (.own x))(k:∀ b u,b≠e->s.heap.get? b=some u->h'.get? b=some u)(heo:∃ u,h'.get? e=some u)
  (new:ObjOk X.prog X.w (aI H x o) h' x o):Inv X pins σ (aI H x o) {s with heap:=h',toks:=t'}:=I.un (Un.write mu he k heo) (I.hok.write mu he k heo new)
theorem Inv.pins_of{pins':List (Addr×Obj)}(I:Inv X pins σ H s)(h:∀ p∈pins',s.heap.get? p.1=some p.2/\H p.1=none/\p.1≠X.env.locals/\p.1∉X.fs/\∀ v,p.2.data≠.cell v):Inv X pins' σ H s :=
 ⟨I.ok,I.os,I.bare,I.base,I.loc,I.cell,I.free,I.freeC,fun p hp=>(List.mem_append.mp hp).elim (fun z=>I.pin p (List.mem_append_left _ z)) (h p),I.hok,I.len⟩
theorem Is{N:List Str}(hN:N.Nodup){i j:Nat}{x:Str}(a:N[i]?=some x)(b:N[j]?=some x):i=j:=by
 obtain⟨h1,e1⟩:=List.getElem?_eq_some_iff.mp a;obtain⟨h2,e2⟩:=List.getElem?_eq_some_iff.mp b;exact(List.getElem_inj hN).mp (e1.trans e2.symm)
theorem Ha{M:Model}{A:Around}{E:Value->Shared->Prop}{i:Nat}{x:Str}{v:V}{u:Value}{Q:Unit->Shared->Prop}(I:Inv X pins σ H s)(hN:X.N.Nodup)(hi:X.N[i]?=some x)(hx:gH X.env.scope x)(r:RelV v u)
  (h:∀ s',Inv X pins (σ.set i (some v)) H s'->(∃ a,Heap.SameBut a s.heap s'.heap/\(a=X.env.locals\/X.env.cells.lookup x=some a))->Q () s') (hf:X.fn x=true\/X.env.scope.names.lookup x=some .local:=by first | exact .inl rfl | exact .inr rfl | assumption):wpAny M A (storeName X.env x u) Q E s:=by
 obtain⟨m,hn,hl⟩:=id I.loc;have hcls:(X.env.scope.kind==.class||(X.env.scope.kind==.module&&X.env.locals != X.env.globals))=false:=by rw[I.ok.kind];rfl
 have hiσ:i<σ.length:=by rw[I.len];exact(List.getElem?_eq_some_iff.mp hi).1
 have cne:=I.cne
 have tracked:∀ {a:Addr} {h':Heap},(∃ o,s.heap.get? a=some o/\H a=none)->Heap.SameBut a s.heap h'->HOk X.prog X.w H h':=fun {a h'} ha hs b ob e=>by
  obtain⟨_,_,hfree⟩:=ha;refine(I.hok b ob e).stay (fun c w' hc q=>(hs.2 c ?_).trans q) (fun _ q=>q) (fun _ _ q=>q) fun _ _ _ q=>q;rintro rfl;rcases hc with rfl | hc
  ·rw[hfree]at e;cases e
  ·rw[hfree]at hc;cases hc
 rcases hx with hk | hk
 ·refine wpAny_storeName_local hk hn (fun h' hn' hs=>?_) hcls;obtain⟨oL,_,_,hoL,_⟩:=id hn;refine h _ ⟨I.ok,I.os,I.bare,⟨fun b o e n hb hx=>?_,fun b o e n hb hx=>?_,I.base.free,fun b o e hx=>?_,I.base.tups,I.base.frzs,I.base.tbls⟩,⟨_,hn',fun j y v' e1 e2 e3=>?_⟩,fun y c e=>?_,I.free,I.freeC,fun p hp=>?_,tracked ⟨oL,hoL,I.free⟩ hs,by simpa using I.len⟩ ⟨_,hs,.inl rfl⟩
  ·exact(hs.2 b (Nat.ne_of_lt (Nat.lt_of_lt_of_le (Heap.lt_size e) I.ok.above))).trans (I.base.keep b o e n hb hx)
  ·obtain⟨sl,e1⟩:=I.base.slot b o e n hb hx;exact⟨sl,(hs.2 b (Nat.ne_of_lt (Nat.lt_of_lt_of_le (Heap.lt_size e) I.ok.above))).trans e1⟩
  ·obtain⟨o',e1⟩:=I.base.there b o e hx;exact⟨o',(hs.2 b (Nat.ne_of_lt (Nat.lt_of_lt_of_le (Heap.lt_size e) I.ok.above))).trans e1⟩
  ·by_cases hj:j=i
   ·subst hj;rw[hi]at e1;cases e1;rw[List.getElem?_set_self hiσ]at e2
    cases e2
    exact⟨u,r,.inl ⟨hk,by simp⟩⟩
   ·rw[List.getElem?_set_ne (Ne.symm hj)]at e2;obtain⟨u',r',q⟩:=hl j y v' e1 e2 e3;refine⟨u',r',?_⟩;rcases q with⟨k,e⟩ | ⟨k,c,e,z⟩
    ·refine .inl ⟨k,?_⟩;have:y≠x:=fun e=>hj (Is hN e1 (e▸hi))
     simp[this,e]
    ·exact .inr ⟨k,c,e,z.sameBut hs (cne y c e)⟩
  ·obtain⟨w',z⟩:=I.cell y c e;exact⟨w',z.sameBut hs (cne y c e)⟩
  ·obtain⟨e,n,ne,nf,d⟩:=I.pin p hp;exact⟨(hs.2 p.1 ne).trans e,n,ne,nf,d⟩
 ·have hfn:X.fn x=true:=by
   rcases hf with z | z
   ·exact z
   ·rw[z]at hk;cases hk
  obtain⟨c,hc⟩:=I.ok.has x (.inl hk);obtain⟨w',z⟩:=I.cell x c hc;refine wpAny_storeName_cell I.ok.kind hk hc z (fun h' hc' hs=>?_);obtain⟨oc,hoc,hocd⟩:=id z;refine h {s with heap:=h'} ⟨I.ok,I.os,I.bare,⟨fun b o e n hb hx=>?_,fun b o e n hb hx=>?_,I.base.free,fun b o e hx=>?_,I.base.tups,I.base.frzs,I.base.tbls⟩,⟨m,hn.sameBut hs (Ne.symm (cne x c hc)),fun j y v' e1 e2 e3=>?_⟩,fun y c' e=>?_,I.free,I.freeC,fun p hp=>?_,tracked ⟨oc,hoc,I.freeC x c hc⟩ hs,by simpa using I.len⟩ ⟨c,hs,.inr hc⟩
  ·exact(hs.2 b (Nat.ne_of_lt (Nat.lt_of_lt_of_le (Heap.lt_size e) (I.ok.cab x c hfn hc)))).trans (I.base.keep b o e n hb hx)
  ·obtain⟨sl,e1⟩:=I.base.slot b o e n hb hx;exact⟨sl,(hs.2 b (Nat.ne_of_lt (Nat.lt_of_lt_of_le (Heap.lt_size e) (I.ok.cab x c hfn hc)))).trans e1⟩
  ·obtain⟨o',e1⟩:=I.base.there b o e hx;exact⟨o',(hs.2 b (Nat.ne_of_lt (Nat.lt_of_lt_of_le (Heap.lt_size e) (I.ok.cab x c hfn hc)))).trans e1⟩
  ·by_cases hj:j=i
   ·subst hj;rw[hi]at e1;cases e1;rw[List.getElem?_set_self hiσ]at e2
    cases e2
    exact⟨u,r,.inr ⟨.inl hk,c,hc,hc'⟩⟩
   ·rw[List.getElem?_set_ne (Ne.symm hj)]at e2;obtain⟨u',r',q⟩:=hl j y v' e1 e2 e3;refine⟨u',r',?_⟩;rcases q with q | ⟨k,c',e,z'⟩
    ·exact .inl q
    ·refine .inr ⟨k,c',e,z'.sameBut hs ?_⟩;rintro rfl;exact hj (Is hN e1 (I.ok.inj _ _ _ e hc▸hi))
  ·by_cases hcc:c'=c
   ·subst hcc;exact⟨_,hc'⟩
   ·obtain⟨w2,z2⟩:=I.cell y c' e;exact⟨w2,z2.sameBut hs hcc⟩
  ·obtain⟨e,n,ne,nf,d⟩:=I.pin p hp;refine⟨(hs.2 p.1 ?_).trans e,n,ne,nf,d⟩;intro q;rw[q,hoc]at e;have q':oc=p.2:=Option.some.inj e
   exact d w' (by rw[<- q'];exact hocd)
theorem Ix{M:Model}{A:Around}{E:Value->Shared->Prop}{i:Nat}{x:Str}{v:V}{u:Value}{Q:Unit->Shared->Prop}(I:Inv X pins σ H s)(hN:X.N.Nodup)(hi:X.N[i]?=some x)(hx:gH X.env.scope x)(r:RelV v u)
  (h:∀ s',Inv X pins (σ.set i (some v)) H s'->Q () s') (hf:X.fn x=true\/X.env.scope.names.lookup x=some .local:=by first | exact .inl rfl | exact .inr rfl | assumption):wpAny M A (storeName X.env x u) Q E s :=
 Ha I hN hi hx r (fun s' I' _=>h s' I') hf
theorem Inv.call'{s':Shared}{ch:List Addr}(I:Inv X pins σ H s)(ho:s'.os=s.os)(u:Un (fP X.stack) ch H H' s.heap s'.heap)(hok:HOk X.prog X.w H' s'.heap)(hg:AllBare s'.gens)
  (hch:∀ b∈ch,(b∈X.ex\/X.s₀.heap.objs.size<=b)/\b≠X.env.locals/\(∀ x c,X.env.cells.lookup x=some c->c≠b)/\∀ p∈X.pn++pins,p.1≠b):Inv X pins σ H' s':=by
 obtain⟨h',g',d',t',o'⟩:=s';have e:o'=s.os:=ho
 subst e;exact I.call (g':=g') (t':=t') (d':=d') u hok hg hch
end
abbrev XK:=Value->Option Addr->Hp->Prop
abbrev St:=List (Option V)
abbrev VK:=V->Hp->Prop
abbrev TE:=St->Hp->VK->Prop
abbrev TT:=St->Hp->(Bool->Hp->Prop)->Prop
abbrev TA:=St->Hp->(List V->Hp->Prop)->Prop
structure Ends where
 nx:St->Hp->Prop
 rt:VK
 bk:St->Hp->Prop:=fun _ _=>False
 ct:St->Hp->Prop:=fun _ _=>False
abbrev TS:=Ends->St->Hp->Prop
def EP(X:Cx)(pins:List (Addr×Obj))(σ:St)(Q:VK)(u:Value)(s':Shared):Prop:=∃ v H',Inv X pins σ H' s'/\RelV v u/\Q v H'
def TP(X:Cx)(pins:List (Addr×Obj))(σ:St)(Q:Bool->Hp->Prop)(b:Bool)(s':Shared):Prop:=∃ H',Inv X pins σ H' s'/\Q b H'
def AP(X:Cx)(pins:List (Addr×Obj))(σ:St)(Q:List V->Hp->Prop)(us:List Value)(s':Shared):Prop:=∃ vs H',Inv X pins σ H' s'/\Vals vs us/\Q vs H'
def SP(X:Cx)(pins:List (Addr×Obj))(D:Ends)(f:Flow)(s':Shared):Prop :=
 match f with
 | .next=>∃ σ' H',Inv X pins σ' H' s'/\D.nx σ' H'
 | .brk=>∃ σ' H',Inv X pins σ' H' s'/\D.bk σ' H'
 | .cont=>∃ σ' H',Inv X pins σ' H' s'/\D.ct σ' H'
 | .ret u=>∃ v σ' H',Inv X pins σ' H' s'/\RelV v u/\D.rt v H'
def PE(X:Cx)(e:Expr)(t:TE):Prop :=
 ∀ (pins:List (Addr×Obj)) (s:Shared) (σ:St) (H:Hp) (Q:VK),Inv X pins σ H s->t σ H Q->wpAny (model X.prog X.w) X.A (eval e X.env) (EP X pins σ Q) X.xe s
def PT(X:Cx)(e:Expr)(t:TT):Prop :=
 ∀ (pins:List (Addr×Obj)) (s:Shared) (σ:St) (H:Hp) (Q:Bool->Hp->Prop),Inv X pins σ H s->t σ H Q->wpAny (model X.prog X.w) X.A (isTrue e X.env (eval e X.env)) (TP X pins σ Q) X.xe s
def PW(X:Cx)(e:Expr)(t:TT):Prop :=
 ∀ (whole:Sem Value) (pins:List (Addr×Obj)) (s:Shared) (σ:St) (H:Hp) (Q:Bool->Hp->Prop),Inv X pins σ H s->t σ H Q->wpAny (model X.prog X.w) X.A (isTrue e X.env whole) (TP X pins σ Q) X.xe s
theorem PW.pt{X:Cx}{e:Expr}{t:TT}(h:PW X e t):PT X e t:=h _
def PA(X:Cx)(es:List Expr)(t:TA):Prop :=
 ∀ (pos:Pos) (pins:List (Addr×Obj)) (s:Shared) (σ:St) (H:Hp) (Q:List V->Hp->Prop),Inv X pins σ H s->t σ H Q->wpAny (model X.prog X.w) X.A (spliced (backTo pos (starEach es X.env))) (AP X pins σ Q) X.xe s
def PS(X:Cx)(st:Stmt)(t:TS):Prop :=
 ∀ (pins:List (Addr×Obj)) (s:Shared) (σ:St) (H:Hp) (D:Ends),Inv X pins σ H s->t D σ H->wpAny (model X.prog X.w) X.A (exec st X.env) (SP X pins D) X.xe s
def PSs(X:Cx)(st:List Stmt)(t:TS):Prop :=
 ∀ (pins:List (Addr×Obj)) (s:Shared) (σ:St) (H:Hp) (D:Ends),Inv X pins σ H s->t D σ H->wpAny (model X.prog X.w) X.A (execs st X.env) (SP X pins D) X.xe s
theorem aM{α:Type}{t:Sem α}{Q Q':α->Shared->Prop}{M:Model}{A:Around}{E:Value->Shared->Prop}{s:Shared}(h:wpAny M A t Q E s)(hQ:∀ a s,Q a s->Q' a s):wpAny M A t Q' E s:=wpAny_mono h hQ fun _ _ x=>x
end L2
namespace L2
open PySem PySem.Spec PyProof.Rows
section
variable {X:Cx}
def B4(i:Nat):TE:=fun σ H Q=>∃ v,σ[i]?=some (some v)/\Q v H
def tC(v:V):TE:=fun _ H Q=>Q v H
theorem Gp{i:Nat}{x:Str}{pos:Pos}(hN:X.N[i]?=some x)(hv:fT X.env.scope x)(hd:(x==("__debug__" : Str))=false:=by decide)(hcd:(x==("__classdict__" : Str))=false:=by decide):PE X (.Name x pos) (B4 i):=by
 intro pins s σ H Q I h;obtain⟨v,e,h⟩:=h;obtain⟨m,hn,hl⟩:=I.loc;obtain⟨u,r,l⟩:=hl i x v hN e hv;have fin:EP X pins σ Q u s:=⟨v,H,I,r,h⟩
 rcases l with⟨hk,hm⟩ | ⟨hk,c,hc,hcell⟩
 ·exact wpAny_Name (wpAny_loadName_local I.ok.kind hk hn hm fin) hd
 ·rcases hk with hk | hk
  ·exact wpAny_Name (wpAny_loadName_cell I.ok.kind hk hc hcell fin) hd
  ·exact wpAny_Name (wpAny_loadName_free I.ok.kind hk hc hcell fin hcd) hd
theorem v7{i j pos}:PE X (.Constant (.int i) j pos) (tC (.int i)):=fun _ _ _ H _ I h=>wpAny_Constant_int ⟨.int i,H,I.tok _,⟨_,rfl⟩,h⟩
theorem Y0{b j pos}:PE X (.Constant (.bool b) j pos) (tC (.bl b)):=fun _ _ _ H _ I h=>Constant_bool ⟨.bl b,H,I,rfl,h⟩
theorem Vj{x j pos}:PE X (.Constant (.str x) j pos) (tC (.str x)):=fun _ _ _ H _ I h=>Calls.Constant_str ⟨.str x,H,I.tok _,⟨_,rfl⟩,h⟩
def Gl(X:Cx)(x:Str):Prop:=X.env.kindOf x=some .globalImplicit
theorem Er{E:Value->Shared->Prop}{pins:List (Addr×Obj)}{s:Shared}{σ:St}{H:Hp}{x:Str}{u:Value}{pos:Pos}{Q:Value->Shared->Prop}(I:Inv X pins σ H s)(hg:Gl X x)(hm:X.mg x=some u)(h:Q u s)
  (hd:(x==("__debug__" : Str))=false:=by decide):wpAny (model X.prog X.w) X.A (eval (.Name x pos) X.env) Q E s :=
 Calls.Name_function_global I.ok.kind hg (Calls.loadGlobal_global (by rw[I.ok.glob];exact I.mod.glob.keeps I.bk) hm h) hd
theorem jJ{E:Value->Shared->Prop}{pins:List (Addr×Obj)}{s:Shared}{σ:St}{H:Hp}{x:Str}{u:Value}{pos:Pos}{Q:Value->Shared->Prop}(I:Inv X pins σ H s)(hg:Gl X x)(hm:X.mg x=none)(hv:bootBuiltins x=some u)(h:Q u s)
  (hn:x≠"__name__":=by decide) (hd:(x==("__debug__" : Str))=false:=by decide):wpAny (model X.prog X.w) X.A (eval (.Name x pos) X.env) Q E s:=by
 obtain⟨mb,h1,h2⟩:=I.mod.blt;exact Calls.Name_function_global I.ok.kind hg (Calls.loadGlobal_builtin (by rw[I.ok.glob];exact I.mod.glob.keeps I.bk) hm (by rw[I.ok.blt];exact h1.keeps I.bk) ((h2 x hn).trans hv) h) hd
theorem yS{x:Str}{v:V}{u:Value}{pos:Pos}(hg:Gl X x)(hm:X.mg x=some u)(r:RelV v u)(hd:(x==("__debug__" : Str))=false:=by decide):PE X (.Name x pos) (tC v) :=
 fun _ _ _ H _ I h=>Er I hg hm ⟨v,H,I,r,h⟩ hd
theorem Uf{x:Str}{v:V}{u:Value}{pos:Pos}(hg:Gl X x)(hm:X.mg x=none)(hv:bootBuiltins x=some u)(r:RelV v u)(hn:x≠"__name__":=by decide)(hd:(x==("__debug__" : Str))=false:=by decide):PE X (.Name x pos) (tC v) :=
 fun _ _ _ H _ I h=>jJ I hg hm hv ⟨v,H,I,r,h⟩ hn hd
variable {a b:Expr}{ta tb:TE}{pos:Pos}
def tB(t:TE):TT:=fun σ H Q=>t σ H fun x H1=>∃ c,x=.bl c/\Q c H1
theorem Up{e:Expr}{t:TE}(h:PE X e t)(he:∀ whole,isTrue e X.env whole=(do let v <- whole;standAt e.pos;holding [v] (truthy v)):=by intro _;rfl):PT X e (tB t):=by
 intro pins s σ H Q I hw;refine isTrue_plain (aM (h pins s σ H _ I hw) fun v s1 ⟨x,H1,I1,r1,q1⟩=>?_) (he _);obtain⟨d,rfl,q⟩:=q1
 cases r1
 exact wpAny_truthy_bool ⟨H1,I1,q⟩
variable {tA tB':TT}{rest:List Expr}
def X8(t u:TT):TT:=fun σ H Q=>t σ H fun c H1=>if c=true then u σ H1 Q else Q false H1
def D7(t u:TT):TT:=fun σ H Q=>t σ H fun c H1=>if c=true then Q true H1 else u σ H1 Q
def Uz(t:TT):TT:=fun σ H Q=>t σ H fun c H1=>Q (!c) H1
theorem Zs(ha:PT X a tA):PW X (.BoolOp .And [a] pos) tA:=by
 intro wh pins s σ H Q I h;refine isTrue_and (aM (ha pins s σ H Q I h) fun c s1 e=>?_)
 cases c with
 | true=>exact isTrue_and_nil e
 | false=>exact e
theorem Ub(ha:PT X a tA):PW X (.BoolOp .Or [a] pos) tA:=by
 intro wh pins s σ H Q I h;refine isTrue_or (aM (ha pins s σ H Q I h) fun c s1 e=>?_)
 cases c with
 | false=>exact isTrue_or_nil e
 | true=>exact e
theorem Qu(ha:PT X a tA)(hb:PW X (.BoolOp .And (b::rest) pos) tB'):PW X (.BoolOp .And (a::b::rest) pos) (X8 tA tB'):=by
 intro wh pins s σ H Q I h;refine isTrue_and (aM (ha pins s σ H _ I h) fun c s1 ⟨H1,I1,q1⟩=>?_)
 cases c with
 | true=>exact hb wh pins s1 σ H1 Q I1 q1
 | false=>exact⟨H1,I1,q1⟩
theorem Sr(ha:PT X a tA)(hb:PW X (.BoolOp .Or (b::rest) pos) tB'):PW X (.BoolOp .Or (a::b::rest) pos) (D7 tA tB'):=by
 intro wh pins s σ H Q I h;refine isTrue_or (aM (ha pins s σ H _ I h) fun c s1 ⟨H1,I1,q1⟩=>?_)
 cases c with
 | true=>exact⟨H1,I1,q1⟩
 | false=>exact hb wh pins s1 σ H1 Q I1 q1
theorem Z7(ha:PT X a tA):PT X (.UnaryOp .Not a pos) (Uz tA):=by
 intro pins s σ H Q I h;exact isTrue_not (ha pins s σ H (fun c H1=>Q (!c) H1) I h)
def Xy(ta tb:TE):TE:=fun σ H Q=>ta σ H fun x H1=>∃ c,x=.bl c/\if c=true then tb σ H1 Q else Q (.bl false) H1
theorem AU{op}{t:TE}(h:PE X a t):PE X (.BoolOp op [a] pos) t:=fun pins s σ H Q I hw=>BoolOp_one (h pins s σ H Q I hw)
theorem Ys(ha:PE X a ta)(hb:PE X (.BoolOp .And (b::rest) pos) tb):PE X (.BoolOp .And (a::b::rest) pos) (Xy ta tb):=by
 intro pins s σ H Q I h;refine BoolOp_and (aM (ha pins s σ H _ I h) fun v s1 ⟨x,H1,I1,r1,q1⟩=>?_);obtain⟨c,rfl,q1⟩:=q1
 cases r1
 refine wpAny_truthy_bool ?_
 cases c with
 | true=>exact hb pins s1 σ H1 Q I1 q1
 | false=>exact⟨.bl false,H1,I1,rfl,q1⟩
def o9(t:TT)(ta tb:TE):TE:=fun σ H Q=>t σ H fun c H1=>if c=true then ta σ H1 Q else tb σ H1 Q
theorem AW{c:Expr}(hc:PT X c tA)(ha:PE X a ta)(hb:PE X b tb):PE X (.IfExp c a b pos) (o9 tA ta tb):=by
 intro pins s σ H Q I h;refine wpAny_IfExp (aM (hc pins s σ H _ I h) fun d s1 ⟨H1,I1,q1⟩=>?_)
 cases d with
 | true=>exact ha pins s1 σ H1 Q I1 q1
 | false=>exact hb pins s1 σ H1 Q I1 q1
end
end L2
namespace L2
open PySem PySem.Spec PyProof.Rows
def SqL(K:PySem.W.Frag)(H:Hp)(a:Addr)(xs:List V):Prop :=
 Rd H a (.lst xs) \/
  ∃ (o:Obj) (its:Array Value) (n:Nat),K.lookup a=some o/\o.cls=.type "list"/\o.dict=none/\o.data=.seq its n/\its.size<=sizeLine/\Vals xs its.toList
def SqT(K:PySem.W.Frag)(H:Hp)(a:Addr)(xs:List V):Prop :=
 Rd H a (.tup xs) \/
  ∃ (o:Obj) (its:Array Value) (n:Nat),K.lookup a=some o/\(o.cls=.type "tuple"/\o.dict=none)/\o.data=.seq its n/\its.size<=sizeLine/\Vals xs its.toList
def Yq:Value->Option V
 | .none=>some .non
 | .bool b=>some (.bl b)
 | .int i _=>some (.int i)
 | .str x _=>some (.str x)
 | .bytes b _=>some (.byt b)
 | .float b _=>some (.flt b)
 | .ref a=>some (.ref a)
 | .type n=>some (.ty n)
 | _=>none
theorem RelV.abs{x:V}{u:Value}(r:RelV x u):Yq u=some x:=by
 cases x with
 | non=>cases r;rfl
 | bl _=>cases r;rfl
 | int _=>obtain⟨t,rfl⟩:=r;rfl
 | str _=>obtain⟨t,rfl⟩:=r;rfl
 | byt _=>obtain⟨t,rfl⟩:=r;rfl
 | flt _=>obtain⟨t,rfl⟩:=r;rfl
 | ref _=>cases r;rfl
 | ty _=>cases r;rfl
theorem RelV.inj{x y:V}{u:Value}(r:RelV x u)(q:RelV y u):x=y:=Option.some.inj (r.abs.symm.trans q.abs)
theorem Vals.inj:∀ {xs ys:List V} {us:List Value},Vals xs us->Vals ys us->xs=ys
 | _,_,_,.nil,.nil=>rfl
 | _,_,_,.cons r t,.cons r' t'=>by rw[r.inj r',Vals.inj t t']
section
variable {X:Cx}{pins:List (Addr×Obj)}{σ:St}{H:Hp}{s:Shared}{a:Addr}{xs ys:List V}
theorem SqL.of{K:PySem.W.Frag}(h:H a=some (.lst xs)):SqL K H a xs:=.inl (.inl h)
theorem SqT.of{K:PySem.W.Frag}(h:H a=some (.tup xs)):SqT K H a xs:=.inl (.inl h)
theorem Inv.list(I:Inv X pins σ H s)(h:SqL X.K H a xs):∃ its:List Value,Vals xs its/\PlainL s.heap a its.toArray/\xs.length<=sizeLine:=by
 rcases h with h | ⟨o,its,n,hk,hc,hd,hs,hz,r⟩
 ·obtain⟨z,its,n,r,e⟩:=h.ok I.hok;exact⟨its,r,⟨_,n,e,rfl,rfl,rfl⟩,z⟩
 ·refine⟨its.toList,r,⟨o,n,I.kIn a o hk,hc,hd,by simpa using hs⟩,?_⟩
  have e:=r.length
  simp only[Array.length_toList]at e;omega
theorem Inv.tuple(I:Inv X pins σ H s)(h:SqT X.K H a xs):∃ its:List Value,Vals xs its/\IsTup s.heap a its.toArray/\xs.length<=sizeLine:=by
 rcases h with h | ⟨o,its,n,hk,hc,hs,hz,r⟩
 ·obtain⟨z,its,r,p⟩:=h.ok I.hok;exact⟨its,r,p,z.1⟩
 ·refine⟨its.toList,r,⟨o,I.kIn a o hk,hc.1,n,by simpa using hs⟩,?_⟩
  have e:=r.length
  simp only[Array.length_toList]at e;omega
theorem Inv.list_inj(I:Inv X pins σ H s)(h:SqL X.K H a xs)(h':SqL X.K H a ys):xs=ys:=by
 obtain⟨its,r,⟨o,n,e,_,_,d⟩,_⟩:=I.list h;obtain⟨its',r',⟨o',n',e',_,_,d'⟩,_⟩:=I.list h';rw[e]at e';cases e';rw[d]at d'
 injection d' with d1 _
 have:its=its':=by simpa using congrArg Array.toList d1
 subst this;exact r.inj r'
theorem Inv.tuple_inj(I:Inv X pins σ H s)(h:SqT X.K H a xs)(h':SqT X.K H a ys):xs=ys:=by
 obtain⟨its,r,⟨o,e,_,n,d⟩,_⟩:=I.tuple h;obtain⟨its',r',⟨o',e',_,n',d'⟩,_⟩:=I.tuple h';rw[e]at e';cases e';rw[d]at d'
 injection d' with d1 _
 have:its=its':=by simpa using congrArg Array.toList d1
 subst this;exact r.inj r'
end
abbrev Cx.wish(X:Cx)(E:Value->Shared->Prop):Cx:={X with xe:=E}
abbrev Cx.nox(X:Cx):Cx:=X.wish fun _ _=>False
theorem Cx.Ok.wish{X:Cx}(ok:X.Ok)(E:Value->Shared->Prop):(X.wish E).Ok :=
 ⟨ok.mod,ok.kind,ok.glob,ok.blt,ok.above,ok.inj,ok.has,ok.cab,ok.hd,ok.frames,ok.stk,ok.exf,ok.bs,ok.bsz,ok.noex,ok.exfs,ok.funs,ok.frf⟩
theorem Cx.Ok.unwish{X:Cx}{E:Value->Shared->Prop}(ok:(X.wish E).Ok):X.Ok :=
 ⟨ok.mod,ok.kind,ok.glob,ok.blt,ok.above,ok.inj,ok.has,ok.cab,ok.hd,ok.frames,ok.stk,ok.exf,ok.bs,ok.bsz,ok.noex,ok.exfs,ok.funs,ok.frf⟩
section
variable {X:Cx}{pins:List (Addr×Obj)}{σ:St}{H:Hp}{s:Shared}{E:Value->Shared->Prop}
theorem Inv.wish(I:Inv X pins σ H s)(E:Value->Shared->Prop):Inv (X.wish E) pins σ H s:=⟨I.ok.wish E,I.os,I.bare,I.base,I.loc,I.cell,I.free,I.freeC,I.pin,I.hok,I.len⟩
theorem Inv.unwish(I:Inv (X.wish E) pins σ H s):Inv X pins σ H s:=⟨I.ok.unwish,I.os,I.bare,I.base,I.loc,I.cell,I.free,I.freeC,I.pin,I.hok,I.len⟩
theorem SP.unwish{D:Ends}{f:Flow}{s':Shared}(h:SP (X.wish E) pins D f s'):SP X pins D f s':=by
 cases f with
 | next=>obtain⟨σ',H',I,q⟩:=h;exact⟨σ',H',I.unwish,q⟩
 | brk=>obtain⟨σ',H',I,q⟩:=h;exact⟨σ',H',I.unwish,q⟩
 | cont=>obtain⟨σ',H',I,q⟩:=h;exact⟨σ',H',I.unwish,q⟩
 | ret u=>obtain⟨v,σ',H',I,r,q⟩:=h;exact⟨v,σ',H',I.unwish,r,q⟩
theorem PE.nox{e:Expr}{t:TE}(h:PE X.nox e t):PE X e t:=fun pins s σ H Q I hw =>
 wpAny_mono (h pins s σ H Q (I.wish _) hw) (fun _ _ ⟨v,H',I',r,q⟩=>⟨v,H',I'.unwish,r,q⟩) fun _ _ z=>False.elim z
theorem PT.nox{e:Expr}{t:TT}(h:PT X.nox e t):PT X e t:=fun pins s σ H Q I hw =>
 wpAny_mono (h pins s σ H Q (I.wish _) hw) (fun _ _ ⟨H',I',q⟩=>⟨H',I'.unwish,q⟩) fun _ _ z=>False.elim z
theorem PSs.nox{st:List Stmt}{t:TS}(h:PSs X.nox st t):PSs X st t:=fun pins s σ H D I hw =>
 wpAny_mono (h pins s σ H D (I.wish _) hw) (fun _ _ q=>q.unwish) fun _ _ z=>False.elim z
end
section
variable {X:Cx}{st:Stmt}{rest:List Stmt}{t u:TS}{e:Expr}{te:TE}{pos:Pos}
def D6:TS:=fun D σ H=>D.nx σ H
def Tw(t u:TS):TS:=fun D σ H=>t {D with nx:=u D} σ H
theorem Sn:PSs X [] D6:=fun _ _ σ H _ I h=>wpAny_execs_nil ⟨σ,H,I,h⟩
theorem Sg(h1:PS X st t)(h2:PSs X rest u):PSs X (st::rest) (Tw t u):=by
 intro pins s σ H D I h;refine wpAny_execs_cons (aM (h1 pins s σ H {D with nx:=u D} I h) fun f s1 q=>?_)
 cases f with
 | next =>
  obtain⟨σ',H',I',q⟩:=q;exact h2 pins s1 σ' H' D I' q
 | ret v=>exact q
 | brk=>exact q
 | cont=>exact q
theorem Inv.quiet{pins:List (Addr×Obj)}{σ:St}{H:Hp}{s:Shared}(I:Inv X pins σ H s):interactive X.env=false:=by simp[interactive,I.ok.kind]
def Ym(te:TE):TS:=fun D σ H=>te σ H fun _ H1=>D.nx σ H1
theorem Zl(he:PE X e te)(hs:swapsWith e none pos.line X.env=pure false:=by rfl):PS X (.Expr e pos) (Ym te):=by
 intro pins s σ H D I h;exact wpAny_Expr_any (aM (he pins s σ H _ I h) fun v s1 ⟨x,H1,I1,r1,q1⟩=>⟨σ,H1,I1,q1⟩) I.quiet hs
def Uo(te:TE):TS:=fun D σ H=>te σ H D.rt
theorem D8(he:PE X e te):PS X (.Return (some e) pos) (Uo te):=by
 intro pins s σ H D I h;exact wpAny_Return_some (aM (he pins s σ H _ I h) fun v s1 ⟨x,H1,I1,r1,q1⟩=>⟨x,σ,H1,I1,r1,q1⟩)
def u5(c:TT)(t u:TS):TS:=fun D σ H=>c σ H fun b H1=>if b=true then t D σ H1 else u D σ H1
theorem Vq{c:Expr}{a b:List Stmt}{tc:TT}(hc:PT X c tc)(ha:PSs X a t)(hb:PSs X b u):PS X (.If c a b pos) (u5 tc t u):=by
 intro pins s σ H D I h;refine wpAny_If (aM (hc pins s σ H _ I h) fun d s1 ⟨H1,I1,q1⟩=>?_)
 cases d with
 | true=>exact ha pins s1 σ H1 D I1 q1
 | false=>exact hb pins s1 σ H1 D I1 q1
end
abbrev TG:=V->St->Hp->(St->Hp->Prop)->Prop
abbrev iF:=List V->St->Hp->(St->Hp->Prop)->Prop
def PG(X:Cx)(target:Expr)(t:TG):Prop :=
 ∀ (pins:List (Addr×Obj)) (s:Shared) (σ:St) (H:Hp) (v:V) (u:Value) (Q:St->Hp->Prop),Inv X pins σ H s->RelV v u->t v σ H Q ->
  wpAny (model X.prog X.w) X.A (assign target X.env u) (fun _ s'=>∃ σ' H',Inv X pins σ' H' s'/\Q σ' H') X.xe s
def PGs(X:Cx)(ts:List Expr)(t:iF):Prop :=
 ∀ (pins:List (Addr×Obj)) (s:Shared) (σ:St) (H:Hp) (vs:List V) (us:List Value) (Q:St->Hp->Prop),Inv X pins σ H s->Vals vs us->t vs σ H Q ->
  wpAny (model X.prog X.w) X.A (assignInOrder ((assignEach ts X.env).map (·.2)) us) (fun _ s'=>∃ σ' H',Inv X pins σ' H' s'/\Q σ' H') X.xe s
abbrev TSet:=V->V->V->Hp->(Hp->Prop)->Prop
section
variable {X:Cx}{pos:Pos}
def Jc(i:Nat):TG:=fun v σ H Q=>Q (σ.set i (some v)) H
theorem Vv{i:Nat}{x:Str}(hN:X.N.Nodup)(hi:X.N[i]?=some x)(hx:gH X.env.scope x)(hf:X.fn x=true\/X.env.scope.names.lookup x=some .local:=by first | exact .inl rfl | exact .inr rfl | assumption):PG X (.Name x pos) (Jc i):=by
 intro pins s σ H v u Q I r h;exact wpAny_assign_Name (Ix I hN hi hx r (fun s' I'=>⟨_,H,I',h⟩) hf)
def P0:iF:=fun vs σ H Q=>vs=[]/\Q σ H
def w8(t:TG)(u:iF):iF:=fun vs σ H Q=>∃ v r,vs=v::r/\t v σ H fun σ' H'=>u r σ' H' Q
theorem j6:PGs X [] P0:=by
 intro pins s σ H vs us Q I r h;obtain⟨e,h⟩:=h;subst e
 cases r
 exact assignInOrder_nil ⟨σ,H,I,h⟩
theorem AH{e:Expr}{es:List Expr}{t:TG}{u:iF}(h1:PG X e t)(h2:PGs X es u)
  (hs:(assignEach (e::es) X.env).map (·.2)=assign e X.env::(assignEach es X.env).map (·.2):=by rfl):PGs X (e::es) (w8 t u):=by
 intro pins s σ H vs us Q I r h;obtain⟨v,vr,e1,h⟩:=h;subst e1
 cases r with
 | cons r rr =>
  rw[hs];refine assignInOrder_cons (aM (h1 pins s σ H _ _ _ I r h) fun _ s1 ⟨σ1,H1,I1,q1⟩=>?_);exact h2 pins s1 σ1 H1 _ _ Q I1 rr q1
def Xg(K:PySem.W.Frag)(n:Nat)(t:iF):TG:=fun v σ H Q=>∃ a xs,v=.ref a/\SqT K H a xs/\xs.length=n/\t xs σ H Q
theorem Uw{es:List Expr}{k:Nat}{t:iF}{n:Nat}(hc:X.calm=true)(h:PGs X es t)
  (hn:(assignEach es X.env).length=n:=by rfl) (hst:(assignEach es X.env).findIdx? (·.1)=none:=by rfl):PG X (.Tuple es k pos) (Xg X.K n t):=by
 intro pins s σ H v u Q I r hw;obtain⟨a,xs,e1,hq,hl,hw⟩:=hw;subst e1
 cases r
 obtain⟨its,rv,ht,hz⟩:=I.tuple hq;refine assign_Tuple_tuple (I.ok.hd hc) ht (by simp[hn,<- hl,rv.length]) hst fun h' hx=>?_
 have I1:Inv X pins σ H {s with heap:=h'}:=I.kept (t':=s.toks) fun b o e=>hx b o (Nat.ne_of_lt (Heap.lt_size e)) e
 exact h pins _ σ H xs _ Q I1 (by simpa using rv) hw
def B7(te:TE)(g:TG):TS:=fun D σ H=>te σ H fun x H1=>g x σ H1 D.nx
theorem T7{i:Nat}{x:Str}{e:Expr}{te:TE}{pos':Pos}(hN:X.N.Nodup)(hi:X.N[i]?=some x)(hx:gH X.env.scope x)(he:PE X e te)(hs:swapsWith e (some (.Name x pos')) pos.line X.env=pure false:=by rfl)(hf:X.fn x=true\/X.env.scope.names.lookup x=some .local:=by first | exact .inl rfl | exact .inr rfl | assumption) :
  PS X (.Assign [.Name x pos'] e pos) (B7 te (Jc i)):=by
 intro pins s σ H D I h;refine wpAny_Assign_Name (aM (he pins s σ H _ I h) fun v s1 ⟨y,H1,I1,r1,q1⟩=>?_) hs;exact Ix I1 hN hi hx r1 (fun s2 I2=>⟨_,H1,I2,q1⟩) hf
end
structure It where
 go:Nat->Hp->Prop
 yld:Nat->Hp->V->Hp->Prop
 stop:Nat->Hp->Prop
def dD(X:Cx)(pins:List (Addr×Obj))(H:Hp)(b:Addr):Prop :=
 H b=none/\b≠X.env.locals/\b∉X.fs/\(b∈X.ex\/X.s₀.heap.objs.size<=b)/\(∀ x c,X.env.cells.lookup x=some c->c≠b)/\∀ p∈X.pn++pins,p.1≠b
theorem Inv.fpOk{X:Cx}{pins:List (Addr×Obj)}{σ:St}{H H':Hp}{s:Shared}{b:Addr}(I:Inv X pins σ H s)(hb:s.heap.objs.size<=b)(hn:H' b=none):dD X pins H' b:=by
 refine⟨hn,Nat.ne_of_gt (Nat.lt_of_lt_of_le I.lt hb),I.nofs hb,.inr (Nat.le_trans I.sz hb),fun x c e z=>?_,fun p hp z=>?_⟩
 ·obtain⟨v,q⟩:=I.cell x c e;exact absurd (Nat.lt_of_lt_of_le q.lt (by rw[z];exact hb)) (Nat.lt_irrefl _)
 ·exact absurd (Nat.lt_of_lt_of_le (Heap.lt_size (I.pin p hp).1) (by rw[z];exact hb)) (Nat.lt_irrefl _)
structure Turn (P:Program) (w:World) (K:PySem.W.Frag) (tg:Expr) (J:It) (fp:List Addr) (it:Addr) (tn:Nat->Heap->Prop):Prop where
 mem:it∈fp
 obj:∀ i h,tn i h->∀ b∈fp,∃ o,h.get? b=some o/\∀ v,o.data≠.cell v
 keep:∀ i h h',tn i h->(∀ b∈fp,∀ o,h.get? b=some o->h'.get? b=some o)->tn i h'
 item:∀ (X:Cx),X.prog=P->X.w=w->X.K=K->X.calm=true->∀ (i:Nat) (pins:List (Addr×Obj)) (s:Shared) (σ:St) (H:Hp) (E:Value->Shared->Prop),Inv X pins σ H s->(∀ b∈fp,dD X pins H b)->tn i s.heap->J.go i H ->
  wpAny (model P w) X.A (pyNext (.ref it)) (fun r s1=>∃ u,r=some u /\
   wpAny (model P w) X.A (letOwnedTupleGo tg (.ref it) u) (fun _ s2=>∃ x H',Inv X pins σ H' s2/\RelV x u/\J.yld i H x H'/\tn (i+1) s2.heap/\∀ b∈fp,H' b=none) E s1) E s
 done:∀ (X:Cx),X.prog=P->X.w=w->X.K=K->X.calm=true->∀ (i:Nat) (pins:List (Addr×Obj)) (s:Shared) (σ:St) (H:Hp) (E:Value->Shared->Prop),Inv X pins σ H s->(∀ b∈fp,dD X pins H b)->tn i s.heap->J.stop i H ->
  wpAny (model P w) X.A (pyNext (.ref it)) (fun r s1=>r=none/\Inv X pins σ H s1) E s
 self:∀ (A:Around) (i:Nat) (s:Shared) (Q:Value->Shared->Prop) (E:Value->Shared->Prop),tn i s.heap->Q (.ref it) s->wpAny (model P w) A (pyIter (.ref it)) Q E s
abbrev TI:=St->Hp->(It->Hp->Prop)->Prop
def xJ(X:Cx)(pins:List (Addr×Obj))(σ:St)(tg:Expr)(R:It->Hp->Prop)(itv:Value)(s2:Shared):Prop :=
 ∃ (it:Addr) (fp:List Addr) (tn:Nat->Heap->Prop) (J:It) (H':Hp),itv=.ref it/\Inv X pins σ H' s2/\Turn X.prog X.w X.K tg J fp it tn/\tn 0 s2.heap/\(∀ b∈fp,dD X pins H' b)/\R J H'
def PI(X:Cx)(tg iter:Expr)(wi:TI):Prop :=
 ∀ (pins:List (Addr×Obj)) (s:Shared) (σ:St) (H:Hp) (R:It->Hp->Prop),Inv X pins σ H s->wi σ H R ->
  wpAny (model X.prog X.w) X.A (eval iter X.env) (fun v s1=>wpAny (model X.prog X.w) X.A (pyIter v) (xJ X pins σ tg R) X.xe s1) X.xe s
theorem tR{M:Model}{A:Around}{E:Value->Shared->Prop}{s:Shared}{tg:Expr}{it:Addr}{u:Value}{o:Obj}{n:String}{vs:Array Value}{Q:Unit->Shared->Prop}(ho:s.heap.get? it=some o)(hc:o.cls=.type n)(hd:o.data=.fields vs)
  (hn:["enumerate","zip","dict_itemiterator","dict_reverseitemiterator","odict_iterator","itertools.zip_longest","itertools.pairwise"].contains n=false) (hQ:Q () s):wpAny M A (letOwnedTupleGo tg (.ref it) u) Q E s:=by
 unfold letOwnedTupleGo
 cases tg<;>first
  | exact wpAny_pure hQ
  | (cases u<;>first
    | exact wpAny_pure hQ
    | (refine wpAny_bind (wpAny_load ho ?_)
       rw[hc,hd];show wpAny M A (if (["enumerate","zip","dict_itemiterator","dict_reverseitemiterator","odict_iterator","itertools.zip_longest","itertools.pairwise"].contains n&&vs[0]? == some (rawInt _))=true then _ else _) Q E s
       rw[if_neg (by intro h;rw[hn,Bool.false_and]at h;cases h)]
       exact wpAny_pure hQ))
def Itl(K:PySem.W.Frag)(a:Addr):It :=
 ⟨fun i H=>∃ xs x,SqL K H a xs/\xs[i]?=some x,fun i H x H'=>H'=H/\∀ xs,SqL K H a xs->xs[i]?=some x,fun i H=>∃ xs,SqL K H a xs/\xs.length<=i⟩
def Aw(K:PySem.W.Frag)(a:Addr):It :=
 ⟨fun i H=>∃ xs x,SqT K H a xs/\xs[i]?=some x,fun i H x H'=>H'=H/\∀ xs,SqT K H a xs->xs[i]?=some x,fun i H=>∃ xs,SqT K H a xs/\xs.length<=i⟩
def yJ(lo:Int)(n:Nat):It:=⟨fun i _=>i<n,fun i H x H'=>H'=H/\x=.int (lo+i),fun i _=>n<=i⟩
theorem Y3{P:Program}{w:World}{K:PySem.W.Frag}{tg:Expr}(a it:Addr):Turn P w K tg (Itl K a) [it] it (fun i h=>h.IsListIter it a i) where
 mem:=by simp
 obj:=fun i h st b hb=>by
  have e:b=it:=by simpa using hb
  subst e;obtain⟨o,e,c,d⟩:=st;exact⟨o,e,fun v z=>by rw[d]at z;cases z⟩
 keep:=fun i h h' st k=>st.at fun o e=>k it (by simp) o e
 item:=by
  intro X hP hw hK hc i pins s σ H E I hf st hg;subst hP hw hK;obtain⟨xs,x,hq,hx⟩:=hg;obtain⟨its,rv,p,hz⟩:=I.list hq;obtain⟨u,hu,ru⟩:=rv.get hx;obtain⟨f0,f1,f2,f3,f4,f5⟩:=hf it (by simp)
  refine wpAny_pyNext_list_item st p.isList (x:=u) (by simpa using hu) fun h' st' sb=>?_
  have I1:Inv X pins σ H {s with heap:=h'}:=I.turned (t':=s.toks) (fun b o hb e=>(sb.2 b hb).trans e) f0 f1 f3 f4 f5
  obtain⟨o,e,c,d⟩:=id st';exact⟨u,rfl,tR (s:={s with heap:=h'}) e c d (by decide) ⟨x,H,I1,ru,⟨rfl,fun ys hy=>by rw[I.list_inj hy hq];exact hx⟩,st',fun b hb=>(hf b hb).1⟩⟩
 done:=by
  intro X hP hw hK hc i pins s σ H E I hf st hg;subst hP hw hK;obtain⟨xs,hq,hx⟩:=hg;obtain⟨its,rv,p,hz⟩:=I.list hq;obtain⟨f0,f1,f2,f3,f4,f5⟩:=hf it (by simp)
  have hl:=rv.length
  exact wpAny_pyNext_list_end (I.ok.hd hc) st p.isList (by simp;omega) fun h' eb=>⟨rfl,I.turned (t':=s.toks) (fun b o hb e=>eb b o hb e) f0 f1 f3 f4 f5⟩
 self:=fun _ _ _ _ _ st h=>wpAny_pyIter_listiter st h
theorem g8{P:Program}{w:World}{K:PySem.W.Frag}{tg:Expr}(a it:Addr):Turn P w K tg (Aw K a) [it] it (fun i h=>h.IsTupleIter it a i) where
 mem:=by simp
 obj:=fun i h st b hb=>by
  have e:b=it:=by simpa using hb
  subst e;obtain⟨o,e,c,d⟩:=st;exact⟨o,e,fun v z=>by rw[d]at z;cases z⟩
 keep:=fun i h h' st k=>st.at fun o e=>k it (by simp) o e
 item:=by
  intro X hP hw hK hc i pins s σ H E I hf st hg;subst hP hw hK;obtain⟨xs,x,hq,hx⟩:=hg;obtain⟨its,rv,p,hz⟩:=I.tuple hq;obtain⟨u,hu,ru⟩:=rv.get hx;obtain⟨f0,f1,f2,f3,f4,f5⟩:=hf it (by simp)
  refine wpAny_pyNext_tuple_item st (show s.heap.IsTuple a its.toArray from p) (x:=u) (by simpa using hu) fun h' st' sb=>?_
  have I1:Inv X pins σ H {s with heap:=h'}:=I.turned (t':=s.toks) (fun b o hb e=>(sb.2 b hb).trans e) f0 f1 f3 f4 f5
  obtain⟨o,e,c,d⟩:=id st';exact⟨u,rfl,tR (s:={s with heap:=h'}) e c d (by decide) ⟨x,H,I1,ru,⟨rfl,fun ys hy=>by rw[I.tuple_inj hy hq];exact hx⟩,st',fun b hb=>(hf b hb).1⟩⟩
 done:=by
  intro X hP hw hK hc i pins s σ H E I hf st hg;subst hP hw hK;obtain⟨xs,hq,hx⟩:=hg;obtain⟨its,rv,p,hz⟩:=I.tuple hq;obtain⟨f0,f1,f2,f3,f4,f5⟩:=hf it (by simp)
  have hl:=rv.length
  exact wpAny_pyNext_tuple_end (I.ok.hd hc) st (show s.heap.IsTuple a its.toArray from p) (by simp;omega) fun h' eb=>⟨rfl,I.turned (t':=s.toks) (fun b o hb e=>eb b o hb e) f0 f1 f3 f4 f5⟩
 self:=fun _ _ _ _ _ st h=>wpAny_pyIter_tupleiter st h
theorem t5{P:Program}{w:World}{K:PySem.W.Frag}{tg:Expr}(it:Addr)(lo:Int)(n:Nat):Turn P w K tg (yJ lo n) [it] it (fun i h=>IsRangeIter h it (lo+(i:Nat)*1) ((n:Int)-(i:Nat)) 1) where
 mem:=by simp
 obj:=fun i h st b hb=>by
  have e:b=it:=by simpa using hb
  subst e;exact⟨_,st,fun v z=>by
   have z':Data.fields _=Data.cell v:=z
   cases z'⟩
 keep:=fun i h h' st k=>k it (by simp) _ st
 item:=by
  intro X hP hw hK hc i pins s σ H E I hf st hg;subst hP hw hK;obtain⟨f0,f1,f2,f3,f4,f5⟩:=hf it (by simp)
  have W:=Walks.range (prog:=X.prog) (w:=X.w) (I.ok.hd hc) it lo 1 n
  refine W.item i s _ _ hg st fun v h' tk hv st' kk=>?_;obtain⟨t,rfl⟩:=hv;have I1:Inv X pins σ H {s with heap:=h',toks:=tk}:=I.turned (fun b o hb e=>kk b o (by simpa using hb) e) f0 f1 f3 f4 f5
  refine⟨_,rfl,tR (s:={s with heap:=h',toks:=tk}) (n:="range_iterator") st' rfl rfl (by decide) ⟨.int (lo+i),H,I1,⟨t,?_⟩,⟨rfl,rfl⟩,st',fun b hb=>(hf b hb).1⟩⟩
  rw[Int.mul_one]
 done:=by
  intro X hP hw hK hc i pins s σ H E I hf st hg;subst hP hw hK;obtain⟨f0,f1,f2,f3,f4,f5⟩:=hf it (by simp)
  exact wpAny_pyNext_range_end (I.ok.hd hc) st (by have:n<=i:=hg;omega) fun h' eb=>⟨rfl,I.turned (t':=s.toks) (fun b o hb e=>eb b o hb e) f0 f1 f3 f4 f5⟩
 self:=fun _ _ _ _ _ st h=>wpAny_pyIter_rangeiter st h
end L2
namespace L2
open PySem PySem.Spec PyProof.Rows
section
variable {X:Cx}{tg:Expr}
theorem So{pins:List (Addr×Obj)}{σ:St}{H:Hp}{s:Shared}{R:It->Hp->Prop}{E:Value->Shared->Prop}{lo hi:Int}{t u v:Tok}{tk:Nat}(I:Inv X pins σ H s)(h1:-(2^62)<=lo)(h2:lo<2^62)(h3:-(2^62)<=hi)(h4:hi<2^62)
  (q:R (yJ lo (hi-lo).toNat) H):wpAny (model X.prog X.w) X.A (pyIter (.ref s.heap.objs.size)) (xJ X pins σ tg R) E {s with heap:=s.heap.push {cls:=.type "range",data:=.fields #[.int lo t,.int hi u,.int 1 v]},toks:=tk}:=by
 refine wpAny_pyIter_range (IsRange.new ..) (small_one h1 h2 h3 h4) ?_;have I1:Inv X pins σ H {s with heap:=s.heap.push {cls:=.type "range",data:=.fields #[.int lo t,.int hi u,.int 1 v]},toks:=tk}:=I.kept fun b o e=>Heap.get?_push_of_some _ e
 refine⟨(s.heap.push {cls:=.type "range",data:=.fields #[.int lo t,.int hi u,.int 1 v]}).objs.size,[(s.heap.push {cls:=.type "range",data:=.fields #[.int lo t,.int hi u,.int 1 v]}).objs.size],_,_,H,rfl,
  I1.kept (t':=tk) fun b o e=>Heap.get?_push_of_some _ e,t5 _ lo (hi-lo).toNat,?_,fun b hb=>?_,q⟩
 ·have e1:lo+((0:Nat):Int)*1=lo:=by simp
  have e2:(((hi-lo).toNat:Nat):Int)-((0:Nat):Int)=Builtin.Range.rangeSize lo hi 1:=by rw[rangeSize_one];split<;>omega
  show IsRangeIter _ _ (lo+((0:Nat):Int)*1) ((((hi-lo).toNat:Nat):Int)-((0:Nat):Int)) 1
  rw[e1,e2];exact Heap.get?_push_size _ rfl
 ·have e:b=(s.heap.push {cls:=.type "range",data:=.fields #[.int lo t,.int hi u,.int 1 v]}).objs.size:=by simpa using hb
  subst e;exact I1.fpOk (Nat.le_refl _) (I1.hok.fresh (Nat.le_refl _))
def Tf(ta:TA):TI:=fun σ H R=>ta σ H fun vs H1=>∃ j:Int,vs=[.int j]/\-(2^62)<=j/\j<2^62/\R (yJ 0 j.toNat) H1
theorem Zg{a:Expr}{ta:TA}{p pos:Pos}(hg:Gl X "range")(hm:X.mg "range"=none)(ha:PA X [a] ta)(hs:starEach [a] X.env=[(false,eval a X.env)]:=by rfl):PI X tg (.Call (.Name "range" p) [a] [] pos) (Tf ta):=by
 intro pins s σ H R I h;refine Call_ (jJ I hg hm boot_range (PyProof.Rows.callWith_type1 (aM (ha pos pins s σ H _ I h) fun us s1 ⟨vs,H1,I1,r1,q1⟩=>?_) hs rfl));obtain⟨j,e,q1,q2,q⟩:=q1;subst e
 cases r1 with
 | cons r rr =>
  cases rr
  obtain⟨t,rfl⟩:=r;exact call_range_1 (So I1 (by omega) (by omega) q1 q2 (by simpa using q))
def Tb(wi:TI)(g:TG)(tb:TS):TS:=fun D σ H=>wi σ H fun J H1=>∃ W:Nat->Nat->St->Hp->Prop,(∃ m,W 0 m σ H1)/\∀ i m σ H,W i m σ H ->
 (J.stop i H/\D.nx σ H)\/(J.go i H/\∃ N:St->Hp->Prop,(∀ σ' H',N σ' H'->∃ m',m'<m/\W (i+1) m' σ' H')/\∀ x H',J.yld i H x H'->g x σ H' fun σ2 H2=>tb {D with nx:=N,ct:=N,bk:=D.nx} σ2 H2)
def jU(fp:List Addr)(h:Heap):List (Addr×Obj):=fp.filterMap fun b=>(h.get? b).map fun o=>(b,o)
theorem iD{fp:List Addr}{h:Heap}{b:Addr}{o:Obj}(hb:b∈fp)(e:h.get? b=some o):(b,o)∈jU fp h:=List.mem_filterMap.mpr ⟨b,hb,by rw[e];rfl⟩
theorem AJ{fp:List Addr}{h:Heap}{p:Addr×Obj}(hp:p∈jU fp h):p.1∈fp/\h.get? p.1=some p.2:=by
 obtain⟨b,hb,e⟩:=List.mem_filterMap.mp hp
 cases q:h.get? b with
 | none=>rw[q]at e;cases e
 | some o =>
  rw[q]at e;have e':(b,o)=p:=Option.some.inj e
  subst e';exact⟨hb,q⟩
theorem Inv.pinned{pins:List (Addr×Obj)}{σ:St}{H:Hp}{s:Shared}{fp:List Addr}(I:Inv X pins σ H s)(hf:∀ b∈fp,dD X pins H b)(ho:∀ b∈fp,∃ o,s.heap.get? b=some o/\∀ v,o.data≠.cell v):Inv X (pins++jU fp s.heap) σ H s :=
 I.pins_of fun p hp=>(List.mem_append.mp hp).elim (fun z=>I.pin p (List.mem_append_right _ z)) fun z=>by
  obtain⟨hb,e⟩:=AJ z;obtain⟨f0,f1,f2,_⟩:=hf p.1 hb;obtain⟨o,e',d⟩:=ho p.1 hb;rw[e]at e';cases e';exact⟨e,f0,f1,f2,d⟩
theorem Inv.unpinned{pins pl:List (Addr×Obj)}{σ:St}{H:Hp}{s:Shared}(I:Inv X (pins++pl) σ H s):Inv X pins σ H s:=I.pins_of fun p hp=>I.pin p (List.mem_append_right _ (List.mem_append_left _ hp))
theorem F9{iter:Expr}{body:List Stmt}{wi:TI}{g:TG}{tb:TS}{pos:Pos}(hp:PassesOwn (model X.prog X.w) X.A X.env X.xe)(hc:X.calm=true)(hi:PI X tg iter wi)(hg:PG X tg g)(hb:PSs X body tb)
  (hs:∀ x,foldedSetIterable iter X.env x=pure x:=by intro _;rfl):PS X (.For tg iter body [] pos) (Tb wi g tb):=by
 intro pins s σ H D I h;refine wpAny_For (aM (hi pins s σ H _ I h) fun v s1 h1=>aM h1 fun itv s2 h2=>?_) hs;obtain⟨it,fp,tn,J,H2,e,I2,T,st2,f2,W,⟨m0,w0⟩,turn⟩:=h2;subst e
 -- what stays true of the iterator's objects through the loop
 have stat:∀ {H':Hp},(∀ b∈fp,H' b=none)->∀ b∈fp,dD X pins H' b:=fun hn b hb=>⟨hn b hb,(f2 b hb).2⟩
 refine codeAny_forLoop_any (fun n s'=>∃ i σ' H',Inv X pins σ' H' s'/\tn i s'.heap/\(∀ b∈fp,H' b=none)/\W i n σ' H') ?_ m0 ⟨0,σ,H2,I2,st2,fun b hb=>(f2 b hb).1,w0⟩;rintro n s3 ⟨i,σ3,H3,I3,st3,fr3,w3⟩;rcases turn i n σ3 H3 w3 with⟨stop,qn⟩ | ⟨go,N,hN,step⟩
 ·refine wpAny_passesOwn hp (aM (T.done X rfl rfl rfl hc i pins s3 σ3 H3 X.xe I3 (stat fr3) st3 stop) fun r s4 ⟨hr,I4⟩=>?_);subst hr;exact wpAny_execs_nil ⟨σ3,H3,I4,qn⟩
 ·refine wpAny_passesOwn hp (aM (T.item X rfl rfl rfl hc i pins s3 σ3 H3 X.xe I3 (stat fr3) st3 go) fun r s4 ⟨u,hr,h4⟩=>?_);subst hr;refine wpAny_passesOwn hp (aM h4 fun _ s5 ⟨x,H5,I5,r5,y5,st5,fr5⟩=>?_);have I5':=I5.pinned (stat fr5) (T.obj _ _ st5)
  refine wpAny_passesOwn hp (aM (hg _ s5 σ3 H5 x u _ I5' r5 (step x H5 y5)) fun _ s6 ⟨σ6,H6,I6,q6⟩=>?_);refine wpAny_passesOwn hp (aM (hb _ s6 σ6 H6 _ I6 q6) fun f s7 q7=>?_);have again:∀ {σ7:St} {H7:Hp},Inv X (pins++jU fp s5.heap) σ7 H7 s7->N σ7 H7->∃ m,m<n/\∃ i σ' H',Inv X pins σ' H' s7/\tn i s7.heap/\(∀ b∈fp,H' b=none)/\W i m σ' H':=fun {σ7 H7} I7 n7=>by
   obtain⟨m',hm,w7⟩:=hN σ7 H7 n7;refine⟨m',hm,i+1,σ7,H7,I7.unpinned,T.keep _ _ _ st5 fun b hb o e=>(I7.pin (b,o) (List.mem_append_right _ (List.mem_append_right _ (iD hb e)))).1,fun b hb=>?_,w7⟩;obtain⟨o,e,d⟩:=T.obj _ _ st5 b hb;exact(I7.pin (b,o) (List.mem_append_right _ (List.mem_append_right _ (iD hb e)))).2.1
  cases f with
  | next=>obtain⟨σ7,H7,I7,n7⟩:=q7;exact again I7 n7
  | cont=>obtain⟨σ7,H7,I7,n7⟩:=q7;exact again I7 n7
  | brk=>obtain⟨σ7,H7,I7,q7⟩:=q7;exact⟨σ7,H7,I7.unpinned,q7⟩
  | ret v=>obtain⟨x7,σ7,H7,I7,r7,q7⟩:=q7;exact⟨x7,σ7,H7,I7.unpinned,r7,q7⟩
end
end L2
namespace L2
open PySem PySem.Spec PyProof.Rows
abbrev R2:=V->V->Hp->VK->Prop
def OpR(X:Cx)(f:Value->Value->Sem Value)(r:R2):Prop :=
 ∀ (pins:List (Addr×Obj)) (s:Shared) (σ:St) (H:Hp) (x y:V) (v u:Value) (Q:VK),Inv X pins σ H s->RelV x v->RelV y u->r x y H Q ->
  wpAny (model X.prog X.w) X.A (f v u) (EP X pins σ Q) X.xe s
def Av(X:Cx)(f:Value->Sem Value)(r:V->Hp->VK->Prop):Prop :=
 ∀ (pins:List (Addr×Obj)) (s:Shared) (σ:St) (H:Hp) (x:V) (v:Value) (Q:VK),Inv X pins σ H s->RelV x v->r x H Q ->
  wpAny (model X.prog X.w) X.A (f v) (EP X pins σ Q) X.xe s
def CallR(X:Cx)(f:Value)(r:List V->Hp->VK->Prop):Prop :=
 ∀ (pins:List (Addr×Obj)) (s:Shared) (σ:St) (H:Hp) (xs:List V) (us:List Value) (Q:VK),Inv X pins σ H s->Vals xs us->r xs H Q ->
  wpAny (model X.prog X.w) X.A (call f us) (EP X pins σ Q) X.xe s
def Ry(r:R2)(ta tb:TE):TE:=fun σ H Q=>ta σ H fun x H1=>tb σ H1 fun y H2=>r x y H2 Q
def Us(r:V->Hp->VK->Prop)(ta:TE):TE:=fun σ H Q=>ta σ H fun x H1=>r x H1 Q
def rI(C:Int->Int->Prop)(g:Int->Int->V):R2:=fun x y H Q=>∃ i j,x=.int i/\y=.int j/\C i j/\Q (g i j) H
def kO(g:Int->Int->V):R2:=fun x y H Q=>∃ i j,x=.int i/\y=.int j/\Q (g i j) H
def rU(g:Int->V):V->Hp->VK->Prop:=fun x H Q=>∃ i,x=.int i/\Q (g i) H
section
variable {X:Cx}{a b c:Expr}{ta tb tc:TE}{pos:Pos}
theorem Nf(ha:PE X a ta)(hb:PE X b tb){pins:List (Addr×Obj)}{s:Shared}{σ:St}{H:Hp}{R:V->V->Hp->Prop}(I:Inv X pins σ H s)
  (h:ta σ H fun x H1=>tb σ H1 fun y H2=>R x y H2) {Q:Value->Shared->Prop} {f:Value->Value->Sem Value}
  (hf:∀ v u s2 x y H2,Inv X pins σ H2 s2->RelV x v->RelV y u->R x y H2->wpAny (model X.prog X.w) X.A (f v u) Q X.xe s2) :
  wpAny (model X.prog X.w) X.A (eval a X.env) (fun v s₁=>wpAny (model X.prog X.w) X.A (eval b X.env) (fun u s₂=>wpAny (model X.prog X.w) X.A (f v u) Q X.xe s₂) X.xe s₁) X.xe s:=by
 refine aM (ha pins s σ H _ I h) fun v s1 ⟨x,H1,I1,r1,q1⟩=>?_;refine aM (hb pins s1 σ H1 _ I1 q1) fun u s2 ⟨y,H2,I2,r2,q2⟩=>?_;exact hf v u s2 x y H2 I2 r1 r2 q2
theorem L8{op:UnaryOp}{r:V->Hp->VK->Prop}(ho:Av X (unaryOp op) r)(ha:PE X a ta):PE X (.UnaryOp op a pos) (Us r ta):=by
 intro pins s σ H Q I h;exact UnaryOp_ (aM (ha pins s σ H _ I h) fun v s1 ⟨x,H1,I1,r1,q1⟩=>ho pins s1 σ H1 x v Q I1 r1 q1)
theorem Mm{f:Value->Value->Sem Value}{C:Int->Int->Prop}{g:Int->Int->Int}
  (rule:∀ (i j:Int) (t u:Tok) (s:Shared) (Q:Value->Shared->Prop) (E:Value->Shared->Prop),C i j->Q (.int (g i j) s.toks) {s with toks:=s.toks+1}->wpAny (model X.prog X.w) X.A (f (.int i t) (.int j u)) Q E s) :
  OpR X f (rI C fun i j=>.int (g i j)):=by
 intro pins s σ H x y v u Q I rx ry h;obtain⟨i,j,rfl,rfl,hc,q⟩:=h;obtain⟨t,rfl⟩:=rx;obtain⟨t',rfl⟩:=ry;exact rule i j t t' s _ _ hc ⟨.int (g i j),H,I.tok _,⟨_,rfl⟩,q⟩
theorem Jo{f:Value->Value->Sem Value}{g:Int->Int->Int}
  (rule:∀ (i j:Int) (t u:Tok) (s:Shared) (Q:Value->Shared->Prop) (E:Value->Shared->Prop),Q (.int (g i j) s.toks) {s with toks:=s.toks+1}->wpAny (model X.prog X.w) X.A (f (.int i t) (.int j u)) Q E s) :
  OpR X f (kO fun i j=>.int (g i j)):=by
 intro pins s σ H x y v u Q I rx ry h;obtain⟨i,j,rfl,rfl,q⟩:=h;obtain⟨t,rfl⟩:=rx;obtain⟨t',rfl⟩:=ry;exact rule i j t t' s _ _ ⟨.int (g i j),H,I.tok _,⟨_,rfl⟩,q⟩
theorem vL{f:Value->Value->Sem Value}{g:Int->Int->Bool}
  (rule:∀ (i j:Int) (t u:Tok) (s:Shared) (Q:Value->Shared->Prop) (E:Value->Shared->Prop),Q (.bool (g i j)) s->wpAny (model X.prog X.w) X.A (f (.int i t) (.int j u)) Q E s) :
  OpR X f (kO fun i j=>.bl (g i j)):=by
 intro pins s σ H x y v u Q I rx ry h;obtain⟨i,j,rfl,rfl,q⟩:=h;obtain⟨t,rfl⟩:=rx;obtain⟨t',rfl⟩:=ry;exact rule i j t t' s _ _ ⟨.bl (g i j),H,I,rfl,q⟩
def O4(i j:Int):Prop:=0<=j/\j<=1000000/\i.natAbs<2^64
def CMul(i j:Int):Prop:=(-(2^64)<i/\i<2^64)\/(-(2^64)<j/\j<2^64)
theorem CMul.ok{i j:Int}(h:CMul i j):IntMulOk i j:=by
 rcases h with⟨h1,h2⟩ | ⟨h1,h2⟩
 ·exact .of_left (intBits_le_64 h1 h2)
 ·exact .of_right (intBits_le_64 h1 h2)
theorem O7:OpR X (binaryOp .Add) (kO fun i j=>.int (i+j)):=Jo fun _ _ _ _ _ _ _ q=>add_int q
theorem Yt:OpR X (binaryOp .Sub) (kO fun i j=>.int (i-j)):=Jo fun _ _ _ _ _ _ _ q=>sub_int q
theorem H0:OpR X (binaryOp .Mod) (rI (fun _ j=>j≠0) fun i j=>.int (i.fmod j)):=Mm fun _ _ _ _ _ _ _ hc q=>mod_int' hc q
theorem Z6:OpR X (binaryOp .Pow) (rI O4 fun i j=>.int (i^j.toNat)):=Mm fun _ _ _ _ _ _ _ hc q=>pow_int_small hc.1 hc.2.1 hc.2.2 q
theorem B5{f:Value->Sem Value}{g:Int->Int}
  (rule:∀ (i:Int) (t:Tok) (s:Shared) (Q:Value->Shared->Prop) (E:Value->Shared->Prop),Q (.int (g i) s.toks) {s with toks:=s.toks+1}->wpAny (model X.prog X.w) X.A (f (.int i t)) Q E s) :
  Av X f (rU fun i=>.int (g i)):=by
 intro pins s σ H x v Q I rx h;obtain⟨i,rfl,q⟩:=h;obtain⟨t,rfl⟩:=rx;exact rule i t s _ _ ⟨.int (g i),H,I.tok _,⟨_,rfl⟩,q⟩
theorem Ql:Av X (unaryOp .USub) (rU fun i=>.int (-i)):=B5 fun _ _ _ _ _ q=>neg_int q
end
def Oi:V->V->Bool
 | .non,.non=>true | .non,.int _=>true | .int _,.non=>true | .non,.bl _=>true | .bl _,.non=>true | .non,.str _=>true | .str _,.non=>true
 | .int _,.int _=>true | .bl _,.bl _=>true | .str _,.str _=>true | .byt _,.byt _=>true
 | .int _,.str _=>true | .str _,.int _=>true | .bl _,.str _=>true | .str _,.bl _=>true
 | _,_=>false
def Wj:R2:=fun x y H Q=>Oi x y=true/\Q (.bl (decide (x=y))) H
def Tr:R2:=fun x y H Q=>Oi x y=true/\Q (.bl (!decide (x=y))) H
theorem Lm{i j:Int}:decide (V.int i=V.int j)=(i==j):=by
 rw[Bool.eq_iff_iff];simp
theorem Ow{i j:Bool}:decide (V.bl i=V.bl j)=(i==j):=by
 rw[Bool.eq_iff_iff];simp
theorem Nk{i j:Str}:decide (V.str i=V.str j)=(i==j):=by
 rw[Bool.eq_iff_iff];simp
theorem Lz{i j:Array UInt8}:decide (V.byt i=V.byt j)=(i.toList==j.toList):=by
 rw[Bool.eq_iff_iff]
 cases i
 cases j
 simp
section
variable {X:Cx}{a b c:Expr}{ta tb tc:TE}{pos:Pos}
theorem cE{pins:List (Addr×Obj)}{σ:St}{H:Hp}{s:Shared}{Q:VK}{k k':Bool}(I:Inv X pins σ H s)(q:Q (.bl k) H)(e:k=k'):EP X pins σ Q (.bool k') s:=by
 subst e;exact⟨.bl k,H,I,rfl,q⟩
theorem Wy:OpR X (compareOp .Eq) Wj:=by
 intro pins s σ H x y v u Q I rx ry h;obtain⟨hs,q⟩:=h
 cases x with
 | non =>
  cases rx
  cases y with
  | non=>cases ry;exact PySem.EqNone.eq_none_none (cE I q (by simp))
  | bl j=>cases ry;exact PySem.EqNone.eq_none_bool (cE I q (by simp))
  | int j=>obtain⟨t',rfl⟩:=ry;exact PySem.EqNone.eq_none_int (cE I q (by simp))
  | str j=>obtain⟨t',rfl⟩:=ry;exact PySem.EqNone.eq_none_str (cE I q (by simp))
  | _=>exact absurd (show false=true from hs) Bool.false_ne_true
 | bl i =>
  cases rx
  cases y with
  | non=>cases ry;exact PySem.EqNone.eq_bool_none (cE I q (by simp))
  | bl j=>cases ry;exact eq_bool (cE I q Ow)
  | str j=>obtain⟨t',rfl⟩:=ry;exact PySem.EqMixed.eq_bool_str (cE I q (by simp))
  | _=>exact absurd (show false=true from hs) Bool.false_ne_true
 | int i =>
  obtain⟨t,rfl⟩:=rx
  cases y with
  | non=>cases ry;exact PySem.EqNone.eq_int_none (cE I q (by simp))
  | int j=>obtain⟨t',rfl⟩:=ry;exact eq_int (cE I q Lm)
  | str j=>obtain⟨t',rfl⟩:=ry;exact PySem.EqMixed.eq_int_str (cE I q (by simp))
  | _=>exact absurd (show false=true from hs) Bool.false_ne_true
 | str i =>
  obtain⟨t,rfl⟩:=rx
  cases y with
  | non=>cases ry;exact PySem.EqNone.eq_str_none (cE I q (by simp))
  | bl j=>cases ry;exact PySem.EqMixed.eq_str_bool (cE I q (by simp))
  | int j=>obtain⟨t',rfl⟩:=ry;exact PySem.EqMixed.eq_str_int (cE I q (by simp))
  | str j=>obtain⟨t',rfl⟩:=ry;exact eq_str (cE I q Nk)
  | _=>exact absurd (show false=true from hs) Bool.false_ne_true
 | byt i =>
  obtain⟨t,rfl⟩:=rx
  cases y with
  | byt j=>obtain⟨t',rfl⟩:=ry;exact PySem.W.eq_bytes (cE I q Lz)
  | _=>exact absurd (show false=true from hs) Bool.false_ne_true
 | _=>cases y<;>exact absurd (show false=true from hs) Bool.false_ne_true
theorem V5:OpR X (compareOp .NotEq) Tr:=by
 intro pins s σ H x y v u Q I rx ry h;obtain⟨hs,q⟩:=h
 cases x with
 | non =>
  cases rx
  cases y with
  | non=>cases ry;exact PySem.EqNone.ne_none_none (cE I q (by simp))
  | bl j=>cases ry;exact PySem.EqNone.ne_none_bool (cE I q (by simp))
  | int j=>obtain⟨t',rfl⟩:=ry;exact PySem.EqNone.ne_none_int (cE I q (by simp))
  | str j=>obtain⟨t',rfl⟩:=ry;exact PySem.EqNone.ne_none_str (cE I q (by simp))
  | _=>exact absurd (show false=true from hs) Bool.false_ne_true
 | bl i =>
  cases rx
  cases y with
  | non=>cases ry;exact PySem.EqNone.ne_bool_none (cE I q (by simp))
  | bl j=>cases ry;exact ne_bool (cE I q (congrArg not Ow))
  | str j=>obtain⟨t',rfl⟩:=ry;exact PySem.EqMixed.ne_bool_str (cE I q (by simp))
  | _=>exact absurd (show false=true from hs) Bool.false_ne_true
 | int i =>
  obtain⟨t,rfl⟩:=rx
  cases y with
  | non=>cases ry;exact PySem.EqNone.ne_int_none (cE I q (by simp))
  | int j=>obtain⟨t',rfl⟩:=ry;exact ne_int (cE I q (congrArg not Lm))
  | str j=>obtain⟨t',rfl⟩:=ry;exact PySem.EqMixed.ne_int_str (cE I q (by simp))
  | _=>exact absurd (show false=true from hs) Bool.false_ne_true
 | str i =>
  obtain⟨t,rfl⟩:=rx
  cases y with
  | non=>cases ry;exact PySem.EqNone.ne_str_none (cE I q (by simp))
  | bl j=>cases ry;exact PySem.EqMixed.ne_str_bool (cE I q (by simp))
  | int j=>obtain⟨t',rfl⟩:=ry;exact PySem.EqMixed.ne_str_int (cE I q (by simp))
  | str j=>obtain⟨t',rfl⟩:=ry;exact ne_str (cE I q (congrArg not Nk))
  | _=>exact absurd (show false=true from hs) Bool.false_ne_true
 | byt i =>
  obtain⟨t,rfl⟩:=rx
  cases y with
  | byt j=>obtain⟨t',rfl⟩:=ry;exact PySem.W.ne_bytes (cE I q (congrArg not Lz))
  | _=>exact absurd (show false=true from hs) Bool.false_ne_true
 | _=>cases y<;>exact absurd (show false=true from hs) Bool.false_ne_true
theorem Wf:OpR X (compareOp .Lt) (kO fun i j=>.bl (decide (i<j))):=vL fun _ _ _ _ _ _ _ q=>lt_int q
theorem u8:OpR X (compareOp .LtE) (kO fun i j=>.bl (decide (i<=j))):=vL fun _ _ _ _ _ _ _ q=>le_int q
theorem Wb:OpR X (compareOp .Gt) (kO fun i j=>.bl (decide (j<i))):=vL fun _ _ _ _ _ _ _ q=>gt_int q
theorem Yx:OpR X (compareOp .GtE) (kO fun i j=>.bl (decide (j<=i))):=vL fun _ _ _ _ _ _ _ q=>ge_int q
theorem OpR.or{f:Value->Value->Sem Value}{r r':R2}(h:OpR X f r)(h':OpR X f r'):OpR X f (fun x y H Q=>r x y H Q\/r' x y H Q):=by
 intro pins s σ H x y v u Q I rx ry q;rcases q with q | q
 ·exact h pins s σ H x y v u Q I rx ry q
 ·exact h' pins s σ H x y v u Q I rx ry q
theorem tX(b:Expr){op:CmpOp}(h:op≠.In:=by decide)(h2:op≠.NotIn:=by decide):behindInMarks op b=false:=by
 have e1:(op==CmpOp.In)=false:=by cases op<;>first | rfl | exact absurd rfl h
 have e2:(op==CmpOp.NotIn)=false:=by cases op<;>first | rfl | exact absurd rfl h2
 cases b<;>simp[behindInMarks,e1,e2]
theorem oU:(sizeLine:Nat)<2^63:=by rw[sizeLine_eq];decide
theorem B1:OpR X (binaryOp .Add) (fun x y H Q=>∃ i j,x=.str i/\y=.str j/\i.length+j.length<=sizeLine/\Q (.str (i++j)) H):=by
 intro pins s σ H x y v u Q I rx ry h;obtain⟨i,j,rfl,rfl,hz,q⟩:=h;obtain⟨t,rfl⟩:=rx;obtain⟨t',rfl⟩:=ry;exact add_str (fun t' tk=>⟨.str (i++j),H,I.tok _,⟨_,rfl⟩,q⟩) hz
theorem eS{x:V}{us:List Value}(r:Vals [x] us):∃ u,us=[u]/\RelV x u:=by
 cases r with
 | cons r1 r2=>cases r2;exact⟨_,rfl,r1⟩
theorem Cv{x y:V}{us:List Value}(r:Vals [x,y] us):∃ u w',us=[u,w']/\RelV x u/\RelV y w':=by
 cases r with
 | cons r1 r2 =>
  cases r2 with
  | cons r3 r4=>cases r4;exact⟨_,_,rfl,r1,r3⟩
theorem Zd(hc:X.calm=true):CallR X (.builtin "min") (fun xs H Q=>∃ i j,xs=[.int i,.int j]/\Q (.int (if j<i then j else i)) H):=by
 intro pins s σ H xs us Q I r h;obtain⟨i,j,rfl,q⟩:=h;obtain⟨u,w',rfl,⟨t,rfl⟩,⟨t',rfl⟩⟩:=Cv r;refine min_two_ints (I.ok.hd hc) fun h' tk k=>⟨_,H,I.kept k,?_,q⟩
 by_cases hj:j<i
 ·rw[if_pos hj,if_pos hj];exact⟨_,rfl⟩
 ·rw[if_neg hj,if_neg hj];exact⟨_,rfl⟩
theorem Gq:CallR X (.type "int") (fun xs H Q=>(∃ i,xs=[.int i]/\Q (.int i) H)\/∃ k,xs=[.bl k]/\Q (.int (if k then 1 else 0)) H):=by
 intro pins s σ H xs us Q I r h;rcases h with⟨i,rfl,q⟩ | ⟨k,rfl,q⟩
 ·obtain⟨u,rfl,t,rfl⟩:=eS r;exact call_int_int ⟨.int i,H,I,⟨_,rfl⟩,q⟩
 ·obtain⟨u,rfl,r1⟩:=eS r
  cases r1
  exact call_int_bool ⟨.int (if k then 1 else 0),H,I.tok _,⟨_,rfl⟩,q⟩
end
end L2
namespace L2
open PySem PySem.Spec PyProof.Rows
structure ObjM (h:Heap) (x dx C:Addr) (mA:Str->Option Value):Prop where
 obj:h.get? x=some (PySem.W.instObj C dx)
 ns:h.Ns1 dx mA
 ne:dx≠x
theorem Sw{h:Heap}{dx:Addr}{mA:Str->Option Value}(n:h.Ns1 dx mA):∃ od,h.get? dx=some od/\∀ name,PySem.W.lookIn name od=some (mA name):=by
 obtain⟨o,es,ep,ho,hd,hk,_,hm⟩:=n;refine⟨o,ho,fun name=>?_⟩;have e:=hm name
 unfold nsFind findBy at e;rw[<- Array.find?_toList]at e;unfold PySem.W.lookIn;rw[hd];dsimp only
 split
 ·rename_i y q;rw[q]at e;exact congrArg some e
 ·rename_i q;rw[q]at e;have a:es.toList.any (·.refKey)=false:=by
   rw[List.any_eq_false];intro y hy;obtain⟨z,t,hkey⟩:=hk y (Array.mem_toList_iff.mp hy);simp[DictEntry.refKey,hkey]
  have a':¬ es.toList.any (·.refKey)=true:=by rw[a];exact Bool.false_ne_true
  rw[if_neg a'];exact congrArg some e
theorem ObjM.look{h:Heap}{x dx C:Addr}{mA:Str->Option Value}(I:ObjM h x dx C mA):∃ od,PySem.W.InstAt h x (PySem.W.instObj C dx) C (some od)/\∀ name,PySem.W.lookIn name od=some (mA name) :=
 let ⟨od,ho,hl⟩:=Sw I.ns
 ⟨od,⟨I.obj,rfl,rfl,ho⟩,hl⟩
section
variable {prog:Program}{w:World}{A:Around}{E:Value->Shared->Prop}{s:Shared}{K:PySem.W.Frag}{x dx C f:Addr}{mA:Str->Option Value}{name:Str}{v:Value}
theorem vS{expr:Bool}{Q:Value->Shared->Prop}(X:K.In s.heap)(I:ObjM s.heap x dx C mA)(hg:PySem.W.plainGet K C name=true)(hh:PySem.W.hasDictIn K C=true)
  (ha:PySem.W.findIn K (.ref C) name=some none) (hv:mA name=some v) (hv':PySem.W.handedIn v=true) (h:Q v {s with toks:=s.toks+1}) :
  wpAny (model prog w) A (getAttr (.ref x) name expr) Q E s:=by
 obtain⟨od,J,hl⟩:=I.look;exact PySem.W.get_value X J (PySem.W.plainGet_of hg).1 (PySem.W.findObj_own hh ha rfl (by rw[hl,hv])) hv' h
end
theorem RelO.some_of{v:V}{o:Option Value}(r:RelO (some v) o):∃ u,o=some u/\RelV v u:=by
 cases o with
 | none=>exact(show False from r).elim
 | some u=>exact⟨u,rfl,r⟩
structure Cls (K:PySem.W.Frag) (C:Addr):Prop where
 pg:PySem.W.plainGet K C Str.empty=true
 hd:PySem.W.hasDictIn K C=true
 po:PySem.W.plainOver K C=true
 sa:PySem.W.findIn K (.ref C) "__setattr__"=some (some (.builtin "object.__setattr__"))
theorem Cls.get{K:PySem.W.Frag}{C:Addr}(c:Cls K C)(f:Str):PySem.W.plainGet K C f=true:=c.pg
section
variable {X:Cx}{pins:List (Addr×Obj)}{σ:St}{H:Hp}{s:Shared}{a C dx:Addr}{fs:List (Str×V)}{f:Str}{v:V}{A:Around}{E:Value->Shared->Prop}
theorem Inv.made(I:Inv X pins σ H s):Inv X pins σ (aI (aI H s.heap.objs.size (.own (s.heap.objs.size+1))) (s.heap.objs.size+1) (.ins C s.heap.objs.size []))
  {s with heap:=(s.heap.push PySem.W.emptyDict).push (PySem.W.instObj C s.heap.objs.size)}:=by
 have e1:(s.heap.push PySem.W.emptyDict).get? s.heap.objs.size=some PySem.W.emptyDict:=Heap.get?_push_size s.heap rfl
 have e2:((s.heap.push PySem.W.emptyDict).push (PySem.W.instObj C s.heap.objs.size)).get? (s.heap.objs.size+1)=some (PySem.W.instObj C s.heap.objs.size):=by
  have:=Heap.get?_push_size (s.heap.push PySem.W.emptyDict) (o:=PySem.W.instObj C s.heap.objs.size) rfl
  rwa [Heap.size_push]at this
 have e3:(s.heap.push PySem.W.emptyDict).Ns s.heap.objs.size (fun _=>none):=⟨PySem.W.emptyDict,#[],_,e1,rfl,(fun e he=>absurd he (by simp)),fun _=>rfl⟩
 have I1:=I.laid (a:=s.heap.objs.size) (o:=.own (s.heap.objs.size+1)) (h':=s.heap.push PySem.W.emptyDict) (t':=s.toks) (fun b u q=>Heap.get?_push_of_some _ q) (Nat.le_refl _) ⟨_,e1⟩
 refine I1.laid (a:=s.heap.objs.size+1) (o:=.ins C s.heap.objs.size []) (t':=s.toks) (fun b u q=>Heap.get?_push_of_some _ q) (Nat.le_of_eq (Heap.size_push _ _)) ?_;have ne:s.heap.objs.size≠s.heap.objs.size+1:=Nat.ne_of_lt (Nat.lt_succ_self _)
 refine⟨by rw[aX ne,bQ],Nat.zero_le _,ne,e2,fun _=>none,(Heap.Ns1.of_empty e3).at fun o q=>Heap.get?_push_of_some _ q,fun _=>True.intro,fun y hy=>absurd rfl hy⟩
end
end L2
namespace L2
open PySem PySem.Spec PyProof.Rows
structure Room (k:Nat) (A:Around):Prop where
 hd:A.handled=none
 gd:A.guards=some []
 dp:A.depth+3*k+5<recursionLimit
 un:A.units+16*k+200<cLine
theorem Room.mono{j k:Nat}{A:Around}(r:Room k A)(h:j<=k):Room j A:=⟨r.hd,r.gd,by have:=r.dp;omega,by have:=r.un;omega⟩
theorem Room.deeper{k:Nat}{A:Around}(r:Room (k+1) A)(env:Env):Room k (A.deeper env) :=
 ⟨r.hd,r.gd,by have:=r.dp;show A.depth+1+3*k+5<_;omega,by have:=r.un;show A.units+3+16*k+200<_;omega⟩
theorem Room.in1{k:Nat}{A:Around}(r:Room (k+1) A):Room k A.in1 :=
 ⟨r.hd,r.gd,by have:=r.dp;show A.depth+3*k+5<_;omega,by have:=r.un;show A.units+1+16*k+200<_;omega⟩
theorem Room.depth{k:Nat}{A:Around}(r:Room k A):A.depth<recursionLimit:=by have:=r.dp;omega
theorem Room.units{k:Nat}{A:Around}(r:Room k A):A.units+64<cLine:=by have:=r.un;omega
def Il:TA:=fun _ H Q=>Q [] H
def Tl(ta:TE)(tr:TA):TA:=fun σ H Q=>ta σ H fun x H1=>tr σ H1 fun xs H2=>Q (x::xs) H2
section
variable {X:Cx}{e:Expr}{es:List Expr}{te:TE}{t:TA}{pos:Pos}
theorem lP:PA X [] Il:=fun _ _ _ _ H Q I h=>Calls.spliced_nil ⟨[],H,I,.nil,h⟩
theorem kH(ha:PE X e te)(hr:PA X es t)(hs:starEach (e::es) X.env=(false,eval e X.env)::starEach es X.env:=by rfl):PA X (e::es) (Tl te t):=by
 intro pos pins s σ H Q I h;rw[hs];show wpAny _ _ (spliced ((false,eval e X.env)::backTo pos (starEach es X.env))) _ _ s
 refine Calls.spliced_cons (aM (ha pins s σ H _ I h) fun u s1 ⟨x,H1,I1,r1,q1⟩=>?_);exact aM (hr pos pins s1 σ H1 _ I1 q1) fun us s2 ⟨xs,H2,I2,r2,q2⟩=>⟨x::xs,H2,I2,.cons r1 r2,q2⟩
def i0(t:TA):TE:=fun σ H Q=>t σ H fun xs H1=>xs.length<=sizeLine/\∀ p,H1 p=none->Q (.ref p) (aI H1 p (.tup xs))
theorem Ic{x1}(h:PA X es t):PE X (.Tuple es x1 pos) (i0 t):=by
 intro pins s σ H Q I hq;refine wpAny_Tuple_spliced (aM (h pos pins s σ H _ I hq) fun us s1 ⟨xs,H1,I1,r,z,q⟩=>⟨by rw[<- r.length];exact z,?_⟩)
 have hf:H1 s1.heap.objs.size=none:=I1.hok.fresh (Nat.le_refl _)
 refine⟨.ref s1.heap.objs.size,aI H1 s1.heap.objs.size (.tup xs),I1.laid (t':=s1.toks) (fun b u e=>Heap.get?_push_of_some _ e) (Nat.le_refl _) ?_,rfl,q _ hf⟩;exact⟨⟨z,NoD.new _ _ _⟩,us,r,⟨_,Heap.get?_push_size _ rfl,rfl,_,rfl⟩⟩
end
abbrev Sp:=List V->Hp->VK->XK->Prop
abbrev fW:=List Env->Hp->Shared->XK->Value->Shared->Prop
structure Env0 (P:Program) (w:World) (K:PySem.W.Frag) (mg:Str->Option Value) (base:Heap) (A:Around) (outer:List Env) (s:Shared) (H:Hp):Prop where
 frames:A.frames=some outer
 mod:Mod K mg base
 bs:∀ b o,base.get? b=some o->s.heap.get? b=some o/\H b=none
 bsz:base.objs.size<=s.heap.objs.size
 funs:s.heap.FunFrames base outer
 frf:∀ b∈fP outer,H b=none
 hok:HOk P w H s.heap
 bare:AllBare s.gens
def CE(outer:List Env)(P:Program)(w:World)(H:Hp)(s:Shared)(Q:VK)(u:Value)(s':Shared):Prop :=
 ∃ v H',s'.os=s.os/\AllBare s'.gens/\Un (fP outer) [] H H' s.heap s'.heap/\HOk P w H' s'.heap/\RelV v u/\Q v H'
def CR(CX:fW)(outer:List Env)(P:Program)(w:World)(H:Hp)(s:Shared)(Q:VK)(E:XK)(r:Result)(s':Shared):Prop :=
 match r with
 | .ok (.ret u)=>CE outer P w H s Q u s'
 | .ok _=>False
 | .error e=>CX outer H s E e s'
structure FnOk (P:Program) (w:World) (K:PySem.W.Frag) (mg:Str->Option Value) (base:Heap) (CX:fW) (k:Nat) (f:Addr) (fd:FuncData) (ps:List Str) (sp:Sp):Prop where
 len:∀ vs H Q E,sp vs H Q E->vs.length=ps.length
 run:∀ (A:Around) (outer:List Env) (s:Shared) (H:Hp) (args:Args) (us:List Value) (vs:List V) (Q:VK) (E:XK),Room k A->Env0 P w K mg base A outer s H->BindsTo s fd args (ps.zip us)->Vals vs us->sp vs H Q E ->
  codeAny (model P w) A (.call (.ref f) args) (CR CX outer P w H s Q E) s
theorem FnOk.mono{P:Program}{w:World}{K:PySem.W.Frag}{mg:Str->Option Value}{base:Heap}{CX:fW}{j k:Nat}{f:Addr}{fd:FuncData}{ps:List Str}{sp:Sp}(F:FnOk P w K mg base CX j f fd ps sp)(h:j<=k) :
  FnOk P w K mg base CX k f fd ps sp:=⟨F.len,fun A outer s H args us vs Q E hr=>F.run A outer s H args us vs Q E (hr.mono h)⟩
theorem FnOk.imp{P:Program}{w:World}{K:PySem.W.Frag}{mg:Str->Option Value}{base:Heap}{CX:fW}{k:Nat}{f:Addr}{fd:FuncData}{ps:List Str}{sp sp':Sp}(F:FnOk P w K mg base CX k f fd ps sp)
  (h:∀ vs H Q E,sp' vs H Q E->sp vs H Q E):FnOk P w K mg base CX k f fd ps sp' :=
 ⟨fun vs H Q E q=>F.len vs H Q E (h _ _ _ _ q),fun A outer s H args us vs Q E hr he hb hv hs=>F.run A outer s H args us vs Q E hr he hb hv (h _ _ _ _ hs)⟩
theorem Env0.in1{P:Program}{w:World}{K:PySem.W.Frag}{mg:Str->Option Value}{base:Heap}{A:Around}{outer:List Env}{s:Shared}{H:Hp}(e:Env0 P w K mg base A outer s H) :
  Env0 P w K mg base A.in1 outer s H:=⟨e.frames,e.mod,e.bs,e.bsz,e.funs,e.frf,e.hok,e.bare⟩
section
variable {X:Cx}{pins:List (Addr×Obj)}{σ:St}{H:Hp}{s s':Shared}
theorem Inv.env0(I:Inv X pins σ H s):Env0 X.prog X.w X.K X.mg X.base X.A X.stack s H :=
 ⟨I.ok.frames,I.ok.mod,I.bs,Nat.le_trans I.ok.bsz I.sz,I.stack,I.stkFree,I.hok,I.bare⟩
theorem Inv.after{Q:VK}{u:Value}(I:Inv X pins σ H s)(h:CE X.stack X.prog X.w H s Q u s'):EP X pins σ Q u s':=by
 obtain⟨v,H',os,bare,un,hok,r,q⟩:=h;obtain⟨hh,g,d,t,os'⟩:=s';obtain rfl:os'=s.os:=os;exact⟨v,H',I.call (h':=hh) (g':=g) (d':=d) (t':=t) (ch:=[]) un hok bare (fun b z=>absurd z (by simp)),r,q⟩
end
def Nn(sp:Sp)(dvs:List V)(E:XK)(t:TA):TE:=fun σ H Q=>t σ H fun vs H1=>sp (vs++dvs) H1 Q E
def Binds(K:PySem.W.Frag)(fd:FuncData)(ps:List Str)(ds:List Value):Prop :=
 ∀ (s:Shared) (us:List Value),K.In s.heap->(us++ds).length=ps.length->BindsTo s fd ⟨us,[]⟩ (ps.zip (us++ds))
theorem Binds.all{K:PySem.W.Frag}{fd:FuncData}{ps:List Str}(h:∀ us:List Value,us.length=ps.length->bindArgs fd ⟨us,[]⟩=pure (ps.zip us)):Binds K fd ps []:=fun s us _ hl=>by
 rw[List.append_nil]at hl ⊢;exact .of_eq (h us hl)
def uQ(CX:fW)(X:Cx)(E:XK):Prop:=∀ (pins:List (Addr×Obj)) (σ:St) (H:Hp) (s:Shared) (e:Value) (s':Shared),Inv X pins σ H s->CX X.stack H s E e s'->X.xe e s'
section
variable {X:Cx}{CX:fW}{k:Nat}{f C:Addr}{fd:FuncData}{ps:List Str}{sp:Sp}{dvs:List V}{ds:List Value}{E:XK}{x m:Str}{p pos apos:Pos}{e o:Expr}{es:List Expr}{ta:TE}{t:TA}
theorem Lr{pins:List (Addr×Obj)}{σ:St}{H:Hp}{s:Shared}{Q:VK}{us:List Value}{vs:List V}(F:FnOk X.prog X.w X.K X.mg X.base CX k f fd ps sp)(hr:Room k X.A)(hb:Binds X.K fd ps ds)(hd:Vals dvs ds)(hx:uQ CX X E)
  (I:Inv X pins σ H s) (r:Vals vs us) (h:sp (vs++dvs) H Q E):wpAny (model X.prog X.w) X.A (call (.ref f) us) (EP X pins σ Q) X.xe s:=by
 have r2:Vals (vs++dvs) (us++ds):=r.append hd
 have hl:(us++ds).length=ps.length:=by rw[<- r2.length];exact F.len _ _ _ _ h
 refine wpAny_call (codeAny_mono (F.run X.A X.stack s H ⟨us,[]⟩ (us++ds) (vs++dvs) Q E hr I.env0 (hb s us I.kIn hl) r2 h) fun r s' hq=>?_)
 cases r with
 | error e=>exact hx pins σ H s e s' I hq
 | ok fl =>
  cases fl with
  | ret u=>exact I.after hq
  | next=>exact False.elim hq
  | brk=>exact False.elim hq
  | cont=>exact False.elim hq
theorem Rh(F:FnOk X.prog X.w X.K X.mg X.base CX k f fd ps sp)(hr:Room k X.A)(hg:Gl X x)(hm:X.mg x=some (.ref f))(hk:PySem.W.keepIn X.K (.ref f)=true)(hb:Binds X.K fd ps ds)(hd:Vals dvs ds)(hx:uQ CX X E)
  (ha:PA X (e::es) t) (hdb:(x==("__debug__" : Str))=false:=by decide) (he:starEach (e::es) X.env=(false,eval e X.env)::starEach es X.env:=by rfl) (hpl:(backTo pos (starEach es X.env)).any (·.1)=false:=by rfl) :
  PE X (.Call (.Name x p) (e::es) [] pos) (Nn sp dvs E t):=by
 intro pins s σ H Q I h;refine wpAny_Call_Name_kw (Er I hg hm ?_ hdb);refine PySem.W.callWith_K (h₀:=X.base) I.ok.mod.kin hk (aM (ha pos pins s σ H _ I h) fun us s1 ⟨vs,H1,I1,r,q⟩=>⟨I1.kIn,?_⟩) he hpl;exact Lr F hr hb hd hx I1 r q
theorem Z0(F:FnOk X.prog X.w X.K X.mg X.base CX k f fd ps sp)(hr:Room k X.A)(hg:Gl X x)(hm:X.mg x=some (.ref f))(hk:PySem.W.keepIn X.K (.ref f)=true)(hb:Binds X.K fd ps ds)(hd:Vals dvs ds)(hx:uQ CX X E)
  (hdb:(x==("__debug__" : Str))=false:=by decide):PE X (.Call (.Name x p) [] [] pos) (Nn sp dvs E Il):=by
 intro pins s σ H Q I h;refine wpAny_Call_Name_kw (Er I hg hm ?_ hdb);exact PySem.W.callWith_K0 I.kIn hk (Lr (us:=[]) F hr hb hd hx I .nil h)
end
structure FnScope (N P:List Str) (sc:Scope):Prop where
 kind:sc.kind=.function
 co:sc.isCoroutine=false
 gen:sc.isGenerator=false
 nd:N.Nodup
 pre:N.take P.length=P
 par:∀ x∈P,sc.names.lookup x=some .local\/sc.names.lookup x=some .cell
 nofree:∀ y∈sc.names,y.2≠.free
theorem Os{kindOf:Str->Option NameKind}{x:Str}:∀ {binds:List (Str×Value)} {m:Str->Option Value},(∀ v,(x,v)∉binds)->bindL kindOf binds m x=m x
 | [],_,_=>rfl
 | (n,v)::r,m,h=>by
  unfold bindL;rw[Os fun w hw=>h w (List.mem_cons_of_mem _ hw)]
  split
  ·have:x≠n:=by rintro rfl;exact h v List.mem_cons_self
   simp[this]
  ·rfl
theorem Iv{kindOf:Str->Option NameKind}{x:Str}:∀ {binds:List (Str×Value)} {m:Str->Option Value},(∀ v,(x,v)∉binds)->bindC kindOf binds m x=m x
 | [],_,_=>rfl
 | (n,v)::r,m,h=>by
  unfold bindC;rw[Iv fun w hw=>h w (List.mem_cons_of_mem _ hw)]
  split
  ·rfl
  ·have:x≠n:=by rintro rfl;exact h v List.mem_cons_self
   simp[this]
theorem Iq{kindOf:Str->Option NameKind}{x:Str}{v:Value}:∀ {P:List Str} {vs:List Value} {i:Nat} {m:Str->Option Value},P.Nodup->P[i]?=some x->vs[i]?=some v->kindOf x=some .local ->
  bindL kindOf (P.zip vs) m x=some v
 | [],_,_,_,_,h,_,_=>by simp at h
 | _::_,[],_,_,_,_,h,_=>by simp at h
 | p::P,w::vs,0,m,nd,h1,h2,hk=>by
  simp at h1 h2;subst h1;subst h2;show bindL kindOf ((p,w)::P.zip vs) m p=_
  unfold bindL;rw[Os fun v hv=>(List.nodup_cons.mp nd).1 (List.of_mem_zip hv).1,if_pos hk];simp
 | p::P,w::vs,i+1,m,nd,h1,h2,hk=>by
  show bindL kindOf ((p,w)::P.zip vs) m x=_
  unfold bindL;exact Iq (i:=i) (List.nodup_cons.mp nd).2 (by simpa using h1) (by simpa using h2) hk
theorem Mf{kindOf:Str->Option NameKind}{x:Str}{v:Value}:∀ {P:List Str} {vs:List Value} {i:Nat} {m:Str->Option Value},P.Nodup->P[i]?=some x->vs[i]?=some v->kindOf x≠some .local ->
  bindC kindOf (P.zip vs) m x=some v
 | [],_,_,_,_,h,_,_=>by simp at h
 | _::_,[],_,_,_,_,h,_=>by simp at h
 | p::P,w::vs,0,m,nd,h1,h2,hk=>by
  simp at h1 h2;subst h1;subst h2;show bindC kindOf ((p,w)::P.zip vs) m p=_
  unfold bindC;rw[Iv fun v hv=>(List.nodup_cons.mp nd).1 (List.of_mem_zip hv).1,if_neg hk];simp
 | p::P,w::vs,i+1,m,nd,h1,h2,hk=>by
  show bindC kindOf ((p,w)::P.zip vs) m x=_
  unfold bindC;exact Mf (i:=i) (List.nodup_cons.mp nd).2 (by simpa using h1) (by simpa using h2) hk
def start(N:List Str)(vs:List V):St:=vs.map some++List.replicate (N.length-vs.length) none
def kC(CX:fW)(P:Program)(w:World)(K:PySem.W.Frag)(mg:Str->Option Value)(base:Heap)(N:List Str)(qual:Str)(scope:Scope)(f:Addr)(cd:Value)(A:Around)(outer:List Env)(s:Shared)(H:Hp)(E:XK):Cx where
 prog:=P
 w:=w
 K:=K
 mg:=mg
 base:=base
 A:=A.deeper (envOfC qual scope s.heap.objs.size f cd)
 N:=N
 s₀:=s
 H₀:=H
 env:=envOfC qual scope s.heap.objs.size f cd
 outer:=outer
 stack:=envOfC qual scope s.heap.objs.size f cd::outer
 ex:=[]
 calm:=true
 fn:=fun _=>true
 pn:=[]
 xe:=fun e s'=>wpAny (model P w) (A.deeper (envOfC qual scope s.heap.objs.size f cd)) («leaving» (envOfC qual scope s.heap.objs.size f cd) e) (fun _ s''=>CX outer H s E e s'') (fun e' s''=>CX outer H s E e' s'') s'
theorem Gg{sc:Scope}{n:Nat}{x:Str}(h:sc.names.lookup x=some .cell):∃ c,(cellsFrom n sc.names []).lookup x=some c:=by
 have q:=PySem.W.cellsFrom_some sc.names n [] (.inl h)
 exact Option.isSome_iff_exists.mp q
theorem Qa{CX:fW}{P:Program}{w:World}{K:PySem.W.Frag}{mg:Str->Option Value}{base:Heap}{N ps:List Str}{qual:Str}{scope:Scope}{f:Addr}{cd:Value}{A:Around}{outer:List Env}{s s1:Shared}{H:Hp}{E:XK}{us:List Value}{vs:List V}
  (S:FnScope N ps scope) (hd:A.handled=none) (e0:Env0 P w K mg base A outer s H) (hl:vs.length=ps.length) (r:Vals vs us)
  (x:InCallC s s.heap.objs.size (bindL (envOfC qual scope s.heap.objs.size f cd).kindOf (ps.zip us) fun _=>none) (cellsFrom (s.heap.objs.size+1) scope.names []) (bindC (envOfC qual scope s.heap.objs.size f cd).kindOf (ps.zip us) fun _=>none) s1) :
  Inv (kC CX P w K mg base N qual scope f cd A outer s H E) [] (start N vs) H s1:=by
 have hpl:ps.length<=N.length:=by have:=congrArg List.length S.pre;rw[List.length_take]at this;omega
 obtain⟨h1,tk,rfl,hk⟩:=x.done;have noA:∀ b:Addr,b∉(kC CX P w K mg base N qual scope f cd A outer s H E).ex:=fun b z=>absurd (show b∈([]:List Addr) from z) (by simp)
 refine⟨⟨e0.mod,S.kind,rfl,rfl,Nat.le_refl _,fun y z c h1 h2=>?_,fun y hy=>?_,fun y c _ h=>?_,fun _=>hd,Around.frames_deeper e0.frames,.inr ⟨rfl,rfl⟩,fun b z=>absurd z (noA b),e0.bs,e0.bsz,fun b _ _=>noA b,fun b z=>absurd z (noA b),e0.funs,e0.frf⟩,
  rfl,e0.bare,Un.kept hk,⟨_,x.toInCall.ns,fun i y v h1 h2 h3=>?_⟩,fun y c h=>⟨_,x.cell y c h⟩,e0.hok.fresh (Nat.le_refl _),fun y c h=>?_,fun p hp=>absurd (show p∈([]:List (Addr×Obj)) from hp) (by simp),e0.hok.kept hk,?_⟩
 ·exact name_of_addr x.apart (PySem.mem_of_lookup h1) (PySem.mem_of_lookup h2)
 ·have hy:scope.names.lookup y=some .cell\/scope.names.lookup y=some .free:=hy
  rcases hy with hy | hy
  ·exact Gg hy
  ·exact absurd rfl (S.nofree _ (PySem.mem_of_lookup hy))
 ·exact Nat.le_of_lt (x.above y c (PySem.mem_of_lookup h))
 ·have hi:i<vs.length:=by
   unfold start at h2
   by_cases hi:i<vs.length
   ·exact hi
   ·rw[List.getElem?_append_right (by simpa using hi)]at h2
    rw[List.getElem?_replicate]at h2
    split at h2<;>cases h2
  have ha:vs[i]?=some v:=by
   unfold start at h2;rw[List.getElem?_append_left (by simpa using hi),List.getElem?_map]at h2
   cases e:vs[i]? with
   | none=>rw[e]at h2;cases h2
   | some a=>rw[e]at h2;cases h2;rfl
  obtain⟨u,hu,rv⟩:=r.get ha;have hp:ps[i]?=some y:=by
   rw[<- S.pre,List.getElem?_take_of_lt (by omega)];exact h1
  have ndP:ps.Nodup:=by rw[<- S.pre];exact S.nd.sublist (List.take_sublist _ _)
  refine⟨u,rv,?_⟩;rcases S.par y (List.mem_of_getElem? hp) with k | k
  ·exact .inl ⟨k,Iq ndP hp hu k⟩
  ·obtain⟨c,e⟩:=Gg (n:=s.heap.objs.size+1) k;refine .inr ⟨.inl k,c,e,?_⟩;have q:=x.cell y c e
   rw[Mf ndP hp hu (by show scope.names.lookup y≠_;rw[k];decide)]at q
   exact q
 ·exact e0.hok.fresh (Nat.le_of_lt (x.above y c (PySem.mem_of_lookup h)))
 ·unfold start;show _=N.length
  rw[List.length_append,List.length_map,List.length_replicate];omega
theorem N8{CX:fW}{P:Program}{w:World}{K:PySem.W.Frag}{mg:Str->Option Value}{base:Heap}{k:Nat}{f:Addr}{name qual:Str}{params:Arguments}{body:List Stmt}{scope:Scope}{dV kV doc pm cdv ct oc:Value}{an od:Option Addr}
  {osl:Array (Option Value)} {N ps:List Str} {sp:Sp} (lk:K.lookup f=some ⟨oc,od,.func (PySem.W.fnOf name qual params body scope dV kV doc pm an cdv ct),osl⟩) (hcd:PySem.W.codeIn K cdv qual=true) (S:FnScope N ps scope)
  (len:∀ vs H Q E,sp vs H Q E->vs.length=ps.length)
  (hbody:∀ (A:Around) (outer:List Env) (s:Shared) (H:Hp) (vs:List V) (Q:VK) (E:XK),Room k (A.deeper (envOfC qual scope s.heap.objs.size f cdv))->sp vs H Q E ->
   ∃ t,PSs (kC CX P w K mg base N qual scope f cdv A outer s H E) body t/\t {nx:=fun _ H'=>Q .non H',rt:=Q} (start N vs) H) :
  FnOk P w K mg base CX (k+1) f (PySem.W.fnOf name qual params body scope dV kV doc pm an cdv ct) ps sp:=by
 refine⟨len,fun A outer s H args us vs Q E hr e0 hb r hsp=>?_⟩;have hl:=len _ _ _ _ hsp
 have KX:K.In s.heap:=e0.mod.kin.keeps fun b o e=>(e0.bs b o e).1
 have lim:s.heap.NoLimit:=e0.mod.nolimit.keeps fun b o e=>(e0.bs b o e).1
 have hkind:∀ y∈ps.zip us,scope.names.lookup y.1=some .local\/(scope.names.lookup y.1=some .cell/\((cellsFrom (s.heap.objs.size+1) scope.names []).lookup y.1).isSome=true):=fun⟨n,v⟩ hy=>by
  rcases S.par n (List.of_mem_zip hy).1 with q | q
  ·exact .inl q
  ·exact .inr ⟨q,PySem.W.cellsFrom_some _ _ _ (.inl q)⟩
 refine codeAny_call_function hr.depth (KX _ _ lk) rfl S.co S.gen rfl (PySem.W.codeRec_of KX hcd) (hb _ _ _ _ ?_);refine wpAny_newFunctionEnv_cells S.kind hkind fun env he s1 x=>?_;subst he;refine⟨lim.keeps x.toInCall.keep,codeAny_func ?_⟩;obtain⟨t,ht,hq⟩:=hbody A outer s H vs Q E (hr.deeper _) hsp;have I:Inv (kC CX P w K mg base N qual scope f cdv A outer s H E) [] (start N vs) H s1:=Qa S hr.hd e0 hl r x
 refine wpAny_mono (ht [] s1 (start N vs) H _ I hq) (fun fl s' hs=>?_) fun e s' hs=>hs;have fin:∀ {σ':St} {H':Hp} {v:V} {u:Value},Inv (kC CX P w K mg base N qual scope f cdv A outer s H E) [] σ' H' s'->RelV v u->Q v H'->CE outer P w H s Q u s' :=
  fun {σ' H' v u} J rv q=>⟨v,H',J.os,J.bare,J.base,J.hok,rv,q⟩
 cases fl with
 | ret u =>
  obtain⟨v,σ',H',J,rv,q⟩:=hs;exact fin J rv q
 | next =>
  obtain⟨σ',H',J,q⟩:=hs;exact fin (v:=V.non) (u:=Value.none) J rfl q
 | brk =>
  obtain⟨_,_,_,q⟩:=hs;exact False.elim q
 | cont =>
  obtain⟨_,_,_,q⟩:=hs;exact False.elim q
end L2
namespace L2
open PySem PySem.Spec PyProof.Rows
section
variable {X:Cx}{x:Str}{p pos:Pos}{e:Expr}{es:List Expr}{t:TA}{id T:String}{r:List V->Hp->VK->Prop}
def Pp(r:List V->Hp->VK->Prop)(t:TA):TE:=fun σ H Q=>t σ H fun vs H1=>r vs H1 Q
theorem Gw(hc:CallR X (.builtin id) r)(hg:Gl X x)(hm:X.mg x=none)(hv:bootBuiltins x=some (.builtin id))(ha:PA X (e::es) t)(hn:x≠"__name__":=by decide)(hdb:(x==("__debug__" : Str))=false:=by decide)
  (he:starEach (e::es) X.env=(false,eval e X.env)::starEach es X.env:=by rfl) (hpl:(backTo pos (starEach es X.env)).any (·.1)=false:=by rfl):PE X (.Call (.Name x p) (e::es) [] pos) (Pp r t):=by
 intro pins s σ H Q I h;refine wpAny_Call_Name_kw (jJ I hg hm hv ?_ hn hdb);exact PyProof.Rows.callWith_builtin1 (aM (ha pos pins s σ H _ I h) fun us s1 ⟨vs,H1,I1,r1,q1⟩=>hc pins s1 σ H1 vs us Q I1 r1 q1) he hpl
theorem Qw(hc:CallR X (.type T) r)(hg:Gl X x)(hm:X.mg x=none)(hv:bootBuiltins x=some (.type T))(ha:PA X (e::es) t)(hn:x≠"__name__":=by decide)(hdb:(x==("__debug__" : Str))=false:=by decide)
  (he:starEach (e::es) X.env=(false,eval e X.env)::starEach es X.env:=by rfl) (hpl:(backTo pos (starEach es X.env)).any (·.1)=false:=by rfl):PE X (.Call (.Name x p) (e::es) [] pos) (Pp r t):=by
 intro pins s σ H Q I h;refine wpAny_Call_Name_kw (jJ I hg hm hv ?_ hn hdb);exact PyProof.Rows.callWith_type1 (aM (ha pos pins s σ H _ I h) fun us s1 ⟨vs,H1,I1,r1,q1⟩=>hc pins s1 σ H1 vs us Q I1 r1 q1) he hpl
end
end L2
namespace HT
open PySem PyProof.Rows
section
variable {prog:Program}{w:World}{A:Around}{E:Value->Shared->Prop}{s:Shared}
theorem cat_tup{t b:Addr}{vs ws:List Value}{Q:Value->Shared->Prop}(ht:IsTup s.heap t vs.toArray)(hb:IsTup s.heap b ws.toArray)(hv:vs≠[])
  (h1:ws=[]->Q (.ref t) s) (h2:ws≠[]->Q (.ref s.heap.objs.size) {s with heap:=s.heap.push {cls:=.type "tuple",data:=.seq (vs++ws).toArray}})
  (hsz:vs.length+ws.length<=sizeLine):wpAny (model prog w) A (binaryOp .Add (.ref t) (.ref b)) Q E s:=by
 obtain⟨⟨cls,dd,data,sl⟩,ho,hc,n,hd⟩:=id ht;obtain⟨⟨cls2,dd2,data2,sl2⟩,ho2,hc2,n2,hd2⟩:=id hb;simp only at hc hd hc2 hd2;subst hc hd hc2 hd2;have e:vs.toArray++ws.toArray=(vs++ws).toArray:=by simp
 by_cases hw:ws=[]
 ·exact concat_meets ⟨_,ho,rfl⟩ ⟨_,ho2,rfl⟩ noFill_tuple_add seq_tuple_add PySem.F.slot_tuple_add PySem.F.entry_tuple_add (PySem.F.args_tuple_add_2 _ _)
   (tuple_addW1 t b vs.toArray ws.toArray n n2 dd dd2 sl sl2 (by simpa using hv) (by simp[hw])) ⟨ho,ho2,h1 hw⟩
 ·refine concat_meets ⟨_,ho,rfl⟩ ⟨_,ho2,rfl⟩ noFill_tuple_add seq_tuple_add PySem.F.slot_tuple_add PySem.F.entry_tuple_add (PySem.F.args_tuple_add_2 _ _)
   (tuple_addW2 t b vs.toArray ws.toArray n n2 dd dd2 sl sl2 (by simpa using hv) (by simpa using hw) (by rw[List.size_toArray,List.size_toArray];exact hsz)) ⟨ho,ho2,?_⟩
  rw[e];exact h2 hw
def sIx(n d:Nat):Option Int->Nat
 | none=>d
 | some v=>if v<0 then (v+(n:Int)).toNat else min v.toNat n
theorem sIx_none(n d:Nat):sIx n d none=d:=rfl
theorem sIx_nat(n d k:Nat):sIx n d (some (k:Int))=min k n:=by
 show(if (k:Int)<0 then ((k:Int)+(n:Int)).toNat else min (k:Int).toNat n)=min k n
 rw[if_neg (by omega),Int.toNat_natCast]
theorem n9(n d:Nat)(hd:d<=n)(o:Option Int):sIx n d o<=n:=by
 cases o with
 | none=>exact hd
 | some v =>
  show(if v<0 then (v+(n:Int)).toNat else min v.toNat n)<=n
  by_cases hv:v<0
  ·rw[if_pos hv];omega
  ·rw[if_neg hv];exact Nat.min_le_right _ _
theorem Kb(v:Int)(n d:Nat):(if v<0 then max (v+(n:Int)) 0 else min v (n:Int))=((sIx n d (some v):Nat):Int):=by
 show(if v<0 then max (v+(n:Int)) 0 else min v (n:Int))=(((if v<0 then (v+(n:Int)).toNat else min v.toNat n):Nat):Int)
 by_cases hv:v<0
 ·simp only[if_pos hv];omega
 ·simp only[if_neg hv];omega
theorem i6(lo hi:Option Int)(n:Nat):Builtin.Slice.sliceAdjust lo hi 1 (n:Int)=(((sIx n 0 lo:Nat):Int),((sIx n n hi:Nat):Int)):=by
 have h1:¬ ((1:Int)<0):=by omega
 unfold Builtin.Slice.sliceAdjust;simp only[h1,if_false];refine Prod.ext ?_ ?_
 ·cases lo with
  | none=>rfl
  | some v=>exact Kb v n 0
 ·cases hi with
  | none=>rfl
  | some v=>exact Kb v n n
theorem W2(i j:Nat):Builtin.Slice.slicePlaces (i:Int) (j:Int) 1=j-i:=by
 unfold Builtin.Slice.slicePlaces;have h1:(1:Int) > 0:=by omega
 simp only[h1,if_true,Int.ediv_one]
 split<;>omega
theorem Gk{v:Value}{o:Option Int}{Q:Option Int->Shared->Prop}(p:IsPart v o)(h:Q o s):wpAny (model prog w) A (Builtin.Slice.slicePartIndex v) Q E s:=by
 cases p with
 | none=>exact slicePart_none h
 | int i t=>exact slicePart_int h
theorem sliceApplied_gen{sl:Addr}{vl vu:Value}{lo hi:Option Int}{n:Nat}{Q:Int×Int×Nat->Shared->Prop}(hs:s.heap.IsSliceOf sl vl vu .none)(pl:IsPart vl lo)(pu:IsPart vu hi)
  (h:Q (((sIx n 0 lo:Nat):Int),1,sIx n n hi-sIx n 0 lo) s):wpAny (model prog w) A (Builtin.Slice.sliceApplied (.ref sl) (pure (n:Int))) Q E s:=by
 obtain⟨os,hos,hcs,hds⟩:=id hs;unfold Builtin.Slice.sliceApplied Builtin.Slice.sliceFields;refine wpAny_bind (wpAny_bind (wpAny_field hos hds (x:=vl) rfl (wpAny_bind (wpAny_field hos hds (x:=vu) rfl (wpAny_bind (wpAny_field hos hds (x:=.none) rfl (wpAny_pure ?_)))))));refine wpAny_bind (slicePart_none ?_);show wpAny _ _ (if ((1:Int)==0)=true then _ else _) _ _ s
 rw[if_neg (by decide)]
 refine wpAny_bind (Gk pl (wpAny_bind (Gk pu (wpAny_bind (wpAny_pure ?_)))));show wpAny _ _ (match Builtin.Slice.sliceAdjust lo hi 1 (n:Int) with | (lo,hi)=>pure (lo,(1:Int),Builtin.Slice.slicePlaces lo hi 1)) _ _ s
 rw[i6 lo hi n];show wpAny _ _ (pure (((sIx n 0 lo:Nat):Int),(1:Int),Builtin.Slice.slicePlaces ((sIx n 0 lo:Nat):Int) ((sIx n n hi:Nat):Int) 1)) _ _ s
 rw[W2];exact wpAny_pure h
theorem j2(xs:Array Value)(i k:Nat):((List.range k).filterMap fun(m:Nat)=>xs[((i:Int)+(m:Int)*1).toNat]?).toArray=((xs.toList.drop i).take k).toArray:=by
 have e:(fun(m:Nat)=>xs[((i:Int)+(m:Int)*1).toNat]?)=fun m=>xs[i+m]?:=by
  funext m
  have:((i:Int)+(m:Int)*1).toNat=i+m:=by omega
  rw[this]
 rw[e];have:=pick_run xs i k
 rw[List.filterMap_map]at this;have e2:((fun x=>xs[x]?)∘fun x=>i+x)=fun m=>xs[i+m]?:=rfl
 rw[e2]at this;rw[this]
theorem getItem_tuple_cut{t sl:Addr}{items:Array Value}{vl vu:Value}{lo hi:Option Int}{Q:Value->Shared->Prop}(ht:IsTup s.heap t items)(hs:s.heap.IsSliceOf sl vl vu .none)(pl:IsPart vl lo)(pu:IsPart vu hi)
  (hw:¬ (sIx items.size 0 lo=0/\sIx items.size items.size hi=items.size))
  (h:Q (.ref s.heap.objs.size) {s with heap:=s.heap.push {cls:=.type "tuple",data:=.seq ((items.toList.drop (sIx items.size 0 lo)).take (sIx items.size items.size hi-sIx items.size 0 lo)).toArray}})
  (hsz:items.size<=sizeLine):wpAny (model prog w) A (getItem (.ref t) (.ref sl)) Q E s:=by
 have htake:sizeOk (.seq ((items.toList.drop (sIx items.size 0 lo)).take (sIx items.size items.size hi-sIx items.size 0 lo)).toArray):=by
  show((items.toList.drop (sIx items.size 0 lo)).take (sIx items.size items.size hi-sIx items.size 0 lo)).toArray.size<=sizeLine
  rw[List.size_toArray,List.length_take,List.length_drop,Array.length_toList];omega
 have hj:sIx items.size items.size hi<=items.size:=n9 _ _ (Nat.le_refl _) hi
 obtain⟨os,hos,hcs,hds⟩:=id hs;have hTs:s.TypeIs (.ref sl) "slice":=⟨os,hos,hcs⟩
 unfold getItem
 try with_reducible refine wpAny_holding ?_
 first | refine wpAny_bind (wpAny_pure ?_) | skip
 refine wpAny_bind (wpAny_sequenceKey ht.typeIs (by decide) ?_)
 refine wpAny_bind (wpAny_callSpecial?_slot (name:=Str.ofString "__getitem__") ht.typeIs PyProof.Rows.slot_tuple_getitem
  (wpAny_call_entry PyProof.Rows.slot_tuple_getitem ht.typeIs entry_tuple_getitem ?_ (args_tuple_getitem _ _)))
 show wpAny _ _ (Builtin.Tuple.tupleItemsOf (.ref t)>>=_) _ _ s
 refine wpAny_bind (tupleItemsOf_ ht ?_);refine wpAny_bind (wpAny_typeOf hTs ?_);rw[if_pos (by decide)]
 refine wpAny_bind (sliceApplied_gen hs pl pu ?_);have hno:¬ ((((sIx items.size 0 lo:Nat):Int)==0&&(1:Int)==1&&(sIx items.size items.size hi-sIx items.size 0 lo)==items.size)=true):=by
  intro q;rw[Bool.and_eq_true,Bool.and_eq_true]at q;have q1:((sIx items.size 0 lo:Nat):Int)=0:=eq_of_beq q.1.1
  have q2:sIx items.size items.size hi-sIx items.size 0 lo=items.size:=eq_of_beq q.2
  exact hw ⟨by omega,by omega⟩
 show wpAny _ _ (if (((sIx items.size 0 lo:Nat):Int)==0&&(1:Int)==1&&(sIx items.size items.size hi-sIx items.size 0 lo)==items.size)=true then _ else _) _ _ s
 rw[if_neg hno,j2]
 first
  | exact wpAny_bind (m:=Builtin.Tuple.tupleExact _) (wpAny_newObj_type (wpAny_pure ⟨_,rfl,wpAny_pure h⟩) htake)
  | exact wpAny_bind (m:=Builtin.Tuple.tupleExact _) (wpAny_newObj_type (wpAny_bind (wpAny_pure (wpAny_pure ⟨_,rfl,wpAny_pure h⟩))) htake)
  | exact wpAny_bind (wpAny_bind (m:=Builtin.Tuple.tupleExact _) (wpAny_newObj_type (wpAny_pure (wpAny_pure ⟨_,rfl,wpAny_pure h⟩)) htake))
  | exact wpAny_bind (wpAny_bind (m:=Builtin.Tuple.tupleExact _) (wpAny_newObj_type (wpAny_pure ⟨_,rfl,wpAny_pure h⟩) htake))
end
end HT
namespace L2
open PySem PySem.Spec PyProof.Rows
abbrev TO:=St->Hp->(Option Int->Hp->Prop)->Prop
def PO(X:Cx)(e:Option Expr)(t:TO):Prop :=
 ∀ (pins:List (Addr×Obj)) (s:Shared) (σ:St) (H:Hp) (Q:Option Int->Hp->Prop),Inv X pins σ H s->t σ H Q ->
  wpAny (model X.prog X.w) X.A (evalPart e X.env) (fun u s'=>∃ o H',Inv X pins σ H' s'/\IsPart u o/\Q o H') X.xe s
def M9:TO:=fun _ H Q=>Q none H
def L4(t:TE):TO:=fun σ H Q=>t σ H fun x H1=>∃ i,x=.int i/\Q (some i) H1
section
variable {X:Cx}{e:Expr}{te:TE}{lo hi:Option Expr}{tl th:TO}{pos p2:Pos}
theorem A9:PO X none M9:=by
 intro pins s σ H Q I h;rw[evalPart_none];exact wpAny_pure ⟨none,H,I,.none,h⟩
theorem Yy(h:PE X e te):PO X (some e) (L4 te):=by
 intro pins s σ H Q I hw;rw[evalPart_some];refine aM (h pins s σ H _ I hw) fun u s1 ⟨x,H1,I1,r1,q1⟩=>?_;obtain⟨i,rfl,q⟩:=q1;obtain⟨t,rfl⟩:=r1;exact⟨some i,H1,I1,.int i t,q⟩
def SlR(X:Cx)(r:V->Option Int->Option Int->Hp->VK->Prop):Prop :=
 ∀ (pins:List (Addr×Obj)) (s:Shared) (σ:St) (H:Hp) (x:V) (v vl vu:Value) (lo hi:Option Int) (sl:Addr) (Q:VK),Inv X pins σ H s->RelV x v->s.heap.IsSliceOf sl vl vu .none->IsPart vl lo->IsPart vu hi->r x lo hi H Q ->
  ∃ T id,typeLookup (.type T) "__getitem__"=pure (some (.builtin id))/\s.TypeIs v T/\wpAny (model X.prog X.w) X.A (getItem v (.ref sl)) (EP X pins σ Q) X.xe s
theorem SlR.or{r r':V->Option Int->Option Int->Hp->VK->Prop}(h:SlR X r)(h':SlR X r'):SlR X (fun x lo hi H Q=>r x lo hi H Q\/r' x lo hi H Q):=by
 intro pins s σ H x v vl vu lo hi sl Q I rx hs pl pu q;rcases q with q | q
 ·exact h pins s σ H x v vl vu lo hi sl Q I rx hs pl pu q
 ·exact h' pins s σ H x v vl vu lo hi sl Q I rx hs pl pu q
def BC(r:V->Option Int->Option Int->Hp->VK->Prop)(te:TE)(tl th:TO):TE:=fun σ H Q=>te σ H fun x H1=>tl σ H1 fun l H2=>th σ H2 fun u H3=>r x l u H3 Q
theorem Ln{r:V->Option Int->Option Int->Hp->VK->Prop}(hr:SlR X r)(he:PE X e te)(hl:PO X lo tl)(hu:PO X hi th):PE X (.Subscript e (.Slice lo hi none p2) pos) (BC r te tl th):=by
 intro pins s σ H Q I h;refine Subscript_ (aM (he pins s σ H _ I h) fun v s1 ⟨x,H1,I1,r1,q1⟩=>?_);refine wpAny_Slice (aM (hl pins s1 σ H1 _ I1 q1) fun vl s2 ⟨l,H2,I2,pl,q2⟩=>aM (hu pins s2 σ H2 _ I2 q2) fun vu s3 ⟨u,H3,I3,pu,q3⟩=>?_);rw[evalPart_none];refine wpAny_pure ?_;have I4:Inv X pins σ H3 {s3 with heap:=s3.heap.push {cls:=.type "slice",data:=.fields #[vl,vu,.none]}}:=I3.kept (t':=s3.toks) fun b ob q=>Heap.get?_push_of_some _ q
 obtain⟨T,id,hT,ht,hg⟩:=hr pins {s3 with heap:=s3.heap.push {cls:=.type "slice",data:=.fields #[vl,vu,.none]}} σ H3 x v vl vu l u s3.heap.objs.size Q I4 r1 (Heap.IsSliceOf.new ..) pl pu q3;show wpAny (model X.prog X.w) X.A (subscriptTail e (.Slice lo hi none p2) v (.ref s3.heap.objs.size)) (EP X pins σ Q) X.xe {s3 with heap:=s3.heap.push {cls:=.type "slice",data:=.fields #[vl,vu,.none]}}
 exact tail_any (ops:=[.ref s3.heap.objs.size,v]) ht hT hg (by with_unfolding_all rfl)
def fH(xs:List V)(lo hi:Option Int):List V:=(xs.drop (HT.sIx xs.length 0 lo)).take (HT.sIx xs.length xs.length hi-HT.sIx xs.length 0 lo)
theorem Hz(xs:List V)(lo hi:Option Int):(fH xs lo hi).length<=xs.length:=by
 unfold fH;rw[List.length_take,List.length_drop];omega
def J4(K:PySem.W.Frag):V->Option Int->Option Int->Hp->VK->Prop:=fun x lo hi H Q=>∃ a xs,x=.ref a/\SqT K H a xs /\
 ¬ (HT.sIx xs.length 0 lo=0/\HT.sIx xs.length xs.length hi=xs.length)/\∀ p,H p=none->Q (.ref p) (aI H p (.tup (fH xs lo hi)))
theorem Kc:SlR X (J4 X.K):=by
 intro pins s σ H x v vl vu lo hi sl Q I rx hs pl pu h;obtain⟨a,xs,rfl,hx,hw,q⟩:=h
 cases rx
 obtain⟨its,r,ht,hz⟩:=I.tuple hx;have hlen:its.toArray.size=xs.length:=by rw[List.size_toArray];exact r.length.symm
 refine⟨"tuple",_,PyProof.Rows.slot_tuple_getitem.lookup,ht.typeIs,?_⟩;refine HT.getItem_tuple_cut ht hs pl pu (by rw[hlen];exact hw) ?_ (by rw[hlen];exact hz)
 rw[hlen];refine⟨.ref s.heap.objs.size,_,I.laid (t':=s.toks) (o:=.tup (fH xs lo hi)) (fun b ob q=>Heap.get?_push_of_some _ q) (Nat.le_refl _) ?_,rfl,q _ (I.hok.fresh (Nat.le_refl _))⟩;exact⟨⟨Nat.le_trans (Hz xs lo hi) hz,NoD.new _ _ _⟩,_,(r.drop (HT.sIx xs.length 0 lo)).take (HT.sIx xs.length xs.length hi-HT.sIx xs.length 0 lo),IsTup.new _ _⟩
def F1(K:PySem.W.Frag):R2:=fun x y H Q=>∃ a b xs ys,x=.ref a/\y=.ref b/\SqT K H a xs/\SqT K H b ys/\xs≠[]/\xs.length+ys.length<=sizeLine /\
 (ys=[]->Q (.ref a) H)/\(ys≠[]->∀ p,H p=none->Q (.ref p) (aI H p (.tup (xs++ys))))
theorem Vals.nil_iff{xs:List V}{us:List Value}(r:Vals xs us):us=[]↔xs=[]:=by
 cases r with
 | nil=>simp
 | cons _ _=>simp
theorem Zu:OpR X (binaryOp .Add) (F1 X.K):=by
 intro pins s σ H x y v u Q I rx ry h;obtain⟨a,b,xs,ys,rfl,rfl,ha,hb,hx,hz,q1,q2⟩:=h
 cases rx
 cases ry
 obtain⟨its,r1,p1,_⟩:=I.tuple ha;obtain⟨its2,r2,p2,_⟩:=I.tuple hb;refine HT.cat_tup p1 p2 (fun z=>hx (r1.nil_iff.mp z)) (fun z=>⟨.ref a,H,I,rfl,q1 (r2.nil_iff.mp z)⟩) (fun z=>?_) (by rw[<- r1.length,<- r2.length];exact hz)
 refine⟨.ref s.heap.objs.size,_,I.laid (t':=s.toks) (o:=.tup (xs++ys)) (fun b ob q=>Heap.get?_push_of_some _ q) (Nat.le_refl _) ?_,rfl,q2 (fun w=>z (r2.nil_iff.mpr w)) _ (I.hok.fresh (Nat.le_refl _))⟩;exact⟨⟨by rw[List.length_append];exact hz,NoD.new _ _ _⟩,_,r1.append r2,IsTup.new _ _⟩
end
end L2
namespace L2
open PySem PySem.Spec PyProof.Rows
def gP(n:Nat)(i:Int):Option Nat:=if 0<=i then (if i<n then some i.toNat else none) else if -(n:Int)<=i then some (i+n).toNat else none
def cS{α:Type}(xs:List α)(i:Int):Option α:=(gP xs.length i).bind fun j=>xs[j]?
theorem I0{n:Nat}{i:Int}{j:Nat}(h:gP n i=some j):seqIndex? i n=some j/\j<n/\-(n:Int)<=i/\i<n:=by
 unfold gP at h
 by_cases h0:0<=i
 ·rw[if_pos h0]at h
  by_cases h1:i<n
  ·rw[if_pos h1]at h;have e:i.toNat=j:=Option.some.inj h
   exact⟨by rw[seqIndex_of h0 h1,e],by omega,by omega,h1⟩
  ·rw[if_neg h1]at h;cases h
 ·rw[if_neg h0]at h
  by_cases h1:-(n:Int)<=i
  ·rw[if_pos h1]at h;have e:(i+n).toNat=j:=Option.some.inj h
   exact⟨by rw[seqIndex_neg (by omega) h1,e],by omega,h1,by omega⟩
  ·rw[if_neg h1]at h;cases h
theorem Fq{α:Type}{xs:List α}{i:Int}{v:α}(h:cS xs i=some v):∃ j,seqIndex? i xs.length=some j/\xs[j]?=some v/\j<xs.length/\-(xs.length:Int)<=i/\i<xs.length:=by
 unfold cS at h
 cases e:gP xs.length i with
 | none=>rw[e]at h;cases h
 | some j =>
  rw[e]at h;obtain⟨h1,h2,h3,h4⟩:=I0 e;exact⟨j,h1,h,h2,h3,h4⟩
theorem Ig{α:Type}{xs:List α}{j:Nat}{v:α}(h:xs[j]?=some v):cS xs (j:Int)=some v:=by
 have hj:j<xs.length:=(List.getElem?_eq_some_iff.mp h).1
 have e:gP xs.length (j:Int)=some j:=by
  unfold gP;rw[if_pos (by omega),if_pos (by omega)];simp
 unfold cS;rw[e];exact h
def Cr(b:Expr):Prop:=∀ o i,subscripted b false o i=operate [o,i] (getItem o i)
def IxR(X:Cx)(r:R2):Prop :=
 ∀ (value slice:Expr) (pins:List (Addr×Obj)) (s:Shared) (σ:St) (H:Hp) (x y:V) (v u:Value) (Q:VK),Inv X pins σ H s->RelV x v->RelV y u->r x y H Q ->
  subscripted slice false v u=operate [v,u] (getItem v u)->wpAny (model X.prog X.w) X.A (subscriptTail value slice v u) (EP X pins σ Q) X.xe s
def MtR(X:Cx)(id:String)(r:V->List V->Hp->VK->Prop):Prop :=
 ∀ (pins:List (Addr×Obj)) (s:Shared) (σ:St) (H:Hp) (x:V) (xs:List V) (v:Value) (us:List Value) (Q:VK),Inv X pins σ H s->RelV x v->Vals xs us->r x xs H Q ->
  wpAny (model X.prog X.w) X.A (call (.builtin id) (v::us)) (EP X pins σ Q) X.xe s
section
variable {X:Cx}{a b:Expr}{ta tb:TE}{pos:Pos}
theorem IxR.or{r r':R2}(h:IxR X r)(h':IxR X r'):IxR X (fun x y H Q=>r x y H Q\/r' x y H Q):=by
 intro value slice pins s σ H x y v u Q I rx ry q hs;rcases q with q | q
 ·exact h value slice pins s σ H x y v u Q I rx ry q hs
 ·exact h' value slice pins s σ H x y v u Q I rx ry q hs
theorem MtR.or{id:String}{r r':V->List V->Hp->VK->Prop}(h:MtR X id r)(h':MtR X id r'):MtR X id (fun x xs H Q=>r x xs H Q\/r' x xs H Q):=by
 intro pins s σ H x xs v us Q I rx rs q;rcases q with q | q
 ·exact h pins s σ H x xs v us Q I rx rs q
 ·exact h' pins s σ H x xs v us Q I rx rs q
theorem Yv{r:R2}(hr:IxR X r)(ha:PE X a ta)(hb:PE X b tb)(hs:Cr b):PE X (.Subscript a b pos) (Ry r ta tb):=by
 intro pins s σ H Q I h;exact Subscript_ (Nf ha hb I h fun v u s2 x y H2 I2 rx ry q=>hr a b pins s2 σ H2 x y v u Q I2 rx ry q (hs _ _))
def Po(K:PySem.W.Frag):R2:=fun x y H Q=>∃ p xs i v,x=.ref p/\y=.int i/\SqL K H p xs/\cS xs i=some v/\Q v H
def Kk(K:PySem.W.Frag):R2:=fun x y H Q=>∃ p xs i v,x=.ref p/\y=.int i/\SqT K H p xs/\cS xs i=some v/\Q v H
def On:R2:=fun x y H Q=>∃ z i c,x=.str z/\y=.int i/\z.length<=sizeLine/\cS z.cps.toList i=some c/\Q (.str ⟨#[c]⟩) H
theorem Qe:IxR X (Po X.K):=by
 intro value slice pins s σ H x y v u Q I rx ry h hs;obtain⟨p,xs,i,z,rfl,rfl,hq,he,q⟩:=h
 cases rx
 obtain⟨t,rfl⟩:=ry;obtain⟨its,r,pl,hz⟩:=I.list hq;obtain⟨j,h1,h2,h3,h4,h5⟩:=Fq he;obtain⟨w,ew,rw'⟩:=r.get h2;have hl:=r.length
 have hn:=oU
 have fin:EP X pins σ Q w s:=⟨z,H,I,rw',q⟩
 by_cases h0:0<=i
 ·have hj:i.toNat=j:=by
   rw[seqIndex_of h0 h5]at h1;exact Option.some.inj h1
  exact item_listR pl.isList h0 (by omega) (by rw[hj];simpa using ew) fin hs
 ·have hj:(i+(its.toArray.size:Int)).toNat=j:=by
   rw[seqIndex_neg (by omega) h4]at h1
   rw[List.size_toArray,<- hl];exact Option.some.inj h1
  exact subscriptTail_builtinR (x:=w) pl.isList.typeIs slot_list_getitem.lookup
   (wpAny_getItem_list_neg (Q:=fun r s'=>r=w/\EP X pins σ Q r s') pl.isList (by omega) (by rw[List.size_toArray]<;>omega) (by omega) (by rw[hj];simpa using ew) ⟨rfl,fin⟩) hs
theorem AI:IxR X (Kk X.K):=by
 intro value slice pins s σ H x y v u Q I rx ry h hs;obtain⟨p,xs,i,z,rfl,rfl,hq,he,q⟩:=h
 cases rx
 obtain⟨t,rfl⟩:=ry;obtain⟨its,r,pl,hz⟩:=I.tuple hq;obtain⟨j,h1,h2,h3,h4,h5⟩:=Fq he;obtain⟨w,ew,rw'⟩:=r.get h2;have hl:=r.length
 have hn:=oU
 have fin:EP X pins σ Q w s:=⟨z,H,I,rw',q⟩
 exact subscriptTail_builtinR (x:=w) pl.typeIs slot_tuple_getitem.lookup
  (getItem_tuple (j:=j) (Q:=fun r s'=>r=w/\EP X pins σ Q r s') pl (by omega) (by omega) (by rw[List.size_toArray,<- hl];exact h1) (by simpa using ew) ⟨rfl,fin⟩) hs
theorem b7:IxR X On:=by
 intro value slice pins s σ H x y v u Q I rx ry h hs;obtain⟨z,i,c,rfl,rfl,hz,he,q⟩:=h;obtain⟨t,rfl⟩:=rx;obtain⟨t',rfl⟩:=ry;obtain⟨j,h1,h2,h3,h4,h5⟩:=Fq he;have hl:z.cps.toList.length=z.length:=by simp[Str.length]
 rw[hl]at h1 h4 h5;have hn:=oU
 exact tail_any (typeIs_str s z t) slot_str_getitem.lookup (getItem_str (c:=c) (by
  have e1:decide (i < -(2^63:Int))=false:=decide_eq_false (by omega)
  have e2:decide (i ≥ 2^63)=false:=decide_eq_false (by omega)
  rw[e1,e2,Bool.or_false]) (by rw[h1];simpa using h2) ⟨.str ⟨#[c]⟩,H,I.tok _,⟨_,rfl⟩,q⟩) hs
def Tv(K:PySem.W.Frag):R2:=fun x y H Q=>Po K x y H Q\/Kk K x y H Q\/On x y H Q
theorem Rr:IxR X (Tv X.K):=Qe.or (AI.or b7)
theorem Inv.lst{pins:List (Addr×Obj)}{σ:St}{H:Hp}{s:Shared}{p:Addr}{xs:List V}(I:Inv X pins σ H s)(h:H p=some (.lst xs)) :
  ∃ (its:List Value) (n:Nat),Vals xs its/\s.heap.get? p=some {cls:=.type "list",data:=.seq its.toArray n}/\xs.length<=sizeLine:=by
 obtain⟨z,its,n,r,e⟩:=I.hok p _ h;exact⟨its,n,r,e,z⟩
theorem C3(lo hi:Option Int)(n:Nat):(sliceBounds lo hi none n).1=((HT.sIx n 0 lo:Nat):Int)/\(sliceBounds lo hi none n).2.1=((HT.sIx n n hi:Nat):Int)/\(sliceBounds lo hi none n).2.2=1:=by
 refine⟨?_,?_,rfl⟩
 ·cases lo with
  | none=>simp[sliceBounds,HT.sIx]
  | some i =>
   simp only[sliceBounds,HT.sIx,Option.getD_none,show(1:Int) > 0 by decide,if_true]
   by_cases h:i<0
   ·simp only[h,if_true]<;>omega
   ·simp only[h,if_false]<;>omega
 ·cases hi with
  | none=>simp[sliceBounds,HT.sIx]
  | some i =>
   simp only[sliceBounds,HT.sIx,Option.getD_none,show(1:Int) > 0 by decide,if_true]
   by_cases h:i<0
   ·simp only[h,if_true]<;>omega
   ·simp only[h,if_false]<;>omega
theorem C6(its:List Value)(lo hi:Option Int):slicePick its.toArray lo hi none=((its.drop (HT.sIx its.length 0 lo)).take (HT.sIx its.length its.length hi-HT.sIx its.length 0 lo)).toArray:=by
 obtain⟨h1,h2,h3⟩:=C3 lo hi its.toArray.size;unfold slicePick;rw[h1,h2,h3];simp only[sliceRange_one,pick_run,List.size_toArray]<;>rfl
def Xu(K:PySem.W.Frag):V->Option Int->Option Int->Hp->VK->Prop:=fun x lo hi H Q=>∃ a xs,x=.ref a/\SqL K H a xs/\∀ p,H p=none->Q (.ref p) (aI H p (.lst (fH xs lo hi)))
theorem Nd:SlR X (Xu X.K):=by
 intro pins s σ H x v vl vu lo hi sl Q I rx hs pl pu h;obtain⟨a,xs,rfl,hx,q⟩:=h
 cases rx
 obtain⟨its,r,ht,hz⟩:=I.list hx;have hlen:=r.length
 refine⟨"list",_,slot_list_getitem.lookup,ht.isList.typeIs,?_⟩;refine wpAny_getItem_list_slice ht.isList hs pl pu .none (by simp) ?_ (by rw[List.size_toArray]<;>omega)
 rw[C6,<- hlen];refine⟨.ref s.heap.objs.size,_,I.laid (t':=s.toks) (o:=.lst (fH xs lo hi)) (fun b ob q=>Heap.get?_push_of_some _ q) (Nat.le_refl _) ?_,rfl,q _ (I.hok.fresh (Nat.le_refl _))⟩;exact⟨Nat.le_trans (Hz xs lo hi) hz,_,0,(r.drop (HT.sIx xs.length 0 lo)).take (HT.sIx xs.length xs.length hi-HT.sIx xs.length 0 lo),Heap.get?_push_size _ rfl⟩
def gL:V->Bool
 | .non=>true
 | .bl _=>true
 | .int _=>true
 | .str _=>true
 | _=>false
def jQ:V->V->Bool
 | .non,.non=>true
 | .bl a,.bl b=>a==b
 | .bl a,.int b=>(if a then 1 else 0)==b
 | .int a,.bl b=>a==(if b then 1 else 0)
 | .int a,.int b=>a==b
 | .str a,.str b=>a==b
 | _,_=>false
theorem Sc{A:Around}{s:Shared}{y x:V}{u v:Value}(ry:RelV y u)(rx:RelV x v)(fy:gL y=true)(fx:gL x=true):SeqAt.EqAt A s u v (jQ y x):=by
 cases y with
 | non =>
  cases ry
  cases x with
  | non=>cases rx;exact SeqAt.EqAt.same _
  | bl b=>cases rx;exact SeqAt.EqAt.none_bool b
  | int b=>obtain⟨t,rfl⟩:=rx;exact SeqAt.EqAt.none_int b t
  | str b=>obtain⟨t,rfl⟩:=rx;exact SeqAt.EqAt.none_str b t
  | _=>exact absurd (show false=true from fx) Bool.false_ne_true
 | bl a =>
  cases ry
  cases x with
  | non=>cases rx;exact SeqAt.EqAt.bool_none a
  | bl b=>cases rx;exact SeqAt.EqAt.bool_bool a b
  | int b=>obtain⟨t,rfl⟩:=rx;exact SeqAt.EqAt.bool_int a b t
  | str b=>obtain⟨t,rfl⟩:=rx;exact SeqAt.EqAt.bool_str a b t
  | _=>exact absurd (show false=true from fx) Bool.false_ne_true
 | int a =>
  obtain⟨t',rfl⟩:=ry
  cases x with
  | non=>cases rx;exact SeqAt.EqAt.int_none a t'
  | bl b=>cases rx;exact SeqAt.EqAt.int_bool a t' b
  | int b=>obtain⟨t,rfl⟩:=rx;exact SeqAt.EqAt.int_int a t' b t
  | str b=>obtain⟨t,rfl⟩:=rx;exact SeqAt.EqAt.int_str a t' b t
  | _=>exact absurd (show false=true from fx) Bool.false_ne_true
 | str a =>
  obtain⟨t',rfl⟩:=ry
  cases x with
  | non=>cases rx;exact SeqAt.EqAt.str_none a t'
  | bl b=>cases rx;exact SeqAt.EqAt.str_bool a t' b
  | int b=>obtain⟨t,rfl⟩:=rx;exact SeqAt.EqAt.str_int a t' b t
  | str b=>obtain⟨t,rfl⟩:=rx;exact SeqAt.EqAt.str_str a t' b t
  | _=>exact absurd (show false=true from fx) Bool.false_ne_true
 | _=>exact absurd (show false=true from fy) Bool.false_ne_true
def jL(x:V)(u:Value):Bool:=match u with
 | .none=>jQ .non x
 | .bool b=>jQ (.bl b) x
 | .int i _=>jQ (.int i) x
 | .str z _=>jQ (.str z) x
 | _=>false
theorem Pb{x y:V}{u:Value}(r:RelV y u)(f:gL y=true):jL x u=jQ y x:=by
 cases y with
 | non=>cases r;rfl
 | bl b=>cases r;rfl
 | int i=>obtain⟨t,rfl⟩:=r;rfl
 | str z=>obtain⟨t,rfl⟩:=r;rfl
 | _=>exact absurd (show false=true from f) Bool.false_ne_true
theorem Fa{x:V}:∀ {xs:List V} {us:List Value},Vals xs us->xs.all gL=true->us.any (jL x)=xs.any fun y=>jQ y x
 | _,_,.nil,_=>rfl
 | y::xs,u::us,.cons r t,f=>by
  rw[List.all_cons,Bool.and_eq_true]at f;rw[List.any_cons,List.any_cons,Pb r f.1,Fa t f.2]
theorem Dv{A:Around}{s:Shared}{x:V}{v:Value}(rx:RelV x v)(fx:gL x=true):∀ {xs:List V} {us:List Value},Vals xs us->xs.all gL=true->∀ u∈us,SeqAt.EqAt A s u v (jL x u)
 | _,_,.nil,_=>fun u hu=>by cases hu
 | y::xs,u::us,.cons r t,f=>fun u' hu=>by
  rw[List.all_cons,Bool.and_eq_true]at f;rcases List.mem_cons.mp hu with rfl | hu
  ·rw[Pb r f.1];exact Sc r rx f.1 fx
  ·exact Dv rx fx t f.2 u' hu
def kJ(x:V)(xs:List V):Bool:=xs.any fun y=>jQ y x
def X6(K:PySem.W.Frag)(neg:Bool):R2:=fun x y H Q=>∃ p xs,y=.ref p/\(SqL K H p xs\/SqT K H p xs)/\gL x=true/\xs.all gL=true/\Q (.bl (if neg then !kJ x xs else kJ x xs)) H
theorem nO:OpR X (compareOp .In) (X6 X.K false):=by
 intro pins s σ H x y v u Q I rx ry h;obtain⟨p,xs,rfl,hq,fx,fs,q⟩:=h
 cases ry
 rcases hq with hq | hq
 ·obtain⟨its,r,pl,hz⟩:=I.list hq;refine SeqAt.in_listAt (jL x) pl.isList (fun w hw=>Dv rx fx r fs w (by simpa using hw)) ⟨.bl _,H,I,rfl,?_⟩
  rw[show its.toArray.any (jL x)=its.any (jL x) by simp,Fa r fs]
  exact q
 ·obtain⟨its,r,pl,hz⟩:=I.tuple hq;refine SeqAt.in_tupleAt (jL x) pl (fun w hw=>Dv rx fx r fs w (by simpa using hw)) ⟨.bl _,H,I,rfl,?_⟩
  rw[show its.toArray.any (jL x)=its.any (jL x) by simp,Fa r fs]
  exact q
theorem Ev:CallR X (.builtin "len") (fun xs H Q=>∃ p ys,xs=[.ref p]/\(SqL X.K H p ys\/SqT X.K H p ys)/\Q (.int ys.length) H):=by
 intro pins s σ H xs us Q I r h;obtain⟨p,ys,rfl,hq,q⟩:=h;obtain⟨u,rfl,rx⟩:=eS r
 cases rx
 have hn:=oU
 rcases hq with hq | hq
 ·obtain⟨its,r',pl,hz⟩:=I.list hq;have hlen:=r'.length
  exact Calls.call_len_list pl.isList (by simp only[List.size_toArray]<;>omega) ⟨.int ys.length,H,I.tok _,⟨s.toks+1,by rw[List.size_toArray,hlen]⟩,q⟩
 ·obtain⟨its,r',pl,hz⟩:=I.tuple hq;have hlen:=r'.length
  exact len_tuple pl (by simp only[List.size_toArray]<;>omega) ⟨.int ys.length,H,I.tok _,⟨s.toks+1,by rw[List.size_toArray,hlen]⟩,q⟩
theorem E9:CallR X (.builtin "len") (fun xs H Q=>∃ z,xs=[.str z]/\z.length<=sizeLine/\Q (.int z.length) H):=by
 intro pins s σ H xs us Q I r h;obtain⟨z,rfl,hz,q⟩:=h;obtain⟨u,rfl,t,rfl⟩:=eS r;have hn:=oU
 exact len_str (by omega) ⟨.int z.length,H,I.tok _,⟨_,rfl⟩,q⟩
theorem CallR.or{f:Value}{r r':List V->Hp->VK->Prop}(h:CallR X f r)(h':CallR X f r'):CallR X f (fun xs H Q=>r xs H Q\/r' xs H Q):=by
 intro pins s σ H xs us Q I rs q;rcases q with q | q
 ·exact h pins s σ H xs us Q I rs q
 ·exact h' pins s σ H xs us Q I rs q
theorem Hx:CallR X (.type "list") (fun xs H Q=>∃ p ys,xs=[.ref p]/\(SqL X.K H p ys\/SqT X.K H p ys)/\∀ l,H l=none->Q (.ref l) (aI H l (.lst ys))):=by
 intro pins s σ H xs us Q I r h;obtain⟨p,ys,rfl,hq,q⟩:=h;obtain⟨u,rfl,rx⟩:=eS r
 cases rx
 have fin:∀ (its:List Value),Vals ys its->ys.length<=sizeLine->∀ (h':Heap) (c':Nat),(∀ b o',s.heap.get? b=some o'->h'.get? b=some o') ->
   h'.get? s.heap.objs.size=some {cls:=.type "list",dict:=none,data:=.seq its.toArray c',slots:=#[]}->EP X pins σ Q (.ref s.heap.objs.size) {s with heap:=h'}:=fun its r' hz h' c' kp e =>
  ⟨.ref s.heap.objs.size,_,I.laid (t':=s.toks) kp (Nat.le_refl _) (show ObjOk X.prog X.w _ h' _ (.lst ys) from⟨hz,its,c',r',e⟩),rfl,q _ (I.hok.fresh (Nat.le_refl _))⟩
 rcases hq with hq | hq
 ·obtain⟨its,r',pl,hz⟩:=I.list hq;have hlen:=r'.length
  obtain⟨o,ho,hc,n,hd⟩:=pl.isList;exact call_list_seq p (.inl rfl) ho hc hd (fun h' c' kp e=>fin its r' hz h' c' kp e) (by simp only[List.size_toArray]<;>omega)
 ·obtain⟨its,r',pl,hz⟩:=I.tuple hq;have hlen:=r'.length
  obtain⟨o,ho,hc,n,hd⟩:=pl;exact call_list_seq p (.inr rfl) ho hc hd (fun h' c' kp e=>fin its r' hz h' c' kp e) (by simp only[List.size_toArray]<;>omega)
theorem zJ:CallR X (.type "tuple") (fun xs H Q=>∃ p ys,xs=[.ref p]/\((SqL X.K H p ys/\∀ l,H l=none->Q (.ref l) (aI H l (.tup ys)))\/(SqT X.K H p ys/\Q (.ref p) H))):=by
 intro pins s σ H xs us Q I r h;obtain⟨p,ys,rfl,h⟩:=h;obtain⟨u,rfl,rx⟩:=eS r
 cases rx
 rcases h with⟨hq,q⟩ | ⟨hq,q⟩
 ·obtain⟨its,r',pl,hz⟩:=I.list hq;have hlen:=r'.length
  refine call_tuple_list pl.isList (fun h' kp=>?_) (by simp only[List.size_toArray]<;>omega)
  have I1:Inv X pins σ H {s with heap:=h'}:=I.kept (t':=s.toks) kp
  have I2:Inv X pins σ (aI H h'.objs.size (.tup ys)) {s with heap:=h'.push {cls:=.type "tuple",data:=.seq its.toArray}} :=
   I1.laid (t':=s.toks) (fun b o e=>Heap.get?_push_of_some _ e) (Nat.le_refl _) (show ObjOk X.prog X.w _ _ _ (.tup ys) from⟨⟨hz,NoD.new _ _ _⟩,its,r',IsTup.new _ _⟩)
  exact⟨.ref h'.objs.size,_,I2,rfl,q _ (I1.hok.fresh (Nat.le_refl _))⟩
 ·obtain⟨its,r',pl,hz⟩:=I.tuple hq;exact call_tuple_same pl ⟨.ref p,H,I,rfl,q⟩
def Lg(K:PySem.W.Frag)(T:String)(x:V)(H:Hp):Prop:=match x with
 | .str _=>T="str"
 | .int _=>T="int"
 | .ref p=>(T="list"/\∃ xs,SqL K H p xs)\/(T="tuple"/\∃ o,K.lookup p=some o/\o.cls=.type "tuple"/\o.dict=none) \/
   (T="dict"/\((∃ kvs,H p=some (.dK kvs))\/∃ kvs,H p=some (.dT kvs)))\/(T="set"/\∃ S n,H p=some (.set S n))
 | _=>False
theorem E5{pins:List (Addr×Obj)}{σ:St}{H:Hp}{s:Shared}{T:String}{x:V}{v:Value}(I:Inv X pins σ H s)(r:RelV x v)(ty:Lg X.K T x H) :
  s.TypeIs v T/\∀ a,v=.ref a->∃ ob,s.heap.get? a=some ob/\ob.dict=none:=by
 cases x with
 | str z =>
  obtain⟨t,rfl⟩:=r
  cases (show T="str" from ty)
  exact⟨typeIs_str s z t,fun _ e=>nomatch e⟩
 | int i =>
  obtain⟨t,rfl⟩:=r
  cases (show T="int" from ty)
  exact⟨typeIs_int s i t,fun _ e=>nomatch e⟩
 | ref p =>
  cases r
  rcases ty with⟨rfl,xs,hq⟩ | ⟨rfl,o,hk,hc,hd⟩ | ⟨rfl,hk⟩ | ⟨rfl,S,n,hk⟩
  ·obtain⟨its,_,pl,_⟩:=I.list hq;refine⟨pl.isList.typeIs,fun a e=>?_⟩
   cases e
   obtain⟨o,n,e,c,hd,_⟩:=pl;exact⟨o,e,hd⟩
  ·refine⟨⟨o,I.kIn p o hk,hc⟩,fun a e=>?_⟩
   cases e
   exact⟨o,I.kIn _ o hk,hd⟩
  ·have z:∃ o,s.heap.get? p=some o/\o.ExactDict:=by
    rcases hk with⟨kvs,hk⟩ | ⟨kvs,hk⟩
    ·obtain⟨_,_,_,_,o,_,_,e,ex,_⟩:=I.hok p _ hk;exact⟨o,e,ex⟩
    ·obtain⟨_,_,_,_,o,_,_,e,ex,_⟩:=I.hok p _ hk;exact⟨o,e,ex⟩
   obtain⟨o,e,ex⟩:=z;refine⟨⟨o,e,ex.1⟩,fun a e2=>?_⟩
   cases e2
   exact⟨o,e,ex.2.1⟩
  ·obtain⟨o,_,_,_,e,ex,_⟩:=I.hok p _ hk;refine⟨⟨o,e,ex.1⟩,fun a e2=>?_⟩
   cases e2
   exact⟨o,e,ex.2.1⟩
 | _=>exact False.elim ty
def BP(K:PySem.W.Frag)(T:String)(r:V->List V->Hp->VK->Prop)(to:TE)(t:TA):TE:=fun σ H Q=>to σ H fun x H1=>Lg K T x H1/\t σ H1 fun xs H2=>r x xs H2 Q
variable {o e:Expr}{es:List Expr}{to:TE}{t:TA}{name:Str}{apos cpos:Pos}{T id:String}{r:V->List V->Hp->VK->Prop}
theorem Pm(pa:PlainAttrs T)(slot:Slot T name id)(hty:typeOf (.builtin id)=pure (.type "method_descriptor"))(hm:MtR X id r)(ho:PE X o to)(ha:PA X (e::es) t)
  (hbase:attributeBase o name X.env (eval o X.env)=eval o X.env:=by rfl)
  (hfew:((backTo cpos (starEach (e::es) X.env)).all (fun x=>!x.1)&&(backToKw cpos (keywordEach [] X.env)).all (fun x=>x.1.isSome)
   && decide ((e::es).length+([]:List Keyword).length+(if ([]:List Keyword).isEmpty then 0 else 1)<30))=true:=by rfl)
  (hline:(apos.endLine==cpos.line)=true:=by rfl) (hs:starEach (e::es) X.env=(false,eval e X.env)::starEach es X.env:=by rfl) (hplain:(backTo cpos (starEach es X.env)).any (·.1)=false:=by rfl) :
  PE X (.Call (.Attribute o name apos) (e::es) [] cpos) (BP X.K T r to t):=by
 intro pins s σ H Q I h;refine wpAny_Call_method_late hbase hfew hline rfl (aM (ho pins s σ H _ I h) fun v s1 ⟨x,H1,I1,r1,ty,q1⟩=>?_);obtain⟨h1,h2⟩:=E5 I1 r1 ty;refine⟨T,id,pa,slot,hty,h1,h2,?_⟩;have hA:=ha cpos pins s1 σ H1 _ I1 q1
 rw[hs]at hA ⊢;refine Calls.callWith_builtin (by show(false||(backTo cpos (starEach es X.env)).any (·.1))=false;rw[hplain]<;>rfl) (Calls.evalArgs_plain ?_)
 exact aM hA fun us s2 ⟨vs,H2,I2,r2,q2⟩=>hm pins s2 σ H2 x vs v us Q I2 r1 r2 q2
end
end L2
namespace L2
open PySem PySem.Spec PyProof.Rows
def Ob(X:Cx)(id:String)(r:V->List V->Hp->VK->Prop):Prop :=
 ∀ (pins:List (Addr×Obj)) (s:Shared) (σ:St) (H:Hp) (x:V) (xs:List V) (v:Value) (us:List Value) (Q:VK),Inv X pins σ H s->RelV x v->Vals xs us->r x xs H Q ->
  wpAny (model X.prog X.w) X.A (call (.builtin id) (v::us)) (EP X pins σ Q) X.xe s
theorem Vals.one:∀ {x:V} {us:List Value},Vals [x] us->∃ u,us=[u]/\RelV x u
 | _,_,.cons r .nil=>⟨_,rfl,r⟩
theorem Vals.two:∀ {x y:V} {us:List Value},Vals [x,y] us->∃ u v,us=[u,v]/\RelV x u/\RelV y v
 | _,_,_,.cons r (.cons q .nil)=>⟨_,_,rfl,r,q⟩
theorem Vals.zero:∀ {us:List Value},Vals [] us->us=[]
 | _,.nil=>rfl
theorem Vals.eraseIdx:∀ {xs:List V} {us:List Value} (i:Nat),Vals xs us->Vals (xs.eraseIdx i) (us.eraseIdx i)
 | _,_,_,.nil=>.nil
 | _,_,0,.cons _ t=>t
 | _,_,i+1,.cons r t=>.cons r (Vals.eraseIdx i t)
theorem Vals.reverse{xs:List V}{us:List Value}(h:Vals xs us):Vals xs.reverse us.reverse:=by
 induction h with
 | nil=>exact .nil
 | cons r t ih=>rw[List.reverse_cons,List.reverse_cons];exact Vals.append ih (.cons r .nil)
theorem Vals.rep{xs:List V}{us:List Value}(h:Vals xs us):∀ k:Nat,Vals (List.replicate k xs).flatten (List.replicate k us).flatten
 | 0=>.nil
 | k+1=>by
  rw[List.replicate_succ,List.replicate_succ,List.flatten_cons,List.flatten_cons];exact Vals.append h (Vals.rep h k)
section
variable {X:Cx}{pins:List (Addr×Obj)}{σ:St}{H:Hp}{s:Shared}{l b:Addr}{xs ys zs:List V}
theorem Inv.lset{its its':List Value}{n:Nat}{f:Array Value->Array Value}{t':Nat}(I:Inv X pins σ H s)(hH:H l=some (.lst xs))
  (e:s.heap.get? l=some {cls:=.type "list",data:=.seq its.toArray n}) (hf:f its.toArray=its'.toArray) (hv:Vals ys its') (hz:ys.length<=sizeLine) :
  Inv X pins σ (aI H l (.lst ys)) {s with heap:=s.heap.update l (Obj.mapSeq f),toks:=t'}:=by
 have q:=PySem.IsL.update e f
 rw[hf]at q;refine I.write (x:=l) (e:=l) (by rw[hH];exact trivial) (.inl rfl) (fun b' u hb hu=>(Heap.get?_update_other s.heap (Obj.mapSeq f) (Ne.symm hb)).trans hu) ⟨_,q⟩ ?_
 exact⟨hz,its',_,hv,q⟩
theorem Inv.fresh(I:Inv X pins σ H s):H s.heap.objs.size=none:=I.hok.fresh (Nat.le_refl _)
theorem Inv.lstM(I:Inv X pins σ H s)(hH:H l=some (.lst xs)):xs.length<=sizeLine/\∃ (its:List Value) (n:Nat),Vals xs its/\xs.length=its.length/\s.heap.get? l=some {cls:=.type "list",data:=.seq its.toArray n}:=by
 obtain⟨z,its,n,r,e⟩:=I.hok l _ hH;exact⟨z,its,n,r,r.length,e⟩
theorem O0{n:Nat}(h:n<=sizeLine):Builtin.List.listTooLong n=false:=by
 unfold Builtin.List.listTooLong;exact decide_eq_false (by omega)
end
section
variable {X:Cx}
def Qv:V->List V->Hp->VK->Prop:=fun x vs H Q=>∃ l xs y,x=.ref l/\vs=[y]/\H l=some (.lst xs)/\xs.length<sizeLine/\Q .non (aI H l (.lst (xs++[y])))
theorem xH:Ob X "list.append" Qv:=by
 intro pins s σ H x vs v us Q I rx rv h;obtain⟨l,xs,y,rfl,rfl,hH,hz,q⟩:=h
 cases rx
 obtain⟨u,rfl,ru⟩:=rv.one;obtain⟨z,its,n,r,hl,e⟩:=I.lstM hH;refine call_meets F.slot_list_append ⟨_,e,rfl⟩ F.entry_list_append (F.args_list_append_2 _ _) (PySem.list_append l its.toArray n u (by rw[List.size_toArray];omega)) ⟨e,?_⟩
 refine⟨.non,_,I.lset (its':=its++[u]) hH e (by simp) (r.append (.cons ru .nil)) ?_,rfl,q⟩
 rw[List.length_append,List.length_singleton];omega
end
end L2
namespace Att
open PySem PySem.W PySem.Calls PyProof.Rows
theorem d8{P:Params}{h:Heap}:∀ (ns:List Int) (vs:List Value),WellAll P h vs (ns.map WData.int)->IntsAre vs ns:=by
 intro ns
 induction ns with
 | nil =>
  intro vs w;rw[List.map_nil]at w
  cases w
  exact .nil
 | cons n ns ih =>
  intro vs w;rw[List.map_cons]at w
  cases w with
  | cons a b =>
   cases a
   exact .cons _ _ (ih _ b)
theorem L1{l:OpenLaw}{n:Nat}(hn:l.most=some n){P:Params}{h:Heap}{args:List WData}{vals:List Value}
  (hpre:l.row.toRowW.claim.pre args=true) (hwl:WellAll P h vals args) :
  ∃ a vs ns,vals=[Value.ref a]/\args=[WData.list (ns.map WData.int)]/\h.get? a=some {cls:=.type "list",data:=.seq vs.toArray}/\IntsAre vs ns/\ns.length<=n:=by
 have hsh:WShape.hasAll [] args [.list .int]=true:=(pre_splitW hpre).1
 have hc:l.pre.holds [] {args:=args}=true:=(pre_splitW hpre).2
 obtain⟨d,r,rfl,h1,h2⟩:=hasAllW_cons hsh;obtain rfl:=hasAllW_nil h2;obtain⟨xs,rfl,h3⟩:=hasW_list h1;obtain⟨ns,rfl⟩:=items_int h3;have hlen:ns.length<=n:=by
  unfold OpenLaw.pre at hc;have h4:(WTm.not (.lt (.lit (.int (n:Int))) (.len (.arg 0)))).holds [] {args:=[.list (ns.map .int)]}=true:=by
   have h4:=(holds_andW hc).1
   rw[hn]at h4;exact h4
  have h5:=condW_of h4 (w_not (w_lt w_lit (w_len_list (w_arg rfl))))
  rw[List.length_map]at h5;refine Nat.le_of_not_lt fun q=>?_;have q':(n:Int)<((ns.length:Nat):Int):=by omega
  first
   | (rw[decide_eq_true q']at h5;exact absurd h5 (by decide))
   | (simp at h5;omega)
 cases hwl with
 | cons w1 w2 =>
  cases w2
  cases w1 with
  | list ho hall=>exact⟨_,_,ns,rfl,rfl,ho,d8 ns _ hall,hlen⟩
theorem W0(l:OpenLaw)(args:List WData):l.row.toRowW.claim.post args (.bool true) args=true :=
 postW_of (r:=l.row.toRowW) (X:=(true==true))
  (show WShape.has [] (.bool true) .bool=true by first | rfl | decide | simp[WShape.has,WShape.arms,WShape.armsAll])
  (show(WTm.eq .res (.lit (.bool true))).value [] {args:=args,res:=some (.bool true),after:=args}=some (.bool (true==true)) from w_eq_bool (w_res rfl) w_lit) rfl
theorem attach_call{l:OpenLaw}{n:Nat}{q:Program}{loose:List Str}{XP:(Str->Option Value)->Heap->Prop}{YP:World->Heap->Prop}{d:DefRec}
  (hn:l.most=some n) (hdf:d.params.defaults=[])
  (call:∀ (w:World) (s₀ s₁:Shared) (mg mb:Str->Option Value) (fa:Addr) (o:Obj) (pm cd doc:Value) (a:Addr) (vs:List Value) (ns:List Int),
   Ground q loose [] XP w s₀ mg mb s₁.heap->YP w s₁.heap ->
   s₁.heap.get? fa=some o->o.data=.func (docDef d.name d.params d.body d.scope pm cd doc)->s₁.heap.CodeRec cd d.name->mg d.name=some (.ref fa) ->
   s₁.heap.get? a=some {cls:=.type "list",data:=.seq vs.toArray}->IntsAre vs ns->ns.length<=n->s₁.gens=#[] ->
   codeAny (model l.prog w) callerA (.call (.ref fa) ⟨[.ref a],[]⟩) (fun r s'=>r=.ok (.ret (.bool true))/\OldK s₁.heap s'.heap/\s'.os=s₁.os/\AllBare s'.gens) s₁) :
  WalkO q loose XP YP l.row.toRowW d [] (fun f vs=>PySem.call f vs):=by
 intro w s₀ s₁ mg mb G Y fa o pm cd doc dV kV ho hd hcd hD hmg hg args vals as hpre hlay hrd hwl hlo;obtain rfl:dV=.none:=Dflts.none hD hdf;obtain rfl:kV=.none:=Dflts.noKw hD;obtain⟨a,vs,ns,rfl,rfl,hobj,hints,hlen⟩:=L1 hn hpre hwl;refine enter_call (codeAny_mono (call w s₀ s₁ mg mb fa o pm cd doc a vs ns G Y ho (fd_plain hd) hcd hmg hobj hints hlen hg) fun r s' hq=>?_);obtain⟨rfl,h2,h3,h4⟩:=hq;exact⟨.inl ⟨.bool true,.bool true,[],rfl,fun _=>rfl,.bool true,W0 l _,fun _=>⟨List.Pairwise.nil,fun _ hm=>(nomatch hm)⟩⟩,h2,h3,h4⟩
end Att
namespace L2
open PySem PySem.Spec PyProof.Rows
theorem rD:∀ {vs:List Value} {ns:List Int},IntsAre vs ns->Vals (ns.map V.int) vs
 | _,_,.nil=>.nil
 | _,_,.cons n t h=>.cons ⟨t,rfl⟩ (rD h)
def Ch(H:Hp):Prop:=∀ b,H b=none\/∃ o xs,H b=some (.frz o (.lst xs))
theorem Qh{P:Program}{w:World}{K:PySem.W.Frag}{mg mb:Str->Option Value}{CX:fW}{k:Nat}{fa a:Addr}{fd:FuncData}{x:Str}{sp:Sp}{s₁:Shared}{vs:List Value}{ns:List Int}
  (KX:K.In s₁.heap) (hns:s₁.heap.Ns mainGlobals mg) (hb:s₁.heap.Ns builtinsNs mb) (hbb:∀ x:Str,x≠"__name__"->mb x=bootBuiltins x) (hlim:s₁.heap.NoLimit) (hg:s₁.gens=#[])
  (ha:s₁.heap.get? a=some {cls:=.type "list",data:=.seq vs.toArray}) (hi:IntsAre vs ns) (hl:ns.length<=sizeLine) (hr:Room k callerA)
  (F:∀ base:Heap,K.In base->base.Ns mainGlobals mg->FnOk P w K mg base CX k fa fd [x] sp) (hbind:∀ (s:Shared) (u:Value),BindsTo s fd ⟨[u],[]⟩ [(x,u)])
  (hsp:∀ H:Hp,Ch H->SqL K H a (ns.map V.int)->sp [.ref a] H (fun v _=>v=.bl true) fun _ _ _=>False)
  (hCX:∀ H e s',CX [] H s₁ (fun _ _ _=>False) e s'->False) :
  codeAny (model P w) callerA (.call (.ref fa) ⟨[.ref a],[]⟩) (fun r s'=>r=.ok (.ret (.bool true))/\OldK s₁.heap s'.heap/\s'.os=s₁.os/\AllBare s'.gens) s₁:=by
 have rv:=rD hi
 have lenV:=hi.length
 -- from an abstract heap in which nothing but the script may be tracked
 have core:∀ H:Hp,Ch H->SqL K H a (ns.map V.int)->HOk P w H s₁.heap->(∀ b,H b≠none->b=a)->(H a≠none->K.lookup a=none) ->
   codeAny (model P w) callerA (.call (.ref fa) ⟨[.ref a],[]⟩) (fun r s'=>r=.ok (.ret (.bool true))/\OldK s₁.heap s'.heap/\s'.os=s₁.os/\AllBare s'.gens) s₁:=by
  intro H hO hS hok hA hK;have base_of:∀ {b:Addr} {o:Obj},s₁.heap.get? b=some o->H b=none->(iT s₁.heap H).get? b=some o:=fun e n=>Rk e n
  have noA:∀ {b:Addr} {o:Obj} {es:Array DictEntry} {ep:Nat},s₁.heap.get? b=some o->o.data=.dict es ep->H b=none:=fun {b o es ep} e d=>by
   cases q:H b with
   | none=>rfl
   | some u =>
    have e':b=a:=hA b (by rw[q];simp)
    subst e';rw[ha]at e;cases e;have d':Data.seq vs.toArray _=Data.dict es ep:=d
    cases d'
  have nsK:∀ {b:Addr} {m:Str->Option Value},s₁.heap.Ns b m->(iT s₁.heap H).Ns b m:=fun {b m} ⟨o,es,ep,e,d,r⟩=>⟨o,es,ep,base_of e (noA e d),d,r⟩
  have hKb:K.In (iT s₁.heap H):=fun b o e=>base_of (KX b o e) (by
   cases q:H b with
   | none=>rfl
   | some u =>
    have e':b=a:=hA b (by rw[q];simp)
    subst e';rw[hK (by rw[q];simp)]at e;cases e)
  have hM:Mod K mg (iT s₁.heap H):=⟨hKb,nsK hns,⟨mb,nsK hb,hbb⟩,let ⟨mc,h1,h2⟩:=hlim;⟨mc,nsK h1,h2⟩⟩
  have e0:Env0 P w K mg (iT s₁.heap H) callerA [] s₁ H:=⟨rfl,hM,fun b o e=>P1 e,Nat.le_of_eq (CO _ _),trivial,fun b hb=>absurd (show b∈([]:List Addr) from hb) (by simp),hok,.of_eq hg⟩
  refine codeAny_mono ((F _ hKb (nsK hns)).run callerA [] s₁ H ⟨[.ref a],[]⟩ [.ref a] [.ref a] _ _ hr e0 (hbind s₁ (.ref a)) (.cons rfl .nil) (hsp H hO hS)) fun r s' h=>?_
  cases r with
  | error e=>exact(hCX H e s' h).elim
  | ok fl =>
   cases fl with
   | next=>exact False.elim h
   | brk=>exact False.elim h
   | cont=>exact False.elim h
   | ret u =>
    obtain⟨v,H',os,bare,un,hok',r',q⟩:=h;have q':v=.bl true:=q
    subst q';obtain rfl:u=Value.bool true:=r';refine⟨rfl,OldK.of_keep fun b o e=>?_,os,bare⟩
    cases q:H b with
    | none=>exact un.keep b o e q (by intro z;exact absurd (show b∈([]:List Addr) from z) (by simp)) (by simp)
    | some u =>
     rcases hO b with z | ⟨ob,xs,z⟩
     ·rw[q]at z;cases z
     ·have z2:=un.frzs b ob _ z
      obtain⟨e1,_⟩:=hok b _ z;obtain⟨e2,_⟩:=hok' b _ z2;rw[e]at e1;cases e1;exact e2
 cases hk:K.lookup a with
 | some o =>
  -- the script is one of the module's own objects
  have e:=KX a o hk
  rw[ha]at e
  cases e
  refine core (fun _=>none) (fun _=>.inl rfl) (.inr ⟨_,vs.toArray,_,hk,rfl,rfl,rfl,by rw[List.size_toArray,lenV];exact hl,by simpa using rv⟩) (fun b u z=>by have z':(none:Option HO)=some u:=z;cases z') (fun b z=>absurd rfl z) fun z=>absurd rfl z
 | none =>
  refine core (fun b=>if b=a then some (.frz {cls:=.type "list",data:=.seq vs.toArray} (.lst (ns.map V.int))) else none) (fun b=>?_) (.inl (.inr ⟨{cls:=.type "list",data:=.seq vs.toArray},if_pos rfl⟩)) (fun b u z=>?_) (fun b z=>?_) fun _=>hk
  ·by_cases hb:b=a
   ·exact .inr ⟨_,_,if_pos hb⟩
   ·exact .inl (if_neg hb)
  ·by_cases hb:b=a
   ·have z':=(if_pos hb).symm.trans z
    cases z'
    subst hb;exact⟨ha,by rw[List.length_map];exact hl,vs,_,rv,ha⟩
   ·have z':=(if_neg hb).symm.trans z
    cases z'
  ·by_cases hb:b=a
   ·exact hb
   ·exact absurd (if_neg hb) z
end L2
namespace L2
open PySem PySem.Spec PyProof.Rows
theorem walk_of{l:PySem.W.OpenLaw}{n k:Nat}{q:Program}{loose:List Str}{XP:(Str->Option Value)->Heap->Prop}{YP:World->Heap->Prop}{d:DefRec}{K:Params->PySem.W.Frag}{CX:World->fW}{sp:World->Sp}{x:Str}
  (hn:l.most=some n) (hn2:n<=sizeLine) (hdf:d.params.defaults=[]) (hr:Room k callerA)
  (hY:∀ (w:World) (h:Heap),YP w h->(K w.params).In h)
  (F:∀ (w:World) (mg:Str->Option Value) (fa:Addr) (h:Heap),(K w.params).In h->h.Ns mainGlobals mg->mg d.name=some (.ref fa) ->
   ∃ fd:FuncData,(∀ (s:Shared) (u:Value),BindsTo s fd ⟨[u],[]⟩ [(x,u)]) /\
    ∀ base:Heap,(K w.params).In base->base.Ns mainGlobals mg->FnOk l.prog w (K w.params) mg base (CX w) k fa fd [x] (sp w))
  (hsp:∀ (w:World) (H:Hp) (a:Addr) (ns:List Int),ns.length<=n->Ch H->SqL (K w.params) H a (ns.map V.int)->sp w [.ref a] H (fun v _=>v=.bl true) fun _ _ _=>False)
  (hCX:∀ (w:World) (H:Hp) (s:Shared) (e:Value) (s':Shared),CX w [] H s (fun _ _ _=>False) e s'->False) :
  PySem.W.WalkO q loose XP YP l.row.toRowW d [] (fun f vs=>PySem.call f vs):=by
 refine Att.attach_call hn hdf fun w s₀ s₁ mg mb fa o pm cd doc a vs ns G Y ho hd hcd hmg hobj hints hlen hg=>?_;have KX:=hY w _ Y
 obtain⟨fd,hb,hF⟩:=F w mg fa _ KX G.T.g hmg;exact Qh KX G.T.g G.T.b G.T.builtins G.T.nolimit hg hobj hints (Nat.le_trans hlen hn2) hr hF hb (fun H hO hS=>hsp w H a ns hlen hO hS) fun H e s'=>hCX w H s₁ e s'
end L2
namespace L2
open PySem PySem.Spec PyProof.Rows
def cH(s:Stmt):Arguments:=match s with
 | .FunctionDef _ a _ _ _ _ _ _ _ _=>a
 | _=>{posonlyargs:=[],args:=[],vararg:=none,kwonlyargs:=[],kw_defaults:=[],kwarg:=none,defaults:=[]}
def cA(s:Stmt):List Stmt:=match s with
 | .FunctionDef _ _ b _ _ _ _ _ _ _=>b
 | _=>[]
def aY(s:Stmt):Scope:=match s with
 | .FunctionDef _ _ _ _ _ _ sc _ _ _=>sc
 | _=>{kind:=.function,names:=[],isGenerator:=false,isCoroutine:=false}
abbrev aV:fW:=fun _ _ _ _ _ _=>False
abbrev E0:XK:=fun _ _ _=>False
theorem Ox{X:Cx}:uQ aV X E0:=fun _ _ _ _ _ _ _ h=>h.elim
structure Fun (K:PySem.W.Frag) (x qual:Str) (st:Stmt) (f:Addr) (fd:FuncData):Prop where
 ex:∃ (oc:Value) (od:Option Addr) (kV doc pm:Value) (an:Option Addr) (cdv ct:Value) (osl:Array (Option Value)),
  fd=PySem.W.fnOf x qual (cH st) (cA st) (aY st) .none kV doc pm an cdv ct/\K.lookup f=some ⟨oc,od,.func fd,osl⟩/\PySem.W.codeIn K cdv qual=true
 kp:PySem.W.keepIn K (.ref f)=true
section
variable {P:Program}{w:World}{K:PySem.W.Frag}{mg:Str->Option Value}{base:Heap}
theorem Fun.ok{x qual:Str}{st:Stmt}{f:Addr}{fd:FuncData}{N ps:List Str}{k:Nat}{sp:Sp}(F:Fun K x qual st f fd)(S:FnScope N ps (aY st))(len:∀ vs H Q E,sp vs H Q E->vs.length=ps.length)
  (hbody:∀ (cdv:Value) (A:Around) (outer:List Env) (s:Shared) (H:Hp) (vs:List V) (Q:VK) (E:XK),Room k (A.deeper (envOfC qual (aY st) s.heap.objs.size f cdv))->sp vs H Q E ->
   ∃ t,PSs (kC aV P w K mg base N qual (aY st) f cdv A outer s H E).nox (cA st) t/\t {nx:=fun _ H'=>Q .non H',rt:=Q} (start N vs) H):FnOk P w K mg base aV (k+1) f fd ps sp:=by
 obtain⟨oc,od,kV,doc,pm,an,cdv,ct,osl,rfl,lk,hcd⟩:=F.ex;refine N8 lk hcd S len fun A outer s H vs Q E hr hsp=>?_;obtain⟨t,h,q⟩:=hbody cdv A outer s H vs Q E hr hsp;exact⟨t,h.nox,q⟩
theorem Fun.binds{x qual:Str}{st:Stmt}{f:Addr}{fd:FuncData}{ps:List Str}(F:Fun K x qual st f fd)
  (h:∀ (kV doc pm:Value) (an:Option Addr) (cdv ct:Value) (us:List Value),us.length=ps.length->bindArgs (PySem.W.fnOf x qual (cH st) (cA st) (aY st) .none kV doc pm an cdv ct) ⟨us,[]⟩=pure (ps.zip us)):Binds K fd ps []:=by
 obtain⟨oc,od,kV,doc,pm,an,cdv,ct,osl,rfl,lk,hcd⟩:=F.ex;exact .all (h kV doc pm an cdv ct)
theorem cT{x qual:Str}{st:Stmt}{f:Addr}{oc:Value}{od an:Option Addr}{osl:Array (Option Value)}{kV doc pm cdv ct:Value}(l:K.lookup f=some ⟨oc,od,.func (PySem.W.fnOf x qual (cH st) (cA st) (aY st) .none kV doc pm an cdv ct),osl⟩)
  (c:PySem.W.codeIn K cdv qual=true) (k:PySem.W.keepIn K (.ref f)=true):Fun K x qual st f (PySem.W.fnOf x qual (cH st) (cA st) (aY st) .none kV doc pm an cdv ct):=⟨⟨oc,od,kV,doc,pm,an,cdv,ct,osl,rfl,l,c⟩,k⟩
end
theorem B0{A B:Prop}(h:B):if false=true then A else B:=by
 rw[if_neg Bool.false_ne_true];exact h
theorem Qj{A B:Prop}(h:A):if true=true then A else B:=by
 rw[if_pos rfl];exact h
def Same(H H':Hp):Prop:=∀ b o,H b=some o->H' b=some o
theorem Same.refl(H:Hp):Same H H:=fun _ _ h=>h
theorem Same.trans{H H1 H2:Hp}(a:Same H H1)(b:Same H1 H2):Same H H2:=fun c o h=>b c o (a c o h)
theorem Same.free{H H':Hp}(e:Same H H'){l:Addr}(h:H' l=Option.none):H l=Option.none:=by
 cases q:H l with
 | none=>rfl
 | some o =>
  rw[e l o q]at h
  cases h
theorem Same.seq{K:PySem.W.Frag}{H H':Hp}{a:Addr}{xs:List V}(e:Same H H')(h:SqL K H a xs):SqL K H' a xs:=by
 rcases h with (h | ⟨o,h⟩) | h
 ·exact .inl (.inl (e _ _ h))
 ·exact .inl (.inr ⟨o,e _ _ h⟩)
 ·exact .inr h
end L2
namespace L2
open PySem PySem.Spec PyProof.Rows
section
variable {κ:Type}[DecidableEq κ]
def bV(kvs:List (κ×V))(k:κ):Option V:=(kvs.find? fun kv=>decide (kv.1=k)).map (·.2)
def bP(kvs:List (κ×V))(k:κ)(v:V):List (κ×V) :=
 if (kvs.any fun kv=>decide (kv.1=k))=true then kvs.map (fun kv=>if kv.1=k then (kv.1,v) else kv) else kvs++[(k,v)]
def Jv(kvs:List (κ×V))(k:κ):List (κ×V):=kvs.filter fun kv=>decide (kv.1≠k)
theorem jS{p:κ×V}{r:List (κ×V)}{k:κ}(e:p.1=k):bV (p::r) k=some p.2:=by simp[bV,List.find?_cons,e]
theorem kI{p:κ×V}{r:List (κ×V)}{k:κ}(e:¬ p.1=k):bV (p::r) k=bV r k:=by simp[bV,List.find?_cons,e]
theorem zB(k:κ):∀ kvs:List (κ×V),(kvs.any fun kv=>decide (kv.1=k))=(bV kvs k).isSome
 | []=>rfl
 | p::r=>by
  rw[List.any_cons]
  by_cases e:p.1=k
  ·simp only[jS e,decide_eq_true e,Bool.true_or,Option.isSome_some]
  ·rw[kI e,decide_eq_false e,Bool.false_or];exact zB k r
theorem rJ(kvs:List (κ×V))(k:κ)(v:V):(bP kvs k v).length<=kvs.length+1:=by
 unfold bP
 split
 ·rw[List.length_map];omega
 ·rw[List.length_append,List.length_cons,List.length_nil];omega
theorem RelO.isSome_eq{o:Option V}{u:Option Value}(r:RelO o u):o.isSome=u.isSome:=by
 cases o with
 | none=>cases u with
  | none=>rfl
  | some _=>exact(show False from r).elim
 | some _=>cases u with
  | none=>exact(show False from r).elim
  | some _=>rfl
theorem RelO.getD{o:Option V}{u:Option Value}{d:V}{d':Value}(r:RelO o u)(rd:RelV d d'):RelV (o.getD d) (u.getD d'):=by
 cases o with
 | none=>cases u with
  | none=>exact rd
  | some _=>exact(show False from r).elim
 | some _=>cases u with
  | none=>exact(show False from r).elim
  | some _=>exact r
theorem KV.val{kvs:List (κ×V)}{vs:List (κ×Value)}(r:KV kvs vs)(k:κ):RelO (bV kvs k) (valueAt vs k):=by
 unfold KV at r
 induction r with
 | nil=>exact True.intro
 | @cons p q ps qs h t ih =>
  obtain⟨h1,h2⟩:=h
  by_cases e:p.1=k
  ·have e':q.1=k:=h1.symm.trans e
   have b:valueAt (q::qs) k=some q.2:=by simp[valueAt,List.find?_cons,e']
   rw[jS e,b];exact h2
  ·have e':¬ q.1=k:=fun z=>e (h1.trans z)
   have b:valueAt (q::qs) k=valueAt qs k:=by simp[valueAt,List.find?_cons,e']
   rw[kI e,b];exact ih
theorem KV.any{kvs:List (κ×V)}{vs:List (κ×Value)}(r:KV kvs vs)(k:κ):(kvs.any fun kv=>decide (kv.1=k))=vs.any fun kv=>decide (kv.1=k):=by
 unfold KV at r
 induction r with
 | nil=>rfl
 | cons h t ih=>rw[List.any_cons,List.any_cons,ih,h.1]
theorem KV.repl{kvs:List (κ×V)}{vs:List (κ×Value)}(r:KV kvs vs)(k:κ){y:V}{u:Value}(ry:RelV y u) :
  KV (kvs.map fun kv=>if kv.1=k then (kv.1,y) else kv) (vs.map fun kv=>if kv.1=k then (kv.1,u) else kv):=by
 unfold KV at r ⊢
 induction r with
 | nil=>exact .nil
 | @cons p q ps qs h t ih =>
  rw[List.map_cons,List.map_cons];refine .cons ?_ ih;obtain⟨h1,h2⟩:=h
  by_cases e:p.1=k
  ·rw[if_pos e,if_pos (h1.symm.trans e)];exact⟨h1,ry⟩
  ·rw[if_neg e,if_neg (fun z=>e (h1.trans z))];exact⟨h1,h2⟩
theorem KV.put{kvs:List (κ×V)}{vs:List (κ×Value)}(r:KV kvs vs)(k:κ){y:V}{u:Value}(ry:RelV y u):KV (bP kvs k y) (stored vs k u):=by
 unfold bP stored;rw[r.any k]
 by_cases e:(vs.any fun kv=>decide (kv.1=k))=true
 ·rw[if_pos e,if_pos e];exact r.repl k ry
 ·rw[if_neg e,if_neg e];exact Paired.snoc r ⟨rfl,ry⟩
theorem KV.drop{kvs:List (κ×V)}{vs:List (κ×Value)}(r:KV kvs vs)(k:κ):KV (Jv kvs k) (without vs k):=by
 unfold KV at r ⊢;unfold Jv without
 induction r with
 | nil=>exact .nil
 | @cons p q ps qs h t ih =>
  obtain⟨h1,h2⟩:=h;rw[List.filter_cons,List.filter_cons]
  by_cases e:p.1=k
  ·have a:¬ decide (p.1≠k)=true:=by simp[e]
   have b:¬ decide (q.1≠k)=true:=by simp[h1.symm.trans e]
   rw[if_neg a,if_neg b];exact ih
  ·have e':¬ q.1=k:=fun z=>e (h1.trans z)
   have a:decide (p.1≠k)=true:=by simp[e]
   have b:decide (q.1≠k)=true:=by simp[e']
   rw[if_pos a,if_pos b];exact .cons ⟨h1,h2⟩ ih
theorem KV.keys{kvs:List (κ×V)}{vs:List (κ×Value)}(r:KV kvs vs):kvs.map (·.1)=vs.map (·.1):=by
 unfold KV at r
 induction r with
 | nil=>rfl
 | cons h t ih=>rw[List.map_cons,List.map_cons,ih,h.1]
theorem KV.length{kvs:List (κ×V)}{vs:List (κ×Value)}(r:KV kvs vs):kvs.length=vs.length:=Paired.length r
end
theorem qC{P:Program}{w:World}{k:aH}{u:Value}(r:RelV (kV k) u):(bD P w).is k u=true:=by
 cases k with
 | inl i=>obtain⟨t,e⟩:=(show ∃ t,u=Value.int i t from r);subst e;exact Vw P w i t
 | inr x=>obtain⟨t,e⟩:=(show ∃ t,u=Value.str x t from r);subst e;exact Xx P w x t
theorem uG{P:Program}{w:World}:∀ {ks:List aH} {us:List Value},Vals (ks.map kV) us->ItemsAre (bD P w) ks us
 | [],_,r=>by rw[List.map_nil]at r;cases r;exact .nil
 | k::ks,_,r=>by
  rw[List.map_cons]at r
  cases r with
  | cons h t=>exact .cons (qC h) (uG t)
abbrev KT(H:Hp):List (List aH×V)->List (List aH×Addr×Value)->Prop:=Paired fun p q=>p.1=q.1/\H q.2.1=some (.tup (p.1.map kV))/\RelV p.2 q.2.2
theorem KT.val{H:Hp}{kvs:List (List aH×V)}{xs:List (List aH×Addr×Value)}(r:KT H kvs xs)(k:List aH):RelO (bV kvs k) ((atKey xs k).map (·.2)):=by
 induction r with
 | nil=>exact True.intro
 | @cons p q ps qs h t ih =>
  obtain⟨h1,_,h2⟩:=h
  by_cases e:p.1=k
  ·have e':q.1=k:=h1.symm.trans e
   have b:atKey (q::qs) k=some q.2:=by simp[atKey,List.find?_cons,e']
   rw[jS e,b];exact h2
  ·have e':¬ q.1=k:=fun z=>e (h1.trans z)
   have b:atKey (q::qs) k=atKey qs k:=by simp[atKey,List.find?_cons,e']
   rw[kI e,b];exact ih
theorem KT.repl{H:Hp}{kvs:List (List aH×V)}{xs:List (List aH×Addr×Value)}(r:KT H kvs xs)(k:List aH){y:V}{u:Value}(ry:RelV y u) :
  KT H (kvs.map fun kv=>if kv.1=k then (kv.1,y) else kv) (xs.map (putAt k u)):=by
 induction r with
 | nil=>exact .nil
 | @cons p q ps qs h t ih =>
  rw[List.map_cons,List.map_cons];refine .cons ?_ ih;obtain⟨h1,h2,h3⟩:=h;unfold putAt
  by_cases e:p.1=k
  ·rw[if_pos e,if_pos (h1.symm.trans e)];exact⟨h1,h2,ry⟩
  ·rw[if_neg e,if_neg (fun z=>e (h1.trans z))];exact⟨h1,h2,h3⟩
theorem KT.put{H:Hp}{kvs:List (List aH×V)}{xs:List (List aH×Addr×Value)}(r:KT H kvs xs)(k:List aH){b:Addr}{y:V}{u:Value}(hb:H b=some (.tup (k.map kV)))(ry:RelV y u) :
  KT H (bP kvs k y) (storedH xs k b u):=by
 have e:(kvs.any fun kv=>decide (kv.1=k))=(atKey xs k).isSome:=by
  rw[zB,(r.val k).isSome_eq,Option.isSome_map]
 unfold bP storedH;rw[e]
 by_cases q:(atKey xs k).isSome=true
 ·rw[if_pos q,if_pos q];exact r.repl k ry
 ·rw[if_neg q,if_neg q];exact Paired.snoc r ⟨rfl,hb,ry⟩
theorem KT.keeps{H H':Hp}{kvs:List (List aH×V)}{xs:List (List aH×Addr×Value)}(r:KT H kvs xs)(ht:∀ b ys,H b=some (.tup ys)->H' b=some (.tup ys)):KT H' kvs xs :=
 Paired.mapP r fun _ _ z=>⟨z.1,ht _ _ z.2.1,z.2.2⟩
section
variable {P:Program}{w:World}{H:Hp}{h:Heap}{a:Addr}
theorem Kg{u:HO}(ok:HOk P w H h)(e:Rd H a u):ObjOk P w H h a u:=e.ok ok
theorem wF{kvs:List (aH×V)}(ok:HOk P w H h)(e:Rd H a (.dK kvs)):kvs.length<=sizeLine/\(a==sysModules)=false/\∃ vs,KV kvs vs/\h.DictOf (bD P w) a vs :=
 show ObjOk P w H h a (.dK kvs) from Kg ok e
theorem uV{kvs:List (aH×V)}(ok:HOk P w H h)(e:H a=some (.dK kvs)):kvs.length<=sizeLine/\(a==sysModules)=false/\∃ vs,KV kvs vs/\h.DictOf (bD P w) a vs:=wF ok (.inl e)
theorem As{ks:List aH}(ok:HOk P w H h)(e:H a=some (.tup (ks.map kV))):(tupleKind (bD P w)).is h ks a:=by
 obtain⟨_,its,r,o,h1,h2,n,h3⟩:=(show ObjOk P w H h a (.tup (ks.map kV)) from ok a _ e)
 exact⟨o,its.toArray,n,h1,h2,h3,by simpa using uG r⟩
theorem qS{kvs:List (List aH×V)}(ok:HOk P w H h)(e:Rd H a (.dT kvs)):kvs.length<=sizeLine/\(a==sysModules)=false /\
  ∃ xs,KT H kvs xs/\h.DictOfH (tupleKind (bD P w)) a xs:=by
 obtain⟨z,y,xs,r,o,es,ep,h1,h2,h3,h4,h5⟩:=(show ObjOk P w H h a (.dT kvs) from Kg ok e)
 refine⟨z,y,xs,r,o,es,ep,h1,h2,h3,h4,fun x hx=>?_,h5⟩;have all:∀ {l:List (List aH×V)} {m:List (List aH×Addr×Value)},KT H l m->∀ x∈m,(tupleKind (bD P w)).is h x.1 x.2.1:=by
  intro l m q
  induction q with
  | nil=>intro x hx;exact nomatch hx
  | @cons p q ps qs hq t ih =>
   intro x hx;rcases List.mem_cons.mp hx with e | hx
   ·subst e;exact As ok (by rw[<- hq.1];exact hq.2.1)
   ·exact ih x hx
 exact all r x hx
theorem B3{kvs:List (List aH×V)}(ok:HOk P w H h)(e:H a=some (.dT kvs)):kvs.length<=sizeLine/\(a==sysModules)=false /\
  ∃ xs,KT H kvs xs/\h.DictOfH (tupleKind (bD P w)) a xs:=qS ok (.inl e)
end
def DGet(H:Hp)(a:Addr)(y:V)(r:Option V):Prop :=
 (∃ kvs k,Rd H a (.dK kvs)/\y=kV k/\r=bV kvs k)\/∃ kvs k b,Rd H a (.dT kvs)/\y=.ref b/\H b=some (.tup (k.map kV))/\r=bV kvs k
def DPut(H:Hp)(a:Addr)(y v:V)(H':Hp):Prop :=
 (∃ kvs k,H a=some (.dK kvs)/\y=kV k/\kvs.length<sizeLine/\H'=aI H a (.dK (bP kvs k v))) \/
 ∃ kvs k b,H a=some (.dT kvs)/\y=.ref b/\H b=some (.tup (k.map kV))/\kvs.length<sizeLine/\H'=aI H a (.dT (bP kvs k v))
theorem DGet.k{H:Hp}{a:Addr}{kvs:List (aH×V)}{k:aH}(e:H a=some (.dK kvs)):DGet H a (kV k) (bV kvs k):=.inl ⟨kvs,k,.inl e,rfl,rfl⟩
theorem DGet.t{H:Hp}{a b:Addr}{kvs:List (List aH×V)}{k:List aH}(e:H a=some (.dT kvs))(eb:H b=some (.tup (k.map kV))):DGet H a (.ref b) (bV kvs k):=.inr ⟨kvs,k,b,.inl e,rfl,eb,rfl⟩
theorem DPut.k{H:Hp}{a:Addr}{kvs:List (aH×V)}{k:aH}{v:V}(e:H a=some (.dK kvs))(hl:kvs.length<sizeLine):DPut H a (kV k) v (aI H a (.dK (bP kvs k v))):=.inl ⟨kvs,k,e,rfl,hl,rfl⟩
theorem DPut.t{H:Hp}{a b:Addr}{kvs:List (List aH×V)}{k:List aH}{v:V}(e:H a=some (.dT kvs))(eb:H b=some (.tup (k.map kV)))(hl:kvs.length<sizeLine) :
  DPut H a (.ref b) v (aI H a (.dT (bP kvs k v))):=.inr ⟨kvs,k,b,e,rfl,eb,hl,rfl⟩
section
variable {X:Cx}{pins:List (Addr×Obj)}{σ:St}{H:Hp}{s:Shared}{a:Addr}{y v:V}{u r:Value}{o:Option V}{A:Around}{E:Value->Shared->Prop}
theorem Inv.big(I:Inv X pins σ H s):sysModules<s.heap.objs.size:=by
 have h:mainGlobals<s.heap.objs.size:=(I.mod.glob.keeps I.bk).lt
 exact Nat.lt_trans (by decide) h
theorem Jt{Q:Value->Shared->Prop}(hu:A.units+1<cLine)(I:Inv X pins σ H s)(g:DGet H a y (some v))(ry:RelV y u)(h:∀ w' s',Inv X pins σ H s'->RelV v w'->Q w' s') :
  wpAny (model X.prog X.w) A (getItem (.ref a) u) Q E s:=by
 rcases g with⟨kvs,k,e,ey,l⟩ | ⟨kvs,k,b,e,ey,eb,l⟩
 ·subst ey;obtain⟨z,hd,vs,rel,dd⟩:=wF I.hok e;obtain⟨w',hw,rw'⟩:=RelO.some_of (v:=v) (o:=valueAt vs k) (by rw[l];exact rel.val k)
  exact wpAny_getItem_of (qC ry) dd.mapOf hw (h w' _ (I.tok _) rw')
 ·subst ey
  cases (show u=Value.ref b from ry)
  obtain⟨z,hd,xs,rel,dd⟩:=qS I.hok e;obtain⟨w',hw,rw'⟩:=RelO.some_of (v:=v) (o:=(atKey xs k).map (·.2)) (by rw[l];exact rel.val k)
  obtain⟨p,hp,hp2⟩:=Option.map_eq_some_iff.mp hw;refine wpAny_getItem_heap (tupleKind_room_in1 hu) (As I.hok eb) dd hp ?_;rw[hp2];exact h w' _ (I.tok _) rw'
theorem iZ{h':Heap}{t':Nat}{ob:HO}(I:Inv X pins σ H s)(mu:rE (H a))(hs:Heap.SameBut a s.heap h')(he:∃ q,h'.get? a=some q)(new:ObjOk X.prog X.w (aI H a ob) h' a ob) :
  Inv X pins σ (aI H a ob) {s with heap:=h',toks:=t'} :=
 I.write (x:=a) (e:=a) mu (.inl rfl) (fun b q hb z=>(hs.2 b hb).trans z) he new
theorem Dy{P:Program}{w:World}{H':Hp}{h':Heap}{kvs:List (aH×V)}{vs:List (aH×Value)}(z:kvs.length<=sizeLine)(hd:(a==sysModules)=false)(rel:KV kvs vs)(dd:h'.DictOf (bD P w) a vs) :
  ObjOk P w H' h' a (.dK kvs):=⟨z,hd,vs,rel,dd⟩
theorem Ye{H':Hp}{Q:Unit->Shared->Prop}(hu:A.units+1<cLine)(I:Inv X pins σ H s)(g:DPut H a y v H')(ry:RelV y u)(rv:RelV v r)(h:∀ s',Inv X pins σ H' s'->Q () s') :
  wpAny (model X.prog X.w) A (setItem (.ref a) u r) Q E s:=by
 rcases g with⟨kvs,k,e,ey,l,eH⟩ | ⟨kvs,k,b,e,ey,eb,l,eH⟩
 ·subst ey eH;obtain⟨z,hd,vs,rel,dd⟩:=uV I.hok e;have hz:vs.length<=sizeLine:=by rw[<- rel.length];exact z
  have hl:(bP kvs k v).length<=sizeLine:=by have:=rJ kvs k v;omega
  refine wpAny_setItem_pairs (hsz:=hz) (qC ry) dd fun h' dd' hs=>h _ ?_;have he:∃ q,h'.get? a=some q:=let ⟨q,_,_,hq,_⟩:=dd';⟨q,hq⟩
  exact iZ I (by rw[e];exact True.intro) hs he (Dy hl hd (rel.put k rv) dd')
 ·subst ey eH
  cases (show u=Value.ref b from ry)
  obtain⟨z,hd,xs,rel,dd⟩:=B3 I.hok e;have hz:xs.length<=sizeLine:=by rw[<- Paired.length rel];exact z
  have hl:(bP kvs k v).length<=sizeLine:=by have:=rJ kvs k v;omega
  refine wpAny_setItem_heap (hsz:=hz) (tupleKind_room_in1 hu) (As I.hok eb) dd fun h' dd' hs=>h _ ?_;obtain⟨q,es,ep,hq,h2,h3,h4,_,h5⟩:=dd';refine iZ I (by rw[e];exact True.intro) hs ⟨q,hq⟩ ⟨hl,hd,_,(rel.put k eb rv).keeps fun c ys ec=>?_,q,es,ep,hq,h2,h3,h4,h5⟩
  rw[aX (rY ec e (fun z=>nomatch z))];exact ec
end
def iG(i:Expr):Prop:=∀ ov iv,subscripted i false ov iv=operate [ov,iv] (getItem ov iv)
theorem Cu{prog:Program}{w:World}{A:Around}{E:Value->Shared->Prop}{s:Shared}{env:Env}{value slice:Expr}{pos:Pos}{T id:String}{Q:Value->Shared->Prop}
  (hl:typeLookup (.type T) "__getitem__"=pure (some (.builtin id))) (hs:iG slice)
  (h:wpAny (model prog w) A (eval value env) (fun o s₁=>wpAny (model prog w) A (eval slice env) (fun i s₂=>s₂.TypeIs o T/\wpAny (model prog w) A (getItem o i) Q E s₂) E s₁) E s) :
  wpAny (model prog w) A (eval (.Subscript value slice pos) env) Q E s:=by
 refine Subscript_ (wpAny_mono h (fun o s₁ h₁=>wpAny_mono h₁ (fun i s₂ h₂=>?_) fun _ _ x=>x) fun _ _ x=>x);obtain⟨hT,h₂⟩:=h₂;unfold subscriptTail;refine wpAny_bind ?_;rw[getitemInPython_of_ne hT.not_modules];refine wpAny_bind (wpAny_specialOf hT hl ?_);have fin:wpAny (model prog w) A (subscripted slice false o i) (fun r s₃=>wpAny (model prog w) A (letTemporaryGo value o r>>=fun _=>pure r) Q E s₃) E s₂:=by
  rw[hs o i];exact wpAny_operating (wpAny_mono h₂ (fun r s₃ h₃=>wpAny_bind (wpAny_letTemporaryGo (wpAny_pure h₃))) fun _ _ x=>x)
 first
  | exact wpAny_pure (wpAny_bind fin)
  | exact wpAny_bind (wpAny_pure (wpAny_bind fin))
  | exact wpAny_bind fin
theorem Kl{X:Cx}{pins:List (Addr×Obj)}{σ:St}{H:Hp}{s:Shared}{a:Addr}{y:V}{o:Option V}(I:Inv X pins σ H s)(g:DGet H a y o):s.TypeIs (.ref a) "dict":=by
 rcases g with⟨kvs,k,e,_,_⟩ | ⟨kvs,k,b,e,_,_,_⟩
 ·obtain⟨_,_,vs,_,dd⟩:=wF I.hok e;exact dd.typeIs
 ·obtain⟨_,_,xs,_,dd⟩:=qS I.hok e;exact dd.typeIs
def BS(td ty:TE):TE:=fun σ H Q=>td σ H fun x H1=>ty σ H1 fun y H2=>∃ a v,x=.ref a/\DGet H2 a y (some v)/\Q v H2
def Ti(td ty tv:TE):TS:=fun D σ H=>tv σ H fun v H1=>td σ H1 fun x H2=>ty σ H2 fun y H3=>∃ a H4,x=.ref a/\DPut H3 a y v H4/\D.nx σ H4
section
variable {X:Cx}{o i e value:Expr}{pos pos' tpos:Pos}{td ty tv:TE}
theorem Ov(hu:X.A.units+1<cLine)(ho:PE X o td)(hi:PE X i ty)(hs:iG i):PE X (.Subscript o i pos) (BS td ty):=by
 intro pins s σ H Q I h;refine Cu PySem.F.slot_dict_getitem.lookup hs (aM (ho pins s σ H _ I h) fun u s1 ⟨x,H1,I1,rx,q1⟩=>aM (hi pins s1 σ H1 _ I1 q1) fun iv s2 ⟨y,H2,I2,ry,a,v,ex,g,q2⟩=>?_);subst ex;obtain rfl:u=Value.ref a:=rx;exact⟨Kl I2 g,Jt hu I2 g ry fun w' s3 I3 rw'=>⟨v,H2,I3,rw',q2⟩⟩
theorem Oy(hu:X.A.units+1<cLine)(ho:PE X o td)(hi:PE X i ty)(hv:PE X value tv)(hs:swapsWith value (some (.Subscript o i pos')) pos.line X.env=pure false) :
  PS X (.Assign [.Subscript o i pos'] value pos) (Ti td ty tv):=by
 intro pins s σ H D I h;refine wpAny_Assign_Subscript (aM (hv pins s σ H _ I h) fun r s1 ⟨v,H1,I1,rv,q1⟩=>aM (ho pins s1 σ H1 _ I1 q1) fun u s2 ⟨x,H2,I2,rx,q2⟩=>aM (hi pins s2 σ H2 _ I2 q2) fun iv s3 ⟨y,H3,I3,ry,a,H4,ex,g,q3⟩=>?_) hs;subst ex;obtain rfl:u=Value.ref a:=rx;exact Ye hu I3 g ry rv fun s4 I4=>⟨σ,H4,I4,q3⟩
end
theorem BJ{P:Program}{w:World}{H:Hp}(h:Heap)(hb:sysModules<h.objs.size):ObjOk P w H (h.push {cls:=.type "dict",data:=.dict #[]}) h.objs.size (.dK []) :=
 ⟨Nat.zero_le _,beq_eq_false_iff_ne.mpr (Ne.symm (Nat.ne_of_lt hb)),[],.nil,Heap.DictOf.new h⟩
theorem Qr{P:Program}{w:World}{H:Hp}(h:Heap)(hb:sysModules<h.objs.size):ObjOk P w H (h.push {cls:=.type "dict",data:=.dict #[]}) h.objs.size (.dT []) :=
 ⟨Nat.zero_le _,beq_eq_false_iff_ne.mpr (Ne.symm (Nat.ne_of_lt hb)),[],.nil,_,#[],0,Heap.get?_push_size _ rfl,⟨rfl,rfl,rfl⟩,rfl,rfl,List.nodup_nil⟩
def sS:List (TE×TE)->St->Hp->(List (V×V)->Hp->Prop)->Prop
 | [],_,H,Q=>Q [] H
 | (tk,tv)::r,σ,H,Q=>tk σ H fun x H1=>tv σ H1 fun y H2=>sS r σ H2 fun ps H3=>Q ((x,y)::ps) H3
abbrev VV:List (V×V)->List (Value×Value)->Prop:=Paired fun p q=>RelV p.1 q.1/\RelV p.2 q.2
def vR(X:Cx)(pos:Pos)(keys:List (Option Expr))(values:List Expr)(trs:List (TE×TE)):Prop :=
 ∀ (pins:List (Addr×Obj)) (s:Shared) (σ:St) (H:Hp) (Q:List (V×V)->Hp->Prop),Inv X pins σ H s->sS trs σ H Q ->
  wpAny (model X.prog X.w) X.A (evalPairs (pairTrees keys values X.env pos)) (fun vs s'=>∃ ps H',Inv X pins σ H' s'/\VV ps vs/\Q ps H') X.xe s
theorem J6{X:Cx}{pos:Pos}:vR X pos [] [] []:=fun pins s σ H Q I h=>pairTrees_nil_walk ⟨[],H,I,.nil,h⟩
theorem Vp{X:Cx}{pos:Pos}{k v:Expr}{ks:List (Option Expr)}{vs:List Expr}{tk tv:TE}{trs:List (TE×TE)}(hk:PE X k tk)(hv:PE X v tv)(hr:vR X pos ks vs trs) :
  vR X pos (some k::ks) (v::vs) ((tk,tv)::trs):=fun pins s σ H Q I h =>
 pairTrees_cons_walk (aM (hk pins s σ H _ I h) fun u s1 ⟨x,H1,I1,rx,q1⟩=>aM (hv pins s1 σ H1 _ I1 q1) fun w2 s2 ⟨y,H2,I2,ry,q2⟩ =>
  aM (hr pins s2 σ H2 _ I2 q2) fun ws s3 ⟨ps,H3,I3,rel,q3⟩=>⟨(x,y)::ps,H3,I3,.cons ⟨rx,ry⟩ rel,q3⟩)
def kP(kvs more:List (aH×V)):List (aH×V):=more.foldl (fun acc kv=>bP acc kv.1 kv.2) kvs
theorem KV.merge:∀ {more:List (aH×V)} {rs:List (aH×Value)} {kvs:List (aH×V)} {vs:List (aH×Value)},KV more rs->KV kvs vs->KV (kP kvs more) (merged vs rs):=by
 intro more rs kvs vs r;unfold KV at r
 induction r generalizing kvs vs with
 | nil=>intro q;exact q
 | @cons p q ps qs h t ih =>
  intro r0;have e:KV (bP kvs p.1 p.2) (stored vs q.1 q.2):=by
   have:=r0.put p.1 h.2
   rw[<- h.1];exact this
  exact ih e
theorem Fi:∀ (more kvs:List (aH×V)),(kP kvs more).length<=kvs.length+more.length
 | [],kvs=>by show kvs.length<=kvs.length+0;omega
 | p::r,kvs=>by
  have h1:=Fi r (bP kvs p.1 p.2)
  have h2:=rJ kvs p.1 p.2
  show(kP (bP kvs p.1 p.2) r).length<=_
  rw[List.length_cons];omega
theorem Hq{P:Program}{w:World}:∀ {kvs:List (aH×V)} {ws:List (Value×Value)},VV (kvs.map fun kv=>(kV kv.1,kv.2)) ws->∃ rs,Carries (bD P w) ws rs/\KV kvs rs
 | [],_,r=>by rw[List.map_nil]at r;cases r;exact⟨[],True.intro,.nil⟩
 | p::kvs,_,r=>by
  rw[List.map_cons]at r
  cases r with
  | @cons a b as bs h t =>
   obtain⟨rs,c,q⟩:=Hq (P:=P) (w:=w) t;obtain⟨b1,b2⟩:=b;exact⟨(p.1,b2)::rs,⟨qC h.1,rfl,c⟩,.cons ⟨rfl,h.2⟩ q⟩
structure M1 (X:Cx) (o:Expr) (m:Str) (apos:Pos) (e:Expr) (cpos:Pos):Prop where
 base:attributeBase o m X.env (eval o X.env)=eval o X.env
 few:((backTo cpos (starEach [e] X.env)).all (fun x=>!x.1)&&(backToKw cpos (keywordEach [] X.env)).all (fun x=>x.1.isSome)
  && decide (([e]:List Expr).length+([]:List Keyword).length+(if ([]:List Keyword).isEmpty then 0 else 1)<30))=true
 line:(apos.endLine==cpos.line)=true
 trees:backTo cpos (starEach [e] X.env)=[(false,eval e X.env)]
structure M2 (X:Cx) (o:Expr) (m:Str) (apos:Pos) (e f:Expr) (cpos:Pos):Prop where
 base:attributeBase o m X.env (eval o X.env)=eval o X.env
 few:((backTo cpos (starEach [e,f] X.env)).all (fun x=>!x.1)&&(backToKw cpos (keywordEach [] X.env)).all (fun x=>x.1.isSome)
  && decide (([e,f]:List Expr).length+([]:List Keyword).length+(if ([]:List Keyword).isEmpty then 0 else 1)<30))=true
 line:(apos.endLine==cpos.line)=true
 trees:backTo cpos (starEach [e,f] X.env)=[(false,eval e X.env),(false,eval f X.env)]
def z0(H:Hp)(a:Addr):Prop:=(∃ kvs,Rd H a (.dK kvs))\/∃ kvs,Rd H a (.dT kvs)
theorem Vd{X:Cx}{pins:List (Addr×Obj)}{σ:St}{H:Hp}{s:Shared}{a:Addr}(I:Inv X pins σ H s)(d:z0 H a) :
  s.TypeIs (.ref a) "dict"/\(∀ b,Value.ref a=.ref b->∃ ob,s.heap.get? b=some ob/\ob.dict=none)/\(a==sysModules)=false:=by
 rcases d with⟨kvs,e⟩ | ⟨kvs,e⟩
 ·obtain⟨_,hd,vs,_,dd⟩:=wF I.hok e;refine⟨dd.typeIs,fun b q=>?_,hd⟩
  cases q
  obtain⟨ob,_,_,h1,h2,_⟩:=dd;exact⟨ob,h1,h2.2.1⟩
 ·obtain⟨_,hd,xs,_,dd⟩:=qS I.hok e;refine⟨dd.typeIs,fun b q=>?_,hd⟩
  cases q
  obtain⟨ob,_,_,h1,h2,_⟩:=dd;exact⟨ob,h1,h2.2.1⟩
end L2
namespace DL
open PySem PySem.Spec PyProof.Rows L2
inductive D where
 | dat (p:PyData)
 | cel (a:Addr)
inductive Cel where
 | l (xs:List PyData)
 | d (kvs:List (aH×PyData))
 | t (kvs:List (List aH×PyData))
 | dl (kas:List (aH×Addr))
 | fd (kvs:List (aH×PyData))
 | ft (kvs:List (List aH×PyData))
 | n (kvs:List (List PyData×D))
 | g (kvs:List (aH×D))
 | o (N:Str) (fs:List (Str×D))
@[simp] def rV:Option Cel->Bool
 | some (.fd _)=>true
 | some (.ft _)=>true
 | _=>false
abbrev Mu:=Addr->Option Cel
abbrev aU:=List (Option D)
@[simp] def bO:aH->PyData
 | .inl i=>.int i
 | .inr z=>.str z
def yF:PyData:=.int (2^1930)
theorem L9:yF.showable=false:=by
 show decide ((((2:Int)^1930).natAbs).log2<1920)=false
 rw[Int.natAbs_pow,show(2:Int).natAbs=2 from rfl,Nat.log2_two_pow]
 decide
def jM(K:PySem.W.Frag):HO->List (PyData×V)->Prop
 | .dK ws,vs=>vs=ws.map fun kv=>(bO kv.1,kv.2)
 | .dT ws,vs=>vs=ws.map fun kv=>(.tuple (kv.1.map bO),kv.2)
 | .dN K' ws,vs=>K'=K/\vs=ws.map fun kv=>(.tuple kv.1,kv.2)
 | _,_=>False
mutual
def RP(K:PySem.W.Frag)(Z:Addr->Prop)(m:Mu)(H:Hp):PyData->V->Prop
 | .none,v=>v=.non
 | .bool b,v=>v=.bl b
 | .int i,v=>v=.int i
 | .str x,v=>v=.str x
 | .tuple xs,v=>∃ a vs,v=.ref a/\SqT K H a vs/\RPs K Z m H xs vs
 | .list xs,v=>∃ a vs,v=.ref a/\(m a=none/\¬ Z a)/\SqL K H a vs/\RPs K Z m H xs vs
 | .dict kvs,v=>∃ a o u vs,v=.ref a/\H a=some (.frz o u)/\jM K u vs/\RPd K Z m H kvs ((yF,.non)::vs)
def RPd(K:PySem.W.Frag)(Z:Addr->Prop)(m:Mu)(H:Hp):List (PyData×PyData)->List (PyData×V)->Prop
 | [],vs=>vs=[]
 | (k,p)::xs,vs=>∃ v r,vs=(k,v)::r/\RP K Z m H p v/\RPd K Z m H xs r
def RPs(K:PySem.W.Frag)(Z:Addr->Prop)(m:Mu)(H:Hp):List PyData->List V->Prop
 | [],vs=>vs=[]
 | x::xs,vs=>∃ v r,vs=v::r/\RP K Z m H x v/\RPs K Z m H xs r
end
def RD(K:PySem.W.Frag)(Z:Addr->Prop)(m:Mu)(H:Hp):D->V->Prop
 | .dat p,v=>RP K Z m H p v
 | .cel a,v=>v=.ref a/\(m a).isSome=true
def RDs(K:PySem.W.Frag)(Z:Addr->Prop)(m:Mu)(H:Hp):List D->List V->Prop
 | [],vs=>vs=[]
 | x::xs,vs=>∃ v r,vs=v::r/\RD K Z m H x v/\RDs K Z m H xs r
def RKV{κ:Type}(K:PySem.W.Frag)(Z:Addr->Prop)(m:Mu)(H:Hp):List (κ×PyData)->List (κ×V)->Prop
 | [],vs=>vs=[]
 | (k,p)::xs,vs=>∃ v r,vs=(k,v)::r/\RP K Z m H p v/\RKV K Z m H xs r
def RW(K:PySem.W.Frag)(Z:Addr->Prop)(m:Mu)(H:Hp):D->V->Prop
 | .dat p,v=>RP K Z m H p v
 | .cel a,v=>v=.ref a
def RKW{κ:Type}(K:PySem.W.Frag)(Z:Addr->Prop)(m:Mu)(H:Hp):List (κ×D)->List (κ×V)->Prop
 | [],vs=>vs=[]
 | (k,p)::xs,vs=>∃ v r,vs=(k,v)::r/\RW K Z m H p v/\RKW K Z m H xs r
def RC(K:PySem.W.Frag)(Z:Addr->Prop)(m:Mu)(H:Hp):Cel->HO->Prop
 | .l xs,.lst vs=>RPs K Z m H xs vs
 | .d kvs,.dK vs=>RKV K Z m H kvs vs
 | .t kvs,.dT vs=>RKV K Z m H kvs vs
 | .dl kas,.dK vs=>vs=kas.map fun x=>(x.1,V.ref x.2)
 | .fd kvs,.frz _ (.dK vs)=>RKV K Z m H kvs vs
 | .ft kvs,.frz _ (.dT vs)=>RKV K Z m H kvs vs
 | .n kvs,.dN K' vs=>K'=K/\RKW K Z m H kvs vs
 | .g kvs,.dK vs=>RKW K Z m H kvs vs
 | .o N fs,.ins C _ vs=>PySem.W.nsIn K mainGlobals N=some (some (.ref C))/\RKW K Z m H fs vs
 | _,_=>False
structure Ok (K:PySem.W.Frag) (Z:Addr->Prop) (m:Mu) (H:Hp):Prop where
 g:∀ a c,m a=some c->∃ o,H a=some o/\RC K Z m H c o
 z:∀ a,Z a->m a=none/\H a≠none
structure Ext (K:PySem.W.Frag) (Z:Addr->Prop) (m:Mu) (H:Hp) (m':Mu) (H':Hp):Prop where
 t:∀ a vs,SqT K H a vs->SqT K H' a vs
 l:∀ a vs,(m a=none/\¬ Z a)->SqL K H a vs->m' a=none/\SqL K H' a vs
 z:∀ a,Z a->H' a=H a
 c:∀ a,(m a).isSome=true->(m' a).isSome=true
 fz:∀ a o u,H a=some (.frz o u)->H' a=some (.frz o u)
 fm:∀ a,rV (m a)=true->m' a=m a
section
variable {K:PySem.W.Frag}{Z:Addr->Prop}{m m' m2:Mu}{H H' H2:Hp}
theorem Ext.refl:Ext K Z m H m H:=⟨fun _ _ h=>h,fun _ _ h1 h2=>⟨h1.1,h2⟩,fun _ _=>rfl,fun _ h=>h,fun _ _ _ h=>h,fun _ _=>rfl⟩
theorem Ext.trans(a:Ext K Z m H m' H')(b:Ext K Z m' H' m2 H2):Ext K Z m H m2 H2 :=
 ⟨fun x vs h=>b.t x vs (a.t x vs h),fun x vs h1 h2=>let ⟨q1,q2⟩:=a.l x vs h1 h2;b.l x vs ⟨q1,h1.2⟩ q2,fun x h=>(b.z x h).trans (a.z x h),fun x h=>b.c x (a.c x h),fun x o u h=>b.fz x o u (a.fz x o u h),fun x h=>by
  have q:=a.fm x h
  rw[b.fm x (by rw[q];exact h),q]⟩
mutual
theorem RP.ext(e:Ext K Z m H m' H'):∀ (p:PyData) (v:V),RP K Z m H p v->RP K Z m' H' p v
 | .none,v,h=>by simpa only[RP] using h
 | .bool _,v,h=>by simpa only[RP] using h
 | .int _,v,h=>by simpa only[RP] using h
 | .str _,v,h=>by simpa only[RP] using h
 | .tuple xs,v,h=>by
  simp only[RP]at h ⊢;obtain⟨a,vs,h1,h2,h3⟩:=h;exact⟨a,vs,h1,e.t a vs h2,RPs.ext e xs vs h3⟩
 | .list xs,v,h=>by
  simp only[RP]at h ⊢;obtain⟨a,vs,h1,h2,h3,h4⟩:=h;obtain⟨q1,q2⟩:=e.l a vs h2 h3;exact⟨a,vs,h1,⟨q1,h2.2⟩,q2,RPs.ext e xs vs h4⟩
 | .dict kvs,v,h=>by
  simp only[RP]at h ⊢;obtain⟨a,o,u,vs,h1,h2,h3,h4⟩:=h;exact⟨a,o,u,vs,h1,e.fz a o u h2,h3,RPd.ext e kvs _ h4⟩
theorem RPd.ext(e:Ext K Z m H m' H'):∀ (xs:List (PyData×PyData)) (vs:List (PyData×V)),RPd K Z m H xs vs->RPd K Z m' H' xs vs
 | [],vs,h=>by simpa only[RPd] using h
 | (k,p)::xs,vs,h=>by
  simp only[RPd]at h ⊢;obtain⟨v,r,h1,h2,h3⟩:=h;exact⟨v,r,h1,RP.ext e p v h2,RPd.ext e xs r h3⟩
theorem RPs.ext(e:Ext K Z m H m' H'):∀ (xs:List PyData) (vs:List V),RPs K Z m H xs vs->RPs K Z m' H' xs vs
 | [],vs,h=>by simpa only[RPs] using h
 | x::xs,vs,h=>by
  simp only[RPs]at h ⊢;obtain⟨v,r,h1,h2,h3⟩:=h;exact⟨v,r,h1,RP.ext e x v h2,RPs.ext e xs r h3⟩
end
theorem RD.ext(e:Ext K Z m H m' H'){d:D}{v:V}(h:RD K Z m H d v):RD K Z m' H' d v:=by
 cases d with
 | dat p=>exact RP.ext e p v h
 | cel a=>exact⟨h.1,e.c a h.2⟩
theorem RDs.ext(e:Ext K Z m H m' H'):∀ {xs:List D} {vs:List V},RDs K Z m H xs vs->RDs K Z m' H' xs vs
 | [],_,h=>h
 | _::_,_,⟨v,r,h1,h2,h3⟩=>⟨v,r,h1,h2.ext e,RDs.ext e h3⟩
theorem RKV.lift{κ:Type}{Z':Addr->Prop}(tr:∀ p v,RP K Z m H p v->RP K Z' m' H' p v):∀ {xs:List (κ×PyData)} {vs:List (κ×V)},RKV K Z m H xs vs->RKV K Z' m' H' xs vs
 | [],_,h=>h
 | _::_,_,⟨v,r,h1,h2,h3⟩=>⟨v,r,h1,tr _ _ h2,RKV.lift tr h3⟩
theorem RKW.lift{κ:Type}{Z':Addr->Prop}(tr:∀ p v,RP K Z m H p v->RP K Z' m' H' p v):∀ {xs:List (κ×D)} {vs:List (κ×V)},RKW K Z m H xs vs->RKW K Z' m' H' xs vs
 | [],_,h=>h
 | (_,.dat _)::_,_,⟨v,r,h1,h2,h3⟩=>⟨v,r,h1,tr _ _ h2,RKW.lift tr h3⟩
 | (_,.cel _)::_,_,⟨v,r,h1,h2,h3⟩=>⟨v,r,h1,h2,RKW.lift tr h3⟩
theorem RPs.lift{Z':Addr->Prop}(tr:∀ p v,RP K Z m H p v->RP K Z' m' H' p v):∀ {ps:List PyData} {vs:List V},RPs K Z m H ps vs->RPs K Z' m' H' ps vs
 | [],_,h=>by simpa only[RPs] using h
 | _::_,_,h=>by
  simp only[RPs]at h ⊢;obtain⟨v,r,h1,h2,h3⟩:=h;exact⟨v,r,h1,tr _ _ h2,RPs.lift tr h3⟩
theorem RC.lift{Z':Addr->Prop}{c:Cel}{o:HO}(tr:∀ p v,RP K Z m H p v->RP K Z' m' H' p v)(h:RC K Z m H c o):RC K Z' m' H' c o:=by
 cases c<;>cases o<;>first | exact RPs.lift tr h | exact RKV.lift tr h | exact RKW.lift tr h | exact⟨h.1,RKW.lift tr h.2⟩ | exact h | (rename_i ob u;cases u<;>first | exact RKV.lift tr h | exact h)
theorem RC.ext{c:Cel}{o:HO}(e:Ext K Z m H m' H')(h:RC K Z m H c o):RC K Z m' H' c o:=h.lift fun p v q=>RP.ext e p v q
theorem RC.mut{c:Cel}{o:HO}(h:RC K Z m H c o)(nf:rV (some c)=false):(∀ xs,o≠.tup xs)/\(∀ a b,o≠.frz a b):=by
 cases c with
 | fd _=>cases nf
 | ft _=>cases nf
 | dl _=>cases o<;>first | exact h.elim | exact⟨fun _ e=>(nomatch e),fun _ _ e=>(nomatch e)⟩
 | l _=>cases o<;>first | exact h.elim | exact⟨fun _ e=>(nomatch e),fun _ _ e=>(nomatch e)⟩
 | d _=>cases o<;>first | exact h.elim | exact⟨fun _ e=>(nomatch e),fun _ _ e=>(nomatch e)⟩
 | n _=>cases o<;>first | exact h.elim | exact⟨fun _ e=>(nomatch e),fun _ _ e=>(nomatch e)⟩
 | g _=>cases o<;>first | exact h.elim | exact⟨fun _ e=>(nomatch e),fun _ _ e=>(nomatch e)⟩
 | o _ _=>cases o<;>first | exact h.elim | exact⟨fun _ e=>(nomatch e),fun _ _ e=>(nomatch e)⟩
 | t _=>cases o<;>first | exact h.elim | exact⟨fun _ e=>(nomatch e),fun _ _ e=>(nomatch e)⟩
theorem Ok.l{a:Addr}{xs:List PyData}(ok:Ok K Z m H)(h:m a=some (.l xs)):∃ vs,H a=some (.lst vs)/\RPs K Z m H xs vs:=by
 obtain⟨o,h1,h2⟩:=ok.g a _ h
 cases o<;>first | exact⟨_,h1,h2⟩ | exact h2.elim
theorem Ok.d{a:Addr}{xs:List (aH×PyData)}(ok:Ok K Z m H)(h:m a=some (.d xs)):∃ vs,H a=some (.dK vs)/\RKV K Z m H xs vs:=by
 obtain⟨o,h1,h2⟩:=ok.g a _ h
 cases o<;>first | exact⟨_,h1,h2⟩ | exact h2.elim
theorem Ok.t{a:Addr}{xs:List (List aH×PyData)}(ok:Ok K Z m H)(h:m a=some (.t xs)):∃ vs,H a=some (.dT vs)/\RKV K Z m H xs vs:=by
 obtain⟨o,h1,h2⟩:=ok.g a _ h
 cases o<;>first | exact⟨_,h1,h2⟩ | exact h2.elim
theorem RPs.length:∀ {xs:List PyData} {vs:List V},RPs K Z m H xs vs->vs.length=xs.length
 | [],_,h=>by simp only[RPs]at h;subst h;rfl
 | _::xs,_,h=>by
  simp only[RPs]at h;obtain⟨v,r,h1,_,h3⟩:=h;subst h1;rw[List.length_cons,List.length_cons,RPs.length h3]
theorem RDs.length:∀ {xs:List D} {vs:List V},RDs K Z m H xs vs->vs.length=xs.length
 | [],_,h=>by cases (show _=[] from h);rfl
 | _::xs,_,⟨v,r,h1,_,h3⟩=>by
  subst h1;rw[List.length_cons,List.length_cons,RDs.length h3]
theorem RPs.get:∀ {xs:List PyData} {vs:List V} {i:Nat} {p:PyData},RPs K Z m H xs vs->xs[i]?=some p->∃ v,vs[i]?=some v/\RP K Z m H p v
 | [],_,_,_,_,e=>by simp at e
 | x::xs,_,0,p,h,e=>by
  simp only[RPs]at h;obtain⟨v,r,h1,h2,_⟩:=h;simp at e;subst h1 e;exact⟨v,rfl,h2⟩
 | x::xs,_,i+1,p,h,e=>by
  simp only[RPs]at h;obtain⟨v,r,h1,_,h3⟩:=h;obtain⟨u,q1,q2⟩:=RPs.get (i:=i) (p:=p) h3 (by simpa using e)
  subst h1;exact⟨u,by simpa using q1,q2⟩
theorem RPs.set:∀ {xs:List PyData} {vs:List V} {i:Nat} {p:PyData} {v:V},RPs K Z m H xs vs->RP K Z m H p v->RPs K Z m H (xs.set i p) (vs.set i v)
 | [],_,_,_,_,h,_=>by simp only[RPs]at h;subst h;simp[RPs]
 | x::xs,_,0,p,v,h,q=>by
  simp only[RPs]at h;obtain⟨w,r,h1,_,h3⟩:=h;subst h1;simp only[List.set_cons_zero,RPs];exact⟨v,r,rfl,q,h3⟩
 | x::xs,_,i+1,p,v,h,q=>by
  simp only[RPs]at h;obtain⟨w,r,h1,h2,h3⟩:=h;subst h1;simp only[List.set_cons_succ,RPs];exact⟨w,_,rfl,h2,RPs.set h3 q⟩
theorem RPs.append:∀ {xs ys:List PyData} {vs ws:List V},RPs K Z m H xs vs->RPs K Z m H ys ws->RPs K Z m H (xs++ys) (vs++ws)
 | [],_,_,_,h,q=>by simp only[RPs]at h;subst h;simpa using q
 | x::xs,_,_,_,h,q=>by
  simp only[RPs]at h;obtain⟨w,r,h1,h2,h3⟩:=h;subst h1;simp only[List.cons_append,RPs];exact⟨w,_,rfl,h2,RPs.append h3 q⟩
theorem RPs.drop:∀ {xs:List PyData} {vs:List V} (n:Nat),RPs K Z m H xs vs->RPs K Z m H (xs.drop n) (vs.drop n)
 | _,_,0,h=>by simpa using h
 | [],_,n+1,h=>by simp only[RPs]at h;subst h;simp[RPs]
 | x::xs,_,n+1,h=>by
  simp only[RPs]at h;obtain⟨w,r,h1,h2,h3⟩:=h;subst h1;simpa using RPs.drop n h3
theorem RPs.take:∀ {xs:List PyData} {vs:List V} (n:Nat),RPs K Z m H xs vs->RPs K Z m H (xs.take n) (vs.take n)
 | _,_,0,h=>by simp[RPs]
 | [],_,n+1,h=>by simp only[RPs]at h;subst h;simp[RPs]
 | x::xs,_,n+1,h=>by
  simp only[RPs]at h;obtain⟨w,r,h1,h2,h3⟩:=h;subst h1;simp only[List.take_succ_cons,RPs];exact⟨w,_,rfl,h2,RPs.take n h3⟩
theorem RPs.reverse:∀ {xs:List PyData} {vs:List V},RPs K Z m H xs vs->RPs K Z m H xs.reverse vs.reverse
 | [],_,h=>by simp only[RPs]at h;subst h;simp[RPs]
 | x::xs,_,h=>by
  simp only[RPs]at h;obtain⟨w,r,h1,h2,h3⟩:=h;subst h1;rw[List.reverse_cons,List.reverse_cons];exact(RPs.reverse h3).append (by simp only[RPs];exact⟨w,[],rfl,h2,rfl⟩)
@[simp] def pds:List D->Option (List PyData)
 | []=>some []
 | .dat p::r=>(pds r).map (p :: ·)
 | .cel _::_=>none
theorem RDs.pds:∀ {xs:List D} {vs:List V} {ps:List PyData},RDs K Z m H xs vs->DL.pds xs=some ps->RPs K Z m H ps vs
 | [],vs,ps,h,e=>by
  cases (show vs=[] from h)
  cases (show some []=some ps from e)
  simp[RPs]
 | .dat p::r,vs,ps,⟨v,w,h1,h2,h3⟩,e=>by
  simp only[DL.pds]at e
  cases q:DL.pds r with
  | none=>rw[q]at e;cases e
  | some qs =>
   rw[q]at e
   cases e
   simp only[RPs];exact⟨v,w,h1,h2,RDs.pds h3 q⟩
 | .cel a::r,_,_,_,e=>by simp only[DL.pds]at e;cases e
theorem SqT.same{a:Addr}{xs:List V}(e:Same H H')(h:SqT K H a xs):SqT K H' a xs:=by
 rcases h with (h | ⟨o,h⟩) | h
 ·exact .inl (.inl (e _ _ h))
 ·exact .inl (.inr ⟨o,e _ _ h⟩)
 ·exact .inr h
theorem Ext.grow(s:Same H H')(hz:∀ a,Z a->H a≠none):Ext K Z m H m H':=⟨fun _ _ h=>SqT.same s h,fun _ _ h1 h2=>⟨h1.1,s.seq h2⟩,fun a h=>by
 cases q:H a with
 | none=>exact absurd q (hz a h)
 | some o=>exact s a o q,fun _ h=>h,fun a o u h=>s _ _ h,fun _ _=>rfl⟩
theorem Ok.grow(s:Same H H')(ok:Ok K Z m H):Ok K Z m H':=by
 have e:Ext K Z m H m H':=Ext.grow s fun a h=>(ok.z a h).2
 refine⟨fun a c h=>?_,fun a h=>⟨(ok.z a h).1,by rw[e.z a h];exact(ok.z a h).2⟩⟩
 obtain⟨o,h1,h2⟩:=ok.g a c h;exact⟨o,s _ _ h1,h2.ext e⟩
theorem Ok.ext(s:Same H H')(ok:Ok K Z m H):Ext K Z m H m H':=Ext.grow s fun a h=>(ok.z a h).2
theorem bX{p:Addr}{o:HO}(h:H p=none):Same H (aI H p o):=fun b u q=>by rw[aX (lW q h)];exact q
def aS(m:Mu)(a:Addr)(c:Cel):Mu:=fun b=>if b=a then some c else m b
theorem aZ{a:Addr}{c:Cel}:aS m a c a=some c:=by unfold aS;rw[if_pos rfl]
theorem bG{a b:Addr}{c:Cel}(h:b≠a):aS m a c b=m b:=by unfold aS;rw[if_neg h]
theorem SqL.ne{p a:Addr}{xs:List V}(hp:H p=none)(hk:K.lookup p=none)(h:SqL K H a xs):a≠p:=by
 rintro rfl;rcases h with (h | ⟨o,h⟩) | ⟨o,_,_,h,_⟩
 ·rw[hp]at h;cases h
 ·rw[hp]at h;cases h
 ·rw[hk]at h;cases h
theorem Ext.cell{p:Addr}{o:HO}{c:Cel}(ok:Ok K Z m H)(hp:H p=none)(hk:K.lookup p=none):Ext K Z m H (aS m p c) (aI H p o):=by
 refine⟨fun _ _ h=>SqT.same (bX hp) h,fun a xs h1 h2=>?_,fun a h=>?_,fun a h=>?_,fun a o u h=>bX hp _ _ h,fun a h=>?_⟩
 ·have ne:=SqL.ne hp hk h2
  exact⟨by rw[bG ne];exact h1.1,(bX hp).seq h2⟩
 ·have ne:a≠p:=fun e=>(ok.z a h).2 (by rw[e];exact hp)
  exact aX ne
 ·by_cases e:a=p
  ·subst e;rw[aZ];rfl
  ·rw[bG e];exact h
 ·have ne:a≠p:=by
   rintro rfl
   cases q:m a with
   | none=>rw[q]at h;cases h
   | some x =>
    obtain⟨w,h1,_⟩:=ok.g a x q;rw[hp]at h1
    cases h1
  exact bG ne
theorem Ok.updC{p:Addr}{o:HO}{c:Cel}(ok:Ok K Z m H)(hz:¬ Z p)(e:Ext K Z m H (aS m p c) (aI H p o))(r:RC K Z m H c o):Ok K Z (aS m p c) (aI H p o):=by
 refine⟨fun a x h=>?_,fun a h=>?_⟩
 ·by_cases q:a=p
  ·subst q;rw[aZ]at h
   cases h
   exact⟨o,bQ,r.ext e⟩
  ·rw[bG q]at h;obtain⟨w,h1,h2⟩:=ok.g a x h;exact⟨w,by rw[aX q];exact h1,h2.ext e⟩
 ·have ne:a≠p:=fun e=>hz (e▸h)
  exact⟨by rw[bG ne];exact(ok.z a h).1,by rw[aX ne];exact(ok.z a h).2⟩
theorem Ok.cell{p:Addr}{o:HO}{c:Cel}(ok:Ok K Z m H)(hp:H p=none)(hk:K.lookup p=none)(r:RC K Z m H c o):Ok K Z (aS m p c) (aI H p o) :=
 ok.updC (fun h=>(ok.z p h).2 hp) (Ext.cell ok hp hk) r
theorem Ext.put{a:Addr}{o o0:HO}{c c0:Cel}(ok:Ok K Z m H)(hm:m a=some c0)(hH:H a=some o0)(nf:rV (some c0)=false:=by rfl):Ext K Z m H (aS m a c) (aI H a o):=by
 have mu:(∀ xs,o0≠.tup xs)/\(∀ a b,o0≠.frz a b):=by
  obtain⟨w,h1,h2⟩:=ok.g a c0 hm;rw[hH]at h1
  cases h1
  exact h2.mut nf
 refine⟨fun b xs h=>?_,fun b xs h1 h2=>?_,fun b h=>?_,fun b h=>?_,fun b w u h=>?_,fun b h=>?_⟩
 ·rcases h with (h | ⟨w,h⟩) | h
  ·have ne:b≠a:=by rintro rfl;rw[hH]at h;cases h;exact absurd rfl (mu.1 _)
   exact .inl (.inl (by rw[aX ne];exact h))
  ·have ne:b≠a:=by rintro rfl;rw[hH]at h;cases h;exact absurd rfl (mu.2 _ _)
   exact .inl (.inr ⟨w,by rw[aX ne];exact h⟩)
  ·exact .inr h
 ·have ne:b≠a:=by rintro rfl;rw[hm]at h1;cases h1.1
  refine⟨by rw[bG ne];exact h1.1,?_⟩
  rcases h2 with (h | ⟨w,h⟩) | h
  ·exact .inl (.inl (by rw[aX ne];exact h))
  ·exact .inl (.inr ⟨w,by rw[aX ne];exact h⟩)
  ·exact .inr h
 ·have ne:b≠a:=by rintro rfl;have:=(ok.z b h).1;rw[hm]at this;cases this
  exact aX ne
 ·by_cases e:b=a
  ·subst e;rw[aZ];rfl
  ·rw[bG e];exact h
 ·have ne:b≠a:=by rintro rfl;rw[hH]at h;cases h;exact absurd rfl (mu.2 _ _)
  rw[aX ne];exact h
 ·have ne:b≠a:=by rintro rfl;rw[hm,nf]at h;cases h
  exact bG ne
theorem Ok.put{a:Addr}{o o0:HO}{c c0:Cel}(ok:Ok K Z m H)(hm:m a=some c0)(hH:H a=some o0)(r:RC K Z m H c o)(nf:rV (some c0)=false:=by rfl):Ok K Z (aS m a c) (aI H a o) :=
 ok.updC (fun h=>by have:=(ok.z a h).1;rw[hm]at this;cases this) (Ext.put ok hm hH nf) r
def RS(K:PySem.W.Frag)(Z:Addr->Prop)(m:Mu)(H:Hp)(d:aU)(s:L2.St):Prop:=d.length=s.length/\∀ (i:Nat) (x:D),d[i]?=some (some x)->∃ v,s[i]?=some (some v)/\RD K Z m H x v
theorem RS.ext{d:aU}{s:L2.St}(r:RS K Z m H d s)(e:Ext K Z m H m' H'):RS K Z m' H' d s:=⟨r.1,fun i x h=>let ⟨v,h1,h2⟩:=r.2 i x h;⟨v,h1,h2.ext e⟩⟩
theorem RS.set{d:aU}{s:L2.St}{i:Nat}{x:D}{v:V}(r:RS K Z m H d s)(h:RD K Z m H x v):RS K Z m H (d.set i (some x)) (s.set i (some v)):=by
 refine⟨by rw[List.length_set,List.length_set];exact r.1,fun j y q=>?_⟩
 by_cases e:j=i
 ·subst e;rw[List.getElem?_set]at q;simp only[if_true]at q
  split at q
  ·rename_i hl
   cases q
   refine⟨v,?_,h⟩;rw[List.getElem?_set];simp only[if_true];rw[if_pos (by rw[<- r.1];exact hl)]
  ·cases q
 ·rw[List.getElem?_set_ne (Ne.symm e)]at q;obtain⟨w,h1,h2⟩:=r.2 j y q;exact⟨w,by rw[List.getElem?_set_ne (Ne.symm e)];exact h1,h2⟩
end
abbrev DK:=D->Mu->Prop
abbrev DE:=aU->Mu->DK->Prop
abbrev DT:=aU->Mu->(Bool->Mu->Prop)->Prop
abbrev DA:=aU->Mu->(List D->Mu->Prop)->Prop
structure Ends2 where
 nx:aU->Mu->Prop
 rt:DK
 bk:aU->Mu->Prop:=fun _ _=>False
 ct:aU->Mu->Prop:=fun _ _=>False
abbrev DS:=Ends2->aU->Mu->Prop
def LE(K:PySem.W.Frag)(f:DE):TE:=fun s H Q=>∃ (Z:Addr->Prop) (d:aU) (m:Mu) (R:DK),Ok K Z m H/\RS K Z m H d s/\f d m R /\
 ∀ x m' v H',R x m'->Ext K Z m H m' H'->Ok K Z m' H'->RD K Z m' H' x v->Q v H'
def LT(K:PySem.W.Frag)(f:DT):TT:=fun s H Q=>∃ (Z:Addr->Prop) (d:aU) (m:Mu) (R:Bool->Mu->Prop),Ok K Z m H/\RS K Z m H d s/\f d m R /\
 ∀ b m' H',R b m'->Ext K Z m H m' H'->Ok K Z m' H'->Q b H'
def LA(K:PySem.W.Frag)(f:DA):TA:=fun s H Q=>∃ (Z:Addr->Prop) (d:aU) (m:Mu) (R:List D->Mu->Prop),Ok K Z m H/\RS K Z m H d s/\f d m R /\
 ∀ xs m' vs H',R xs m'->Ext K Z m H m' H'->Ok K Z m' H'->RDs K Z m' H' xs vs->Q vs H'
def LS(K:PySem.W.Frag)(f:DS):TS:=fun E s H=>∃ (Z:Addr->Prop) (d:aU) (m:Mu) (R:Ends2),Ok K Z m H/\RS K Z m H d s/\f R d m /\
 (∀ d' m' s' H',R.nx d' m'->Ext K Z m H m' H'->Ok K Z m' H'->RS K Z m' H' d' s'->E.nx s' H') /\
 (∀ x m' v H',R.rt x m'->Ext K Z m H m' H'->Ok K Z m' H'->RD K Z m' H' x v->E.rt v H') /\
 (∀ d' m' s' H',R.bk d' m'->Ext K Z m H m' H'->Ok K Z m' H'->RS K Z m' H' d' s'->E.bk s' H') /\
 (∀ d' m' s' H',R.ct d' m'->Ext K Z m H m' H'->Ok K Z m' H'->RS K Z m' H' d' s'->E.ct s' H')
theorem PE.imp{X:Cx}{e:Expr}{t t':TE}(h:PE X e t)(q:∀ s H Q,t' s H Q->t s H Q):PE X e t':=fun pins s d H Q I w=>h pins s d H Q I (q _ _ _ w)
theorem PT.imp{X:Cx}{e:Expr}{t t':TT}(h:PT X e t)(q:∀ s H Q,t' s H Q->t s H Q):PT X e t':=fun pins s d H Q I w=>h pins s d H Q I (q _ _ _ w)
theorem PA.imp{X:Cx}{e:List Expr}{t t':TA}(h:PA X e t)(q:∀ s H Q,t' s H Q->t s H Q):PA X e t':=fun pos pins s d H Q I w=>h pos pins s d H Q I (q _ _ _ w)
theorem PS.imp{X:Cx}{e:Stmt}{t t':TS}(h:PS X e t)(q:∀ E s H,t' E s H->t E s H):PS X e t':=fun pins s d H E I w=>h pins s d H E I (q _ _ _ w)
theorem PSs.imp{X:Cx}{e:List Stmt}{t t':TS}(h:PSs X e t)(q:∀ E s H,t' E s H->t E s H):PSs X e t':=fun pins s d H E I w=>h pins s d H E I (q _ _ _ w)
section
variable {X:Cx}{pos:Pos}
@[simp] def aA(i:Nat):DE:=fun d m Q=>∃ x,d[i]?=some (some x)/\Q x m
theorem R3(i:Nat){x:Str}(hN:X.N[i]?=some x:=by rfl)(hv:fT X.env.scope x:=by first | exact Or.inl rfl | exact Or.inr (Or.inl rfl) | exact Or.inr (Or.inr rfl))(hd:(x==("__debug__" : Str))=false:=by decide)
  (hcd:(x==("__classdict__" : Str))=false:=by decide):PE X (.Name x pos) (LE X.K (aA i)) :=
 PE.imp (Gp hN hv hd hcd) fun s H Q h=>by
  obtain⟨Z,d,m,R,ok,rs,⟨x,h1,h2⟩,k⟩:=h;obtain⟨v,q1,q2⟩:=rs.2 i x h1;exact⟨v,q1,k x m v H h2 Ext.refl ok q2⟩
@[simp] def aC(p:PyData):DE:=fun _ m Q=>Q (.dat p) m
theorem xQ{e:Expr}{p:PyData}{v:V}(h:PE X e (tC v))(r:∀ Z m H,RP X.K Z m H p v):PE X e (LE X.K (aC p)) :=
 PE.imp h fun s H Q ⟨Z,d,m,R,ok,rs,h2,k⟩=>k _ m v H h2 Ext.refl ok (r Z m H)
theorem le_int{i:Int}{j:Nat}:PE X (.Constant (.int i) j pos) (LE X.K (aC (.int i))):=xQ v7 fun Z m H=>by simp only[RP]
theorem Yd{b:Bool}{j:Nat}:PE X (.Constant (.bool b) j pos) (LE X.K (aC (.bool b))):=xQ Y0 fun Z m H=>by simp only[RP]
theorem Uc{x:Str}{j:Nat}:PE X (.Constant (.str x) j pos) (LE X.K (aC (.str x))):=xQ Vj fun Z m H=>by simp only[RP]
end
end DL
namespace DL
open PySem PySem.Spec PyProof.Rows L2
section
variable {X:Cx}{pins:List (Addr×Obj)}{σ:L2.St}{H:Hp}{s:Shared}{Z:Addr->Prop}{m:Mu}
mutual
theorem RP.reads0(I:Inv X pins σ H s):∀ (p:PyData) (v:V) (u:Value),RP X.K Z m H p v->RelV v u->p.hasDict=false->∃ as,Reads s.heap u p as
 | .none,v,u,h,r,_=>by simp only[RP]at h;subst h;cases r;exact⟨_,.none⟩
 | .bool b,v,u,h,r,_=>by simp only[RP]at h;subst h;cases r;exact⟨_,.bool b⟩
 | .int i,v,u,h,r,_=>by simp only[RP]at h;subst h;obtain⟨t,rfl⟩:=r;exact⟨_,.int i t⟩
 | .str x,v,u,h,r,_=>by simp only[RP]at h;subst h;obtain⟨t,rfl⟩:=r;exact⟨_,.str x t⟩
 | .tuple xs,v,u,h,r,nd=>by
  simp only[RP]at h;obtain⟨a,vs,rfl,h2,h3⟩:=h
  cases r
  obtain⟨its,rv,⟨o,e,c,n,d⟩,_⟩:=I.tuple h2;obtain⟨as,q⟩:=RPs.reads0 I xs vs its h3 rv nd;exact⟨_,.tuple e c d (by simpa using q)⟩
 | .list xs,v,u,h,r,nd=>by
  simp only[RP]at h;obtain⟨a,vs,rfl,_,h2,h3⟩:=h
  cases r
  obtain⟨its,rv,⟨o,n,e,c,_,d⟩,_⟩:=I.list h2;obtain⟨as,q⟩:=RPs.reads0 I xs vs its h3 rv nd;exact⟨_,.list e c d (by simpa using q)⟩
 | .dict _,v,u,h,r,nd=>nomatch nd
theorem RPs.reads0(I:Inv X pins σ H s):∀ (xs:List PyData) (vs:List V) (us:List Value),RPs X.K Z m H xs vs->Vals vs us->PyData.hasDictAll xs=false->∃ as,ReadsAll s.heap us xs as
 | [],vs,us,h,r,_=>by simp only[RPs]at h;subst h;cases r;exact⟨_,.nil⟩
 | x::xs,vs,us,h,r,nd=>by
  simp only[PyData.hasDictAll,Bool.or_eq_false_iff]at nd;simp only[RPs]at h;obtain⟨v,w,rfl,h1,h2⟩:=h
  cases r with
  | cons r1 r2 =>
   obtain⟨as,q1⟩:=RP.reads0 I x v _ h1 r1 nd.1;obtain⟨bs,q2⟩:=RPs.reads0 I xs w _ h2 r2 nd.2;exact⟨_,.cons q1 q2⟩
end
theorem RP.reads(I:Inv X pins σ H s)(p:PyData)(v:V)(u:Value)(h:RP X.K Z m H p v)(r:RelV v u)(nd:p.hasDict=false:=by first | assumption | (refine PyData.hasDict_of_canLay _ ?_;assumption)):∃ as,Reads s.heap u p as:=RP.reads0 I p v u h r nd
mutual
theorem RP.noDict(K:PySem.W.Frag):∀ (p:PyData) (v:V),RP K Z m H p v->p.showable=true->p.hasDict=false
 | .none,_,_,_=>rfl
 | .bool _,_,_,_=>rfl
 | .int _,_,_,_=>rfl
 | .str _,_,_,_=>rfl
 | .tuple xs,v,h,sh=>by
  simp only[RP]at h;obtain⟨_,vs,_,_,h⟩:=h;simp only[PyData.hasDict];exact RPs.noDict K xs vs h sh
 | .list xs,v,h,sh=>by
  simp only[RP]at h;obtain⟨_,vs,_,_,_,h⟩:=h;simp only[PyData.hasDict];exact RPs.noDict K xs vs h sh
 | .dict kvs,v,h,sh=>by
  simp only[RP]at h;obtain⟨a,o,u,vs,_,_,_,h⟩:=h
  cases kvs with
  | nil=>simp[RPd]at h
  | cons x r =>
   obtain⟨k,p⟩:=x;simp only[RPd]at h;obtain⟨v,r',h1,_⟩:=h
   cases h1
   simp only[PyData.showable,PyData.showableKv,L9,Bool.false_and]at sh
   cases sh
theorem RPs.noDict(K:PySem.W.Frag):∀ (xs:List PyData) (vs:List V),RPs K Z m H xs vs->PyData.showableAll xs=true->PyData.hasDictAll xs=false
 | [],_,_,_=>rfl
 | x::xs,vs,h,sh=>by
  simp only[PyData.showableAll,Bool.and_eq_true]at sh;simp only[RPs]at h;obtain⟨v,w,rfl,h1,h2⟩:=h;simp only[PyData.hasDictAll,RP.noDict K x v h1 sh.1,RPs.noDict K xs w h2 sh.2,Bool.or_self]
end
end
abbrev D2:=D->D->Mu->DK->Prop
def cP(X:Cx)(op:Value->Value->Sem Value)(r:D2):Prop :=
 ∀ (pins:List (Addr×Obj)) (s:Shared) (σ:L2.St) (H:Hp) (Z:Addr->Prop) (m:Mu) (x y:V) (dx dy:D) (v u:Value) (R:DK) (Q:VK),Inv X pins σ H s->Ok X.K Z m H->RelV x v->RelV y u->RD X.K Z m H dx x->RD X.K Z m H dy y->r dx dy m R ->
  (∀ d m' v' H',R d m'->Ext X.K Z m H m' H'->Ok X.K Z m' H'->RD X.K Z m' H' d v'->Q v' H')->wpAny (model X.prog X.w) X.A (op v u) (EP X pins σ Q) X.xe s
@[simp] def aN(r:D2)(f g:DE):DE:=fun d m Q=>f d m fun x m1=>g d m1 fun y m2=>r x y m2 Q
section
variable {X:Cx}{a b c:Expr}{f g:DE}{pos:Pos}
theorem zW{op:Value->Value->Sem Value}{r:D2}(ho:cP X op r)(ha:PE X a (LE X.K f))(hb:PE X b (LE X.K g)){pins:List (Addr×Obj)}{s:Shared}{σ:L2.St}{H:Hp}{Q:VK}(I:Inv X pins σ H s)
  (h:LE X.K (aN r f g) σ H Q) :
  wpAny (model X.prog X.w) X.A (eval a X.env) (fun v s₁=>wpAny (model X.prog X.w) X.A (eval b X.env) (fun u s₂=>wpAny (model X.prog X.w) X.A (op v u) (EP X pins σ Q) X.xe s₂) X.xe s₁) X.xe s:=by
 obtain⟨Z,d,m,R,ok,rs,hf,k⟩:=h;refine Nf ha hb I (R:=fun x y H2=>∃ m2 dx dy,Ok X.K Z m2 H2/\Ext X.K Z m H m2 H2/\RD X.K Z m2 H2 dx x/\RD X.K Z m2 H2 dy y/\r dx dy m2 R) ?_ fun v u s2 x y H2 I2 rx ry ⟨m2,dx,dy,ok2,e2,r1,r2,q⟩=>?_
 ·exact⟨Z,d,m,_,ok,rs,hf,fun x m1 v H1 q e1 ok1 r1=>⟨Z,d,m1,_,ok1,rs.ext e1,q,fun y m2 v2 H2 q2 e2 ok2 r2=>⟨m2,x,y,ok2,e1.trans e2,r1.ext e2,r2,q2⟩⟩⟩
 ·exact ho pins s2 σ H2 Z m2 x y dx dy v u R Q I2 ok2 rx ry r1 r2 q fun d' m' v' H' h1 h2 h3 h4=>k d' m' v' H' h1 (e2.trans h2) h3 h4
theorem U3{op:Operator}{r:D2}(ho:cP X (binaryOp op) r)(ha:PE X a (LE X.K f))(hb:PE X b (LE X.K g)):PE X (.BinOp a op b pos) (LE X.K (aN r f g)) :=
 fun _ _ _ _ _ I h=>wpAny_BinOp (zW ho ha hb I h)
theorem R1{op:CmpOp}{r:D2}(ho:cP X (compareOp op) r)(ha:PE X a (LE X.K f))(hb:PE X b (LE X.K g))(hm:behindInMarks op b=false:=by exact tX _):PE X (.Compare a [op] [b] pos) (LE X.K (aN r f g)) :=
 fun _ _ _ _ _ I h=>wpAny_Compare1 (zW ho ha hb I h) hm
@[simp] def bJ(f:DE):DT:=fun d m Q=>f d m fun x m1=>∃ b,x=.dat (.bool b)/\Q b m1
theorem LT.le{K:PySem.W.Frag}{σ:L2.St}{H:Hp}{Q:Bool->Hp->Prop}(h:LT K (bJ f) σ H Q):LE K f σ H (fun x H'=>∃ k,x=.bl k/\Q k H'):=by
 obtain⟨Z,d,m,R,ok,rs,hf,k⟩:=h;refine⟨Z,d,m,_,ok,rs,hf,fun x m' v H' ⟨b,e,q⟩ e1 ok1 rd=>⟨b,?_,k b m' H' q e1 ok1⟩⟩;subst e;simpa only[RD,RP] using rd
theorem Tt{op:CmpOp}{r:D2}(ho:cP X (compareOp op) r)(ha:PE X a (LE X.K f))(hb:PE X b (LE X.K g))(hm:behindInMarks op b=false:=by exact tX _):PT X (.Compare a [op] [b] pos) (LT X.K (bJ (aN r f g))):=by
 intro pins s σ H Q I h;refine wpAny_isTrue_Compare1 (aM (zW ho ha hb I h.le) fun v s1 h1=>aM h1 fun u s2 h2=>aM h2 fun c s3 ⟨z,H3,I3,r3,k,e,q3⟩=>?_) hm;subst e
 cases r3
 exact wpAny_truthy_bool ⟨H3,I3,q3⟩
theorem E4(h:PE X a (LE X.K f))(he:∀ whole,isTrue a X.env whole=(do let v <- whole;standAt a.pos;holding [v] (truthy v)):=by intro _;rfl):PT X a (LT X.K (bJ f)) :=
 PT.imp (Up h he) fun _ _ _ q=>q.le
end
section
variable {X:Cx}{a b c:Expr}{rest:List Expr}{f g:DE}{t u:DT}{pos:Pos}
@[simp] def sP(t u:DT):DT:=fun d m Q=>t d m fun k m1=>if k=true then u d m1 Q else Q false m1
@[simp] def jV(t u:DT):DT:=fun d m Q=>t d m fun k m1=>if k=true then Q true m1 else u d m1 Q
@[simp] def pL(t:DT):DT:=fun d m Q=>t d m fun k m1=>Q (!k) m1
theorem PW.imp{e:Expr}{t t':TT}(h:PW X e t)(q:∀ s H Q,t' s H Q->t s H Q):PW X e t':=fun wh pins s d H Q I w=>h wh pins s d H Q I (q _ _ _ w)
theorem y0(ha:PT X a (LT X.K t)):PW X (.BoolOp .And [a] pos) (LT X.K t):=Zs ha
theorem Y9(ha:PT X a (LT X.K t)):PW X (.BoolOp .Or [a] pos) (LT X.K t):=Ub ha
theorem Wo(ha:PT X a (LT X.K t))(hb:PW X (.BoolOp .And (b::rest) pos) (LT X.K u)):PW X (.BoolOp .And (a::b::rest) pos) (LT X.K (sP t u)) :=
 PW.imp (Qu ha hb) fun s H Q ⟨Z,d,m,R,ok,rs,h,k⟩=>⟨Z,d,m,_,ok,rs,h,fun b m1 H1 q e1 ok1=>by
  cases b with
  | true=>rw[if_pos rfl]at q ⊢;exact⟨Z,d,m1,R,ok1,rs.ext e1,q,fun b' m2 H2 q2 e2 ok2=>k b' m2 H2 q2 (e1.trans e2) ok2⟩
  | false=>rw[if_neg Bool.false_ne_true]at q ⊢;exact k false m1 H1 q e1 ok1⟩
theorem j3(ha:PT X a (LT X.K t))(hb:PW X (.BoolOp .Or (b::rest) pos) (LT X.K u)):PW X (.BoolOp .Or (a::b::rest) pos) (LT X.K (jV t u)) :=
 PW.imp (Sr ha hb) fun s H Q ⟨Z,d,m,R,ok,rs,h,k⟩=>⟨Z,d,m,_,ok,rs,h,fun b m1 H1 q e1 ok1=>by
  cases b with
  | false=>rw[if_neg Bool.false_ne_true]at q ⊢;exact⟨Z,d,m1,R,ok1,rs.ext e1,q,fun b' m2 H2 q2 e2 ok2=>k b' m2 H2 q2 (e1.trans e2) ok2⟩
  | true=>rw[if_pos rfl]at q ⊢;exact k true m1 H1 q e1 ok1⟩
theorem C0(ha:PT X a (LT X.K t)):PT X (.UnaryOp .Not a pos) (LT X.K (pL t)) :=
 PT.imp (Z7 ha) fun s H Q ⟨Z,d,m,R,ok,rs,h,k⟩=>⟨Z,d,m,_,ok,rs,h,fun b m1 H1 q e1 ok1=>k (!b) m1 H1 q e1 ok1⟩
@[simp] def rZ(f g:DE):DE:=fun d m Q=>f d m fun x m1=>∃ b,x=.dat (.bool b)/\if b=true then g d m1 Q else Q (.dat (.bool false)) m1
theorem RD.bl{K:PySem.W.Frag}{Z:Addr->Prop}{m:Mu}{H:Hp}{b:Bool}{v:V}(h:RD K Z m H (.dat (.bool b)) v):v=.bl b:=by simpa only[RD,RP] using h
theorem RD.ofBl{K:PySem.W.Frag}{Z:Addr->Prop}{m:Mu}{H:Hp}{b:Bool}:RD K Z m H (.dat (.bool b)) (.bl b):=by simp only[RD,RP]
theorem X5{op:BoolOp}(h:PE X a (LE X.K f)):PE X (.BoolOp op [a] pos) (LE X.K f):=AU h
theorem Zq(ha:PE X a (LE X.K f))(hb:PE X (.BoolOp .And (b::rest) pos) (LE X.K g)):PE X (.BoolOp .And (a::b::rest) pos) (LE X.K (rZ f g)) :=
 PE.imp (Ys ha hb) fun s H Q ⟨Z,d,m,R,ok,rs,h,k⟩=>⟨Z,d,m,_,ok,rs,h,fun x m1 v H1 ⟨b,e,q⟩ e1 ok1 rd=>by
  subst e;refine⟨b,rd.bl,?_⟩
  cases b with
  | true=>rw[if_pos rfl]at q ⊢;exact⟨Z,d,m1,R,ok1,rs.ext e1,q,fun x2 m2 v2 H2 q2 e2 ok2 r2=>k x2 m2 v2 H2 q2 (e1.trans e2) ok2 r2⟩
  | false=>rw[if_neg Bool.false_ne_true]at q ⊢;exact k _ m1 _ H1 q e1 ok1 .ofBl⟩
@[simp] def qV(t:DT)(f g:DE):DE:=fun d m Q=>t d m fun k m1=>if k=true then f d m1 Q else g d m1 Q
theorem E6(hc:PT X c (LT X.K t))(ha:PE X a (LE X.K f))(hb:PE X b (LE X.K g)):PE X (.IfExp c a b pos) (LE X.K (qV t f g)) :=
 PE.imp (AW hc ha hb) fun s H Q ⟨Z,d,m,R,ok,rs,h,k⟩=>⟨Z,d,m,_,ok,rs,h,fun b m1 H1 q e1 ok1=>by
  cases b with
  | true=>rw[if_pos rfl]at q ⊢;exact⟨Z,d,m1,R,ok1,rs.ext e1,q,fun x2 m2 v2 H2 q2 e2 ok2 r2=>k x2 m2 v2 H2 q2 (e1.trans e2) ok2 r2⟩
  | false=>rw[if_neg Bool.false_ne_true]at q ⊢;exact⟨Z,d,m1,R,ok1,rs.ext e1,q,fun x2 m2 v2 H2 q2 e2 ok2 r2=>k x2 m2 v2 H2 q2 (e1.trans e2) ok2 r2⟩⟩
end
section
variable {X:Cx}{e:Expr}{es:List Expr}{f:DE}{g:DA}{pos:Pos}
@[simp] def aF:DA:=fun _ m Q=>Q [] m
@[simp] def aB(f:DE)(g:DA):DA:=fun d m Q=>f d m fun x m1=>g d m1 fun xs m2=>Q (x::xs) m2
theorem Kv:PA X [] (LA X.K aF):=PA.imp lP fun s H Q ⟨Z,d,m,R,ok,rs,h,k⟩=>k [] m [] H h Ext.refl ok rfl
theorem Cl(ha:PE X e (LE X.K f))(hr:PA X es (LA X.K g))(hs:starEach (e::es) X.env=(false,eval e X.env)::starEach es X.env:=by rfl):PA X (e::es) (LA X.K (aB f g)) :=
 PA.imp (kH ha hr hs) fun s H Q ⟨Z,d,m,R,ok,rs,h,k⟩=>⟨Z,d,m,_,ok,rs,h,fun x m1 v H1 q e1 ok1 r1=>⟨Z,d,m1,_,ok1,rs.ext e1,q,fun xs m2 vs H2 q2 e2 ok2 r2 =>
  k (x::xs) m2 (v::vs) H2 q2 (e1.trans e2) ok2 ⟨v,vs,rfl,r1.ext e2,r2⟩⟩⟩
@[simp] def bC(g:DA):DE:=fun d m Q=>g d m fun xs m1=>∃ ps,pds xs=some ps/\ps.length<=sizeLine/\Q (.dat (.tuple ps)) m1
theorem K9{j:Nat}(h:PA X es (LA X.K g)):PE X (.Tuple es j pos) (LE X.K (bC g)) :=
 PE.imp (Ic h) fun s H Q ⟨Z,d,m,R,ok,rs,h,k⟩=>⟨Z,d,m,_,ok,rs,h,fun xs m1 vs H1 ⟨ps,e,hz,q⟩ e1 ok1 r1=>by
  have rp:=r1.pds e
  refine⟨by rw[rp.length];exact hz,fun p hp=>?_⟩
  have sm:Same H1 (aI H1 p (.tup vs)):=bX hp
  refine k _ m1 _ _ q (e1.trans (ok1.ext sm)) (ok1.grow sm) ?_;simp only[RD,RP];exact⟨p,vs,rfl,.inl (.inl bQ),RPs.ext (ok1.ext sm) _ _ rp⟩⟩
@[simp] def iE(g:DA):DE:=fun d m Q=>g d m fun xs m1=>∃ ps,pds xs=some ps/\ps.length<=sizeLine/\Q (.dat (.list ps)) m1
@[simp] def qA(g:DA):DE:=fun d m Q=>g d m fun xs m1=>∃ ps,pds xs=some ps/\ps.length<=sizeLine/\∀ a,m1 a=none->Q (.cel a) (aS m1 a (.l ps))
theorem Ll{t:TA}(h:PA X es t):PE X (.List es pos) (fun s H Q=>t s H fun xs H1=>xs.length<=sizeLine/\∀ p,H1 p=none->X.K.lookup p=none->Q (.ref p) (aI H1 p (.lst xs))):=by
 intro pins s σ H Q I hq;refine wpAny_List_spliced (aM (h pos pins s σ H _ I hq) fun us s1 ⟨xs,H1,I1,r,z,q⟩=>⟨by rw[<- r.length];exact z,?_⟩)
 have hf:H1 s1.heap.objs.size=none:=I1.hok.fresh (Nat.le_refl _)
 have hk:X.K.lookup s1.heap.objs.size=none:=by
  cases e:X.K.lookup s1.heap.objs.size with
  | none=>rfl
  | some o=>exact absurd (Heap.lt_size (I1.kIn _ o e)) (Nat.lt_irrefl _)
 refine⟨.ref s1.heap.objs.size,aI H1 s1.heap.objs.size (.lst xs),I1.laid (t':=s1.toks) (fun b u e=>Heap.get?_push_of_some _ e) (Nat.le_refl _) ?_,rfl,q _ hf hk⟩;exact⟨z,us,0,r,Heap.get?_push_size _ rfl⟩
theorem dJ{K:PySem.W.Frag}{Z:Addr->Prop}{m:Mu}{H:Hp}{p:Addr}(ok:Ok K Z m H)(hp:H p=none):m p=none/\¬ Z p:=by
 refine⟨?_,fun h=>(ok.z p h).2 hp⟩
 cases e:m p with
 | none=>rfl
 | some ds =>
  obtain⟨vs,h1,_⟩:=ok.g p ds e;rw[hp]at h1
  cases h1
theorem Q6(h:PA X es (LA X.K g)):PE X (.List es pos) (LE X.K (iE g)) :=
 PE.imp (Ll h) fun s H Q ⟨Z,d,m,R,ok,rs,h,k⟩=>⟨Z,d,m,_,ok,rs,h,fun xs m1 vs H1 ⟨ps,e,hz,q⟩ e1 ok1 r1=>by
  have rp:=r1.pds e
  refine⟨by rw[rp.length];exact hz,fun p hp hk=>?_⟩
  have sm:Same H1 (aI H1 p (.lst vs)):=bX hp
  refine k _ m1 _ _ q (e1.trans (ok1.ext sm)) (ok1.grow sm) ?_;simp only[RD,RP];exact⟨p,vs,rfl,dJ ok1 hp,.inl (.inl bQ),RPs.ext (ok1.ext sm) _ _ rp⟩⟩
theorem K3(h:PA X es (LA X.K g)):PE X (.List es pos) (LE X.K (qA g)) :=
 PE.imp (Ll h) fun s H Q ⟨Z,d,m,R,ok,rs,h,k⟩=>⟨Z,d,m,_,ok,rs,h,fun xs m1 vs H1 ⟨ps,e,hz,q⟩ e1 ok1 r1=>by
  have rp:=r1.pds e
  refine⟨by rw[rp.length];exact hz,fun p hp hk=>?_⟩
  refine k _ _ _ _ (q p (dJ ok1 hp).1) (e1.trans (Ext.cell ok1 hp hk)) (ok1.cell hp hk rp) ⟨rfl,?_⟩;rw[aZ]
  rfl⟩
end
end DL
namespace DL
open PySem PySem.Spec PyProof.Rows L2
theorem L6:fillsNumberSlot (.type "tuple") "mul"=pure false:=PySem.fillsNumberSlot_seq (id:="tuple.__mul__") (r:=some (.builtin "tuple.__rmul__")) PySem.F.slot_tuple_mul.lookup (by decide +kernel) PySem.F.slot_tuple_rmul.lookup (by decide +kernel)
theorem Th:seqRepeat? (.type "tuple")=pure (some (.builtin "tuple.__mul__")):=by
 unfold seqRepeat?;rw[PySem.seqSlot_of (T:="tuple") (name:="__mul__") (id:="tuple.__mul__") PySem.F.slot_tuple_mul.lookup (by decide +kernel),PySem.seqSlot_of (T:="tuple") (name:="__rmul__") (id:="tuple.__rmul__") PySem.F.slot_tuple_rmul.lookup (by decide +kernel)]
 rfl
theorem p7(a:Int)(t:Tok)(l:Addr)(its:Array Value)(n:Nat)(dd:Option Addr)(sl:Array (Option Value)):Meets (Builtin.«int.__rmul__» ⟨[.int a t,.ref l],[]⟩) (fun _ R s=>s.heap.get? l=some {cls:=.type "tuple",dict:=dd,data:=.seq its n,slots:=sl}/\R (.ok (.ret Value.notImplemented)) s) :=
 .of_wp fun prog w A R s hs=>by
  obtain⟨hp,g,d,tk,os⟩:=s;obtain⟨hl,h⟩:=hs
  wp_walk
  exact⟨_,rfl,h⟩
theorem Ad(vs:List Value):∀ (n:Nat) (acc:List Value),(List.replicate n vs.toArray).foldl (·++·) acc.toArray=(acc++(List.replicate n vs).flatten).toArray
 | 0,acc=>by simp
 | n+1,acc=>by
  rw[List.replicate_succ,List.foldl_cons,List.replicate_succ,List.flatten_cons];have:=Ad vs n (acc++vs)
  rw[<- List.append_assoc,<- this];simp
theorem xZ{α:Type}(xs:List α):∀ n:Nat,(List.replicate n xs).flatten.length=xs.length*n
 | 0=>by simp
 | n+1=>by rw[List.replicate_succ,List.flatten_cons,List.length_append,xZ xs n,Nat.mul_succ,Nat.add_comm]
theorem Wz(t:Addr)(its:Array Value)(k:Int)(tok:Tok)(h1:its.size≠0)(h2:2<=k)(h3:k<=100)(h4:its.size*k.toNat<=sizeLine):Meets (Builtin.«tuple.__mul__» ⟨[.ref t,.int k tok],[]⟩)
  (fun _ R s=>IsTup s.heap t its/\R (.ok (.ret (.ref s.heap.objs.size))) {s with heap:=s.heap.push {cls:=.type "tuple",data:=.seq ((List.replicate k.toNat its).foldl (·++·) #[])}}) :=
 .of_wp fun prog w A R s hs=>by
  obtain⟨ht,h⟩:=hs;show wpAny _ _ (asIndex (.int k tok)>>=_) _ _ _
  refine wpAny_bind (wpAny_pure ?_);show wpAny _ _ (if (decide (k < -(2^63))||decide (k ≥ 2^63))=true then _ else _) _ _ _
  rw[if_neg (by simp;omega)]
  show wpAny _ _ (Builtin.Tuple.tupleItemsOf (.ref t)>>=_) _ _ _
  refine wpAny_bind (tupleItemsOf_ ht ?_);have e1:its.isEmpty=false:=by
   rw[Array.isEmpty_eq_false_iff];rintro rfl;exact h1 rfl
  have e2:(k==1)=false:=by
   rw[beq_eq_false_iff_ne];omega
  show wpAny _ _ (if (its.isEmpty||k==1)=true then _ else _) _ _ _
  rw[e1,e2,if_neg (by simp)]
  show wpAny _ _ (if (decide (k<=0)||false)=true then _ else _) _ _ _
  rw[if_neg (by simp;omega)]
  have hk:((its.size:Nat):Int)*k=((its.size*k.toNat:Nat):Int):=by
   push_cast
   rw[Int.toNat_of_nonneg (by omega)]
  have hs:=oU
  show wpAny _ _ (if ((its.size:Nat):Int)*k > (2^63-1) / 8 then _ else _) _ _ _
  rw[if_neg ?c1]
  case c1 =>
   rw[hk];have:(sizeLine:Nat)<=(2^63-1) / 8:=by decide
   omega
  show wpAny _ _ (if (decide (((its.size:Nat):Int)*k > (sizeLine:Int)))=true then _ else _) _ _ _
  rw[if_neg ?c2]
  case c2 =>
   rw[hk];intro q;have q':=of_decide_eq_true q
   omega
  show wpAny _ _ (Builtin.Tuple.tupleExact ((List.replicate k.toNat its).foldl (·++·) #[])>>=_) _ _ _
  refine wpAny_bind (m:=Builtin.Tuple.tupleExact _) (wpAny_newObj_type (wpAny_pure ⟨_,rfl,h⟩) ?_);show((List.replicate k.toNat its).foldl (·++·) #[]).size<=sizeLine
  have e:=Ad its.toList k.toNat []
  rw[List.nil_append]at e;have e':(List.replicate k.toNat its).foldl (·++·) #[]=(List.replicate k.toNat its.toList).flatten.toArray:=e
  rw[e',List.size_toArray,xZ,Array.length_toList];exact h4
theorem Vals.rep{xs:List V}{us:List Value}(h:Vals xs us):∀ n:Nat,Vals (List.replicate n xs).flatten (List.replicate n us).flatten
 | 0=>.nil
 | n+1=>by
  rw[List.replicate_succ,List.replicate_succ,List.flatten_cons,List.flatten_cons];exact h.append (Vals.rep h n)
theorem RPs.rep{K:PySem.W.Frag}{Z:Addr->Prop}{m:Mu}{H:Hp}{xs:List PyData}{vs:List V}(h:RPs K Z m H xs vs):∀ n:Nat,RPs K Z m H (List.replicate n xs).flatten (List.replicate n vs).flatten
 | 0=>by simp[RPs]
 | n+1=>by
  rw[List.replicate_succ,List.replicate_succ,List.flatten_cons,List.flatten_cons];exact h.append (RPs.rep h n)
section
variable {X:Cx}
theorem Zm{pins:List (Addr×Obj)}{s:Shared}{σ:L2.St}{H:Hp}{Q:VK}{a:Addr}{xs:List V}{k:Int}{t:Tok}(I:Inv X pins σ H s)(ha:SqT X.K H a xs)(h1:xs≠[])(h2:2<=k)(h3:k<=100)(h4:xs.length*k.toNat<=sizeLine)
  (q:∀ p,H p=none->Q (.ref p) (aI H p (.tup (List.replicate k.toNat xs).flatten))):wpAny (model X.prog X.w) X.A (binaryOp .Mult (.ref a) (.int k t)) (EP X pins σ Q) X.xe s:=by
 obtain⟨its,r,p,hz⟩:=I.tuple ha;have hl:=r.length
 obtain⟨⟨cls,dd,data,sl⟩,ho,hc,n,hd⟩:=id p;simp only at hc hd;subst hc hd;refine wpAny_binaryOp_repeat_ref (T:="tuple") (U:="int") (by decide) ⟨_,ho,rfl⟩ (fun s'=>typeIs_int s' k t) L6 PySem.F.fills_int_mul PySem.F.slot_int_rmul Th PySem.F.slot_int_index.lookup
  (call_meets PySem.F.slot_int_rmul (typeIs_int s k t) PySem.F.entry_int_rmul (PySem.F.args_int_rmul_2 _ _) (p7 k t a its.toArray n dd sl) ⟨ho,rfl,⟨_,ho,rfl⟩,call_meets PySem.F.slot_tuple_mul ⟨_,ho,rfl⟩ PySem.F.entry_tuple_mul (PySem.F.args_tuple_mul_2 _ _) (Wz a its.toArray k t ?_ h2 h3 ?_) ⟨p,?_⟩⟩)
 ·rw[List.size_toArray,<- hl];intro e;exact h1 (List.length_eq_zero_iff.mp e)
 ·rw[List.size_toArray,<- hl];exact h4
 ·have e:=Ad its k.toNat []
  rw[List.nil_append]at e;rw[e];exact⟨.ref s.heap.objs.size,_,I.laid (t':=s.toks) (o:=.tup (List.replicate k.toNat xs).flatten) (fun b ob q=>Heap.get?_push_of_some _ q) (Nat.le_refl _) ⟨⟨by rw[xZ];exact h4,NoD.new _ _ _⟩,_,Vals.rep r k.toNat,IsTup.new _ _⟩,rfl,q _ (I.hok.fresh (Nat.le_refl _))⟩
end
end DL
namespace DL
open PySem PySem.Spec PyProof.Rows L2
@[simp] def dZ:D2
 | .dat (.int i),.dat (.int j),m,Q=>Q (.dat (.int (i+j))) m
 | .dat (.str a),.dat (.str b),m,Q=>a.length+b.length<=sizeLine/\Q (.dat (.str (a++b))) m
 | .dat (.tuple a),.dat (.tuple b),m,Q=>a.length+b.length<=sizeLine/\Q (.dat (.tuple (a++b))) m
 | .dat (.list a),.dat (.list b),m,Q=>a.length+b.length<=sizeLine/\Q (.dat (.list (a++b))) m
 | .cel c,.dat (.list b),m,Q=>∃ a,m c=some (.l a)/\a.length+b.length<=sizeLine/\Q (.dat (.list (a++b))) m
 | _,_,_,_=>False
@[simp] def Es:D2
 | .dat (.int i),.dat (.int j),m,Q=>Q (.dat (.int (i-j))) m
 | _,_,_,_=>False
@[simp] def nB:D2
 | .dat (.int i),.dat (.int j),m,Q=>IntMulOk i j/\Q (.dat (.int (i*j))) m
 | .dat (.tuple a),.dat (.int k),m,Q=>a≠[]/\2<=k/\k<=100/\a.length*k.toNat<=sizeLine/\Q (.dat (.tuple (List.replicate k.toNat a).flatten)) m
 | _,_,_,_=>False
@[simp] def pE:D2
 | .dat (.int i),.dat (.int j),m,Q=>j≠0/\j.natAbs.log2<9000/\Q (.dat (.int (i.fdiv j))) m
 | _,_,_,_=>False
@[simp] def iK:D2
 | .dat (.int i),.dat (.int j),m,Q=>j≠0/\Q (.dat (.int (i.fmod j))) m
 | _,_,_,_=>False
@[simp] def Cj:D2
 | .dat (.int i),.dat (.int j),m,Q=>(0<=j/\j<=1000000/\i.natAbs<2^64)/\Q (.dat (.int (i^j.toNat))) m
 | _,_,_,_=>False
@[simp] def vB:D2
 | .dat (.int i),.dat (.int j),m,Q=>Q (.dat (.bool (decide (i<j)))) m
 | _,_,_,_=>False
@[simp] def tU:D2
 | .dat (.int i),.dat (.int j),m,Q=>Q (.dat (.bool (decide (i<=j)))) m
 | _,_,_,_=>False
@[simp] def iS:D2
 | .dat (.int i),.dat (.int j),m,Q=>Q (.dat (.bool (decide (j<i)))) m
 | _,_,_,_=>False
@[simp] def Cy:D2
 | .dat (.int i),.dat (.int j),m,Q=>Q (.dat (.bool (decide (j<=i)))) m
 | _,_,_,_=>False
@[simp] def cK:D2
 | .dat (.str a),.dat (.str b),m,Q=>Q (.dat (.bool (decide (a=b)))) m
 | .dat p,.dat q,m,Q=>p.canLay0=true/\q.canLay0=true/\p.depth<=100/\Q (.dat (.bool (PyData.eqv p q))) m
 | _,_,_,_=>False
@[simp] def sD:D2
 | .dat (.str a),.dat (.str b),m,Q=>Q (.dat (.bool (!decide (a=b)))) m
 | .dat p,.dat q,m,Q=>p.canLay0=true/\q.canLay0=true/\p.depth<=100/\Q (.dat (.bool (!PyData.eqv p q))) m
 | _,_,_,_=>False
section
variable {X:Cx}
theorem RD.int{K:PySem.W.Frag}{Z:Addr->Prop}{m:Mu}{H:Hp}{i:Int}{v:V}(h:RD K Z m H (.dat (.int i)) v):v=.int i:=by simpa only[RD,RP] using h
theorem RD.ofInt{K:PySem.W.Frag}{Z:Addr->Prop}{m:Mu}{H:Hp}{i:Int}:RD K Z m H (.dat (.int i)) (.int i):=by simp only[RD,RP]
theorem RD.str{K:PySem.W.Frag}{Z:Addr->Prop}{m:Mu}{H:Hp}{i:Str}{v:V}(h:RD K Z m H (.dat (.str i)) v):v=.str i:=by simpa only[RD,RP] using h
theorem RD.ofStr{K:PySem.W.Frag}{Z:Addr->Prop}{m:Mu}{H:Hp}{i:Str}:RD K Z m H (.dat (.str i)) (.str i):=by simp only[RD,RP]
theorem Rn:cP X (binaryOp .Sub) Es:=by
 intro pins s σ H Z m x y dx dy v u R Q I ok rx ry r1 r2 h k;unfold Es at h
 split at h
 ·cases r1.int;cases r2.int
  exact Yt pins s σ H _ _ v u Q I rx ry ⟨_,_,rfl,rfl,k _ m _ H h Ext.refl ok .ofInt⟩
 ·exact h.elim
theorem qR:cP X (binaryOp .Mult) nB:=by
 intro pins s σ H Z m x y dx dy v u R Q I ok rx ry r1 r2 h k;unfold nB at h
 split at h
 ·cases r1.int;cases r2.int
  obtain⟨t,rfl⟩:=rx;obtain⟨t',rfl⟩:=ry;exact mul_int ⟨.int _,H,I.tok _,⟨_,rfl⟩,k _ m _ H h.2 Ext.refl ok .ofInt⟩ h.1
 ·rename_i a j;obtain⟨h1,h2,h3,h4,h5⟩:=h
  cases r2.int
  simp only[RD,RP]at r1;obtain⟨p,vs,rfl,g1,g2⟩:=r1
  cases rx
  obtain⟨t',rfl⟩:=ry;have hl:=g2.length
  refine Zm I g1 (fun e=>h1 ?_) h2 h3 (by rw[hl];exact h4) fun t ht=>?_
  ·subst e
   cases a with
   | nil=>rfl
   | cons _ _=>simp at hl
  ·have sm:Same H (aI H t (.tup (List.replicate j.toNat vs).flatten)):=bX ht
   refine k _ m _ _ h5 (ok.ext sm) (ok.grow sm) ?_;simp only[RD,RP];exact⟨t,_,rfl,.inl (.inl bQ),RPs.ext (ok.ext sm) _ _ (g2.rep _)⟩
 ·exact h.elim
theorem uR:cP X (binaryOp .FloorDiv) pE:=by
 intro pins s σ H Z m x y dx dy v u R Q I ok rx ry r1 r2 h k;unfold pE at h
 split at h
 ·cases r1.int;cases r2.int
  obtain⟨t,rfl⟩:=rx;obtain⟨t',rfl⟩:=ry;exact floordiv_int h.1 ⟨.int _,H,I.tok _,⟨_,rfl⟩,k _ m _ H h.2.2 Ext.refl ok .ofInt⟩ (.inl (PyProof.noPylong_of_log2 h.2.1))
 ·exact h.elim
theorem mH:cP X (binaryOp .Mod) iK:=by
 intro pins s σ H Z m x y dx dy v u R Q I ok rx ry r1 r2 h k;unfold iK at h
 split at h
 ·cases r1.int;cases r2.int
  exact H0 pins s σ H _ _ v u Q I rx ry ⟨_,_,rfl,rfl,h.1,k _ m _ H h.2 Ext.refl ok .ofInt⟩
 ·exact h.elim
theorem AY:cP X (binaryOp .Pow) Cj:=by
 intro pins s σ H Z m x y dx dy v u R Q I ok rx ry r1 r2 h k;unfold Cj at h
 split at h
 ·cases r1.int;cases r2.int
  exact Z6 pins s σ H _ _ v u Q I rx ry ⟨_,_,rfl,rfl,h.1,k _ m _ H h.2 Ext.refl ok .ofInt⟩
 ·exact h.elim
theorem Ot:cP X (compareOp .Lt) vB:=by
 intro pins s σ H Z m x y dx dy v u R Q I ok rx ry r1 r2 h k;unfold vB at h
 split at h
 ·cases r1.int;cases r2.int
  exact Wf pins s σ H _ _ v u Q I rx ry ⟨_,_,rfl,rfl,k _ m _ H h Ext.refl ok .ofBl⟩
 ·exact h.elim
theorem Ka:cP X (compareOp .LtE) tU:=by
 intro pins s σ H Z m x y dx dy v u R Q I ok rx ry r1 r2 h k;unfold tU at h
 split at h
 ·cases r1.int;cases r2.int
  exact u8 pins s σ H _ _ v u Q I rx ry ⟨_,_,rfl,rfl,k _ m _ H h Ext.refl ok .ofBl⟩
 ·exact h.elim
theorem oK:cP X (compareOp .Gt) iS:=by
 intro pins s σ H Z m x y dx dy v u R Q I ok rx ry r1 r2 h k;unfold iS at h
 split at h
 ·cases r1.int;cases r2.int
  exact Wb pins s σ H _ _ v u Q I rx ry ⟨_,_,rfl,rfl,k _ m _ H h Ext.refl ok .ofBl⟩
 ·exact h.elim
theorem M8:cP X (compareOp .GtE) Cy:=by
 intro pins s σ H Z m x y dx dy v u R Q I ok rx ry r1 r2 h k;unfold Cy at h
 split at h
 ·cases r1.int;cases r2.int
  exact Yx pins s σ H _ _ v u Q I rx ry ⟨_,_,rfl,rfl,k _ m _ H h Ext.refl ok .ofBl⟩
 ·exact h.elim
theorem dI(hu:X.A.units+100<cLine):cP X (compareOp .Eq) cK:=by
 intro pins s σ H Z m x y dx dy v u R Q I ok rx ry r1 r2 h k;unfold cK at h
 split at h
 ·cases r1.str;cases r2.str
  refine Wy pins s σ H _ _ v u Q I rx ry ⟨rfl,?_⟩;have e:∀ a b:Str,decide (V.str a=V.str b)=decide (a=b):=fun a b=>by
   rw[Bool.eq_iff_iff];simp
  rw[e];exact k _ m _ H h Ext.refl ok .ofBl
 ·rename_i p q hne;obtain⟨h1,h2,h3,h4⟩:=h;obtain⟨as,ra⟩:=RP.reads I p x v r1 rx;obtain⟨bs,rb⟩:=RP.reads I q y u r2 ry;exact SeqAt.compareEq_reads ra rb h1 h2 (by omega) ⟨.bl _,H,I,rfl,k _ m _ H h4 Ext.refl ok .ofBl⟩
 ·exact h.elim
theorem Bx(hu:X.A.units+100<cLine):cP X (compareOp .NotEq) sD:=by
 intro pins s σ H Z m x y dx dy v u R Q I ok rx ry r1 r2 h k;unfold sD at h
 split at h
 ·cases r1.str;cases r2.str
  refine V5 pins s σ H _ _ v u Q I rx ry ⟨rfl,?_⟩;have e:∀ a b:Str,decide (V.str a=V.str b)=decide (a=b):=fun a b=>by
   rw[Bool.eq_iff_iff];simp
  rw[e];exact k _ m _ H h Ext.refl ok .ofBl
 ·rename_i p q hne;obtain⟨h1,h2,h3,h4⟩:=h;obtain⟨as,ra⟩:=RP.reads I p x v r1 rx;obtain⟨bs,rb⟩:=RP.reads I q y u r2 ry;exact SeqAt.compareNe_reads ra rb h1 h2 (by omega) ⟨.bl _,H,I,rfl,k _ m _ H h4 Ext.refl ok .ofBl⟩
 ·exact h.elim
theorem Xv{pins:List (Addr×Obj)}{s:Shared}{σ:L2.St}{H:Hp}{Q:VK}{a b:Addr}{ys:List V}(I:Inv X pins σ H s)(ha:SqT X.K H a [])(hb:SqT X.K H b ys)(q:Q (.ref b) H) :
  wpAny (model X.prog X.w) X.A (binaryOp .Add (.ref a) (.ref b)) (EP X pins σ Q) X.xe s:=by
 obtain⟨its,r1,p1,_⟩:=I.tuple ha;obtain⟨its2,r2,p2,_⟩:=I.tuple hb
 cases r1
 obtain⟨⟨cls,dd,data,sl⟩,ho,hc,n,hd⟩:=id p1;obtain⟨⟨cls2,dd2,data2,sl2⟩,ho2,hc2,n2,hd2⟩:=id p2;simp only at hc hd hc2 hd2;subst hc hd hc2 hd2;exact concat_meets ⟨_,ho,rfl⟩ ⟨_,ho2,rfl⟩ noFill_tuple_add seq_tuple_add PySem.F.slot_tuple_add PySem.F.entry_tuple_add (PySem.F.args_tuple_add_2 _ _)
   (tuple_addW0 a b _ _ n n2 dd dd2 sl sl2 (by simp)) ⟨ho,ho2,⟨.ref b,H,I,rfl,q⟩⟩
theorem Ik:OpR X (binaryOp .Add) (fun x y H Q=>∃ a b xs ys,x=.ref a/\y=.ref b/\SqL X.K H a xs/\SqL X.K H b ys/\xs.length+ys.length<=sizeLine/\∀ p,H p=none->Q (.ref p) (aI H p (.lst (xs++ys)))):=by
 intro pins s σ H x y v u Q I rx ry h;obtain⟨a,b,xs,ys,rfl,rfl,ha,hb,hz,q⟩:=h
 cases rx
 cases ry
 obtain⟨its,r1,p1,_⟩:=I.list ha;obtain⟨its2,r2,p2,_⟩:=I.list hb;obtain⟨⟨cls,dd,data,sl⟩,ho,hc,n,hd⟩:=id p1.isList;obtain⟨⟨cls2,dd2,data2,sl2⟩,ho2,hc2,n2,hd2⟩:=id p2.isList;simp only at hc hd hc2 hd2;subst hc hd hc2 hd2;have l1:=r1.length
 have l2:=r2.length
 have e:its.toArray++its2.toArray=(its++its2).toArray:=by simp
 refine concat_meets ⟨_,ho,rfl⟩ ⟨_,ho2,rfl⟩ noFill_list_add seq_list_add PySem.F.slot_list_add PySem.F.entry_list_add (PySem.F.args_list_add_2 _ _)
   (list_addW a b its.toArray its2.toArray n n2 dd dd2 sl sl2 (by rw[List.size_toArray,List.size_toArray];omega)) ⟨ho,ho2,?_⟩
 rw[e];exact⟨.ref s.heap.objs.size,_,I.laid (t':=s.toks) (o:=.lst (xs++ys)) (fun b ob q=>Heap.get?_push_of_some _ q) (Nat.le_refl _) ⟨by rw[List.length_append];omega,_,0,r1.append r2,Heap.get?_push_size _ rfl⟩,rfl,q _ (I.hok.fresh (Nat.le_refl _))⟩
theorem eY:cP X (binaryOp .Add) dZ:=by
 intro pins s σ H Z m x y dx dy v u R Q I ok rx ry r1 r2 h k;unfold dZ at h
 split at h
 ·cases r1.int;cases r2.int
  exact O7 pins s σ H _ _ v u Q I rx ry ⟨_,_,rfl,rfl,k _ m _ H h Ext.refl ok .ofInt⟩
 ·cases r1.str;cases r2.str
  exact B1 pins s σ H _ _ v u Q I rx ry ⟨_,_,rfl,rfl,h.1,k _ m _ H h.2 Ext.refl ok .ofStr⟩
 ·rename_i a b;simp only[RD,RP]at r1 r2;obtain⟨p,vs,rfl,h1,h2⟩:=r1;obtain⟨q,ws,rfl,g1,g2⟩:=r2;have l1:=h2.length
  have l2:=g2.length
  by_cases e1:a=[]
  ·subst e1;simp only[RPs]at h2;subst h2
   cases rx;cases ry
   refine Xv I h1 g1 (k _ m _ H h.2 Ext.refl ok ?_);simp only[RD,RP];exact⟨q,ws,rfl,g1,by simpa using g2⟩
  ·refine Zu pins s σ H _ _ v u Q I rx ry ⟨p,q,vs,ws,rfl,rfl,h1,g1,?_,by omega,fun e2=>?_,fun e2 t ht=>?_⟩
   ·rintro rfl
    cases a with
    | nil=>exact e1 rfl
    | cons _ _=>simp at l1
   ·subst e2;have e3:b=[]:=by cases b with | nil=>rfl | cons _ _=>simp at l2
    subst e3;refine k _ m _ H h.2 Ext.refl ok ?_;simp only[RD,RP];exact⟨p,vs,rfl,h1,by simpa using h2⟩
   ·have sm:Same H (aI H t (.tup (vs++ws))):=bX ht
    refine k _ m _ _ h.2 (ok.ext sm) (ok.grow sm) ?_;simp only[RD,RP];exact⟨t,_,rfl,.inl (.inl bQ),RPs.ext (ok.ext sm) _ _ (h2.append g2)⟩
 ·rename_i a b;simp only[RD,RP]at r1 r2;obtain⟨p,vs,rfl,h0,h1,h2⟩:=r1;obtain⟨q,ws,rfl,g0,g1,g2⟩:=r2;have l1:=h2.length
  have l2:=g2.length
  refine Ik pins s σ H _ _ v u Q I rx ry ⟨p,q,vs,ws,rfl,rfl,h1,g1,by omega,fun t ht=>?_⟩
  have sm:Same H (aI H t (.lst (vs++ws))):=bX ht
  refine k _ m _ _ h.2 (ok.ext sm) (ok.grow sm) ?_;simp only[RD,RP];exact⟨t,_,rfl,dJ ok ht,.inl (.inl bQ),RPs.ext (ok.ext sm) _ _ (h2.append g2)⟩
 ·rename_i c b;obtain⟨aa,hm,hz,hq⟩:=h;obtain⟨rfl,_⟩:=r1;obtain⟨vs,g0,g3⟩:=ok.l hm;simp only[RD,RP]at r2;obtain⟨q,ws,rfl,_,g1,g2⟩:=r2;have l1:=g3.length
  have l2:=g2.length
  refine Ik pins s σ H _ _ v u Q I rx ry ⟨c,q,vs,ws,rfl,rfl,.inl (.inl g0),g1,by omega,fun t ht=>?_⟩
  have sm:Same H (aI H t (.lst (vs++ws))):=bX ht
  refine k _ m _ _ hq (ok.ext sm) (ok.grow sm) ?_;simp only[RD,RP];exact⟨t,_,rfl,dJ ok ht,.inl (.inl bQ),RPs.ext (ok.ext sm) _ _ (g3.append g2)⟩
 ·exact h.elim
end
end DL
namespace DL
open PySem PySem.Spec PyProof.Rows L2
section
variable {X:Cx}{a b c e:Expr}{es:List Expr}{f g:DE}{ga:DA}{pos p2 p:Pos}
@[simp] def wK(f:DE):DE:=fun d m Q=>f d m fun x m1=>∃ i,x=.dat (.int i)/\Q (.dat (.int (-i))) m1
theorem Vz(ha:PE X a (LE X.K f)):PE X (.UnaryOp .USub a pos) (LE X.K (wK f)) :=
 PE.imp (L8 Ql ha) fun s H Q h=>by
  obtain⟨Z,d,m,R,ok,rs,h,k⟩:=h;refine⟨Z,d,m,_,ok,rs,h,fun x m1 v H1 ⟨i,e,q⟩ e1 ok1 rd=>?_⟩;subst e;exact⟨i,rd.int,k _ m1 _ H1 q e1 ok1 .ofInt⟩
@[simp] def dC:D2
 | .dat (.tuple xs),.dat (.int i),m,Q=>∃ p,cS xs i=some p/\Q (.dat p) m
 | .dat (.list xs),.dat (.int i),m,Q=>∃ p,cS xs i=some p/\Q (.dat p) m
 | .cel a,.dat (.int i),m,Q=>∃ xs p,m a=some (.l xs)/\cS xs i=some p/\Q (.dat p) m
 | .dat (.str z),.dat (.int i),m,Q=>∃ c,z.length<=sizeLine/\cS z.cps.toList i=some c/\Q (.dat (.str ⟨#[c]⟩)) m
 | _,_,_,_=>False
theorem RPs.at{K:PySem.W.Frag}{Z:Addr->Prop}{m:Mu}{H:Hp}{xs:List PyData}{vs:List V}{i:Int}{p:PyData}(h:RPs K Z m H xs vs)(e:cS xs i=some p):∃ v,cS vs i=some v/\RP K Z m H p v:=by
 unfold cS at e ⊢;rw[h.length]
 cases q:gP xs.length i with
 | none=>rw[q]at e;cases e
 | some j =>
  rw[q]at e;exact h.get (i:=j) e
theorem CH(ha:PE X a (LE X.K f))(hb:PE X b (LE X.K g))(hs:Cr b:=by exact fun _ _=>rfl):PE X (.Subscript a b pos) (LE X.K (aN dC f g)) :=
 PE.imp (Yv Rr ha hb hs) fun s H Q h=>by
  obtain⟨Z,d,m,R,ok,rs,h,k⟩:=h;refine⟨Z,d,m,_,ok,rs,h,fun x m1 v H1 q e1 ok1 rx=>⟨Z,d,m1,_,ok1,rs.ext e1,q,fun y m2 w H2 q2 e2 ok2 ry=>?_⟩⟩;have rx2:=rx.ext e2
  have e12:=e1.trans e2
  unfold dC at q2
  split at q2
  ·obtain⟨p,ep,q⟩:=q2
   cases ry.int
   simp only[RD,RP]at rx2;obtain⟨a,vs,rfl,h1,h2⟩:=rx2;obtain⟨z,ez,rz⟩:=h2.at ep;exact .inr (.inl ⟨a,vs,_,z,rfl,rfl,h1,ez,k _ m2 z H2 q e12 ok2 rz⟩)
  ·obtain⟨p,ep,q⟩:=q2
   cases ry.int
   simp only[RD,RP]at rx2;obtain⟨a,vs,rfl,_,h1,h2⟩:=rx2;obtain⟨z,ez,rz⟩:=h2.at ep;exact .inl ⟨a,vs,_,z,rfl,rfl,h1,ez,k _ m2 z H2 q e12 ok2 rz⟩
  ·obtain⟨xs,p,hm,ep,q⟩:=q2
   cases ry.int
   obtain⟨rfl,_⟩:=rx2;obtain⟨vs,h1,h2⟩:=ok2.l hm;obtain⟨z,ez,rz⟩:=h2.at ep;exact .inl ⟨_,vs,_,z,rfl,rfl,.inl (.inl h1),ez,k _ m2 z H2 q e12 ok2 rz⟩
  ·obtain⟨c,hz,ec,q⟩:=q2
   cases ry.int
   cases rx2.str
   exact .inr (.inr ⟨_,_,c,rfl,rfl,hz,ec,k _ m2 _ H2 q e12 ok2 .ofStr⟩)
  ·exact q2.elim
abbrev DO:=aU->Mu->(Option Int->Mu->Prop)->Prop
def LO(K:PySem.W.Frag)(f:DO):TO:=fun s H Q=>∃ (Z:Addr->Prop) (d:aU) (m:Mu) (R:Option Int->Mu->Prop),Ok K Z m H/\RS K Z m H d s/\f d m R /\
 ∀ x m' H',R x m'->Ext K Z m H m' H'->Ok K Z m' H'->Q x H'
@[simp] def kR:DO:=fun _ m Q=>Q none m
@[simp] def kQ(f:DE):DO:=fun d m Q=>f d m fun x m1=>∃ i,x=.dat (.int i)/\Q (some i) m1
theorem PO.imp{e:Option Expr}{t t':TO}(h:PO X e t)(q:∀ s H Q,t' s H Q->t s H Q):PO X e t':=fun pins s d H Q I w=>h pins s d H Q I (q _ _ _ w)
theorem J1:PO X none (LO X.K kR):=PO.imp A9 fun s H Q h=>by
 obtain⟨Z,d,m,R,ok,rs,h,k⟩:=h;exact k none m H h Ext.refl ok
theorem Sz(ha:PE X a (LE X.K f)):PO X (some a) (LO X.K (kQ f)):=PO.imp (Yy ha) fun s H Q h=>by
 obtain⟨Z,d,m,R,ok,rs,h,k⟩:=h;refine⟨Z,d,m,_,ok,rs,h,fun x m1 v H1 ⟨i,e,q⟩ e1 ok1 rd=>?_⟩;subst e;exact⟨i,rd.int,k _ m1 H1 q e1 ok1⟩
def cM{α:Type}(xs:List α)(lo hi:Option Int):List α:=(xs.drop (HT.sIx xs.length 0 lo)).take (HT.sIx xs.length xs.length hi-HT.sIx xs.length 0 lo)
theorem yR{α:Type}(xs:List α)(lo hi:Option Int):(cM xs lo hi).length<=xs.length:=by
 unfold cM;rw[List.length_take,List.length_drop];omega
theorem RPs.cut{K:PySem.W.Frag}{Z:Addr->Prop}{m:Mu}{H:Hp}{xs:List PyData}{vs:List V}{lo hi:Option Int}(h:RPs K Z m H xs vs):RPs K Z m H (cM xs lo hi) (fH vs lo hi):=by
 unfold cM fH;rw[h.length];exact(h.drop _).take _
theorem Ii{α:Type}(xs:List α){lo hi:Option Int}(h:HT.sIx xs.length 0 lo=0/\HT.sIx xs.length xs.length hi=xs.length):cM xs lo hi=xs:=by
 unfold cM;rw[h.1,h.2];simp
def Sy(K:PySem.W.Frag):V->Option Int->Option Int->Hp->VK->Prop:=fun x lo hi H Q=>∃ a xs,x=.ref a/\SqT K H a xs /\
 (HT.sIx xs.length 0 lo=0/\HT.sIx xs.length xs.length hi=xs.length)/\Q (.ref a) H
theorem b8{prog:Program}{w:World}{A:Around}{E:Value->Shared->Prop}{s:Shared}{t sl:Addr}{items:Array Value}{vl vu:Value}{lo hi:Option Int}{Q:Value->Shared->Prop}(ht:IsTup s.heap t items)(hs:s.heap.IsSliceOf sl vl vu .none)(pl:IsPart vl lo)(pu:IsPart vu hi)
  (hw:HT.sIx items.size 0 lo=0/\HT.sIx items.size items.size hi=items.size)
  (h:Q (.ref t) s):wpAny (model prog w) A (getItem (.ref t) (.ref sl)) Q E s:=by
 obtain⟨os,hos,hcs,hds⟩:=id hs;have hTs:s.TypeIs (.ref sl) "slice":=⟨os,hos,hcs⟩
 unfold getItem
 try with_reducible refine wpAny_holding ?_
 first | refine wpAny_bind (wpAny_pure ?_) | skip
 refine wpAny_bind (wpAny_sequenceKey ht.typeIs (by decide) ?_)
 refine wpAny_bind (wpAny_callSpecial?_slot (name:=Str.ofString "__getitem__") ht.typeIs PyProof.Rows.slot_tuple_getitem
  (wpAny_call_entry PyProof.Rows.slot_tuple_getitem ht.typeIs entry_tuple_getitem ?_ (args_tuple_getitem _ _)))
 show wpAny _ _ (Builtin.Tuple.tupleItemsOf (.ref t)>>=_) _ _ s
 refine wpAny_bind (tupleItemsOf_ ht ?_);refine wpAny_bind (wpAny_typeOf hTs ?_);rw[if_pos (by decide)]
 refine wpAny_bind (HT.sliceApplied_gen hs pl pu ?_);have hyes:(((HT.sIx items.size 0 lo:Nat):Int)==0&&(1:Int)==1&&(HT.sIx items.size items.size hi-HT.sIx items.size 0 lo)==items.size)=true:=by
  rw[hw.1,hw.2];simp
 show wpAny _ _ (if (((HT.sIx items.size 0 lo:Nat):Int)==0&&(1:Int)==1&&(HT.sIx items.size items.size hi-HT.sIx items.size 0 lo)==items.size)=true then _ else _) _ _ s
 rw[if_pos hyes];refine wpAny_bind ?_;unfold Builtin.Tuple.tupleIsExact;refine wpAny_bind (wpAny_typeOf ht.typeIs (wpAny_pure ?_));rw[if_pos (by decide)]
 first
  | exact wpAny_bind (wpAny_rule (wpAny_pure ⟨_,rfl,wpAny_pure h⟩))
  | exact wpAny_bind (wpAny_rule (wpAny_bind (wpAny_pure (wpAny_pure ⟨_,rfl,wpAny_pure h⟩))))
theorem Kr:SlR X (Sy X.K):=by
 intro pins s σ H x v vl vu lo hi sl Q I rx hs pl pu h;obtain⟨a,xs,rfl,hx,hw,q⟩:=h
 cases rx
 obtain⟨its,r,ht,hz⟩:=I.tuple hx;have hlen:its.toArray.size=xs.length:=by rw[List.size_toArray];exact r.length.symm
 refine⟨"tuple",_,PyProof.Rows.slot_tuple_getitem.lookup,ht.typeIs,?_⟩;exact b8 ht hs pl pu (by rw[hlen];exact hw) ⟨.ref a,H,I,rfl,q⟩
abbrev DC:=List D->Mu->DK->Prop
def CallD(X:Cx)(fn:Value)(r:DC):Prop :=
 ∀ (pins:List (Addr×Obj)) (s:Shared) (σ:L2.St) (H:Hp) (Z:Addr->Prop) (m:Mu) (xs:List V) (ds:List D) (us:List Value) (R:DK) (Q:VK),Inv X pins σ H s->Ok X.K Z m H->Vals xs us->RDs X.K Z m H ds xs->r ds m R ->
  (∀ d m' v' H',R d m'->Ext X.K Z m H m' H'->Ok X.K Z m' H'->RD X.K Z m' H' d v'->Q v' H')->wpAny (model X.prog X.w) X.A (call fn us) (EP X pins σ Q) X.xe s
theorem CallD.cr{fn:Value}{r:DC}(h:CallD X fn r):CallR X fn (fun vs H Q=>∃ Z m ds R,Ok X.K Z m H/\RDs X.K Z m H ds vs/\r ds m R/\∀ d m' v' H',R d m'->Ext X.K Z m H m' H'->Ok X.K Z m' H'->RD X.K Z m' H' d v'->Q v' H'):=by
 intro pins s σ H xs us Q I r1 ⟨Z,m,ds,R,ok,rd,q,k⟩;exact h pins s σ H Z m xs ds us R Q I ok r1 rd q k
@[simp] def bS(r:DC)(g:DA):DE:=fun d m Q=>g d m fun xs m1=>r xs m1 Q
theorem LE.call{r:DC}{H:Hp}{σ:L2.St}{Q:VK}(h:LE X.K (bS r ga) σ H Q) :
  LA X.K ga σ H fun vs H1=>∃ Z m ds R,Ok X.K Z m H1/\RDs X.K Z m H1 ds vs/\r ds m R/\∀ d m' v' H',R d m'->Ext X.K Z m H1 m' H'->Ok X.K Z m' H'->RD X.K Z m' H' d v'->Q v' H':=by
 obtain⟨Z,d,m,R,ok,rs,h,k⟩:=h;exact⟨Z,d,m,_,ok,rs,h,fun xs m1 vs H1 q e1 ok1 r1=>⟨Z,m1,xs,R,ok1,r1,q,fun d' m' v' H' h1 h2 h3 h4=>k d' m' v' H' h1 (e1.trans h2) h3 h4⟩⟩
theorem S6{x:Str}{id:String}{r:DC}(hc:CallD X (.builtin id) r)(hg:Gl X x)(hm:X.mg x=none)(hv:bootBuiltins x=some (.builtin id))(ha:PA X (e::es) (LA X.K ga))(hn:x≠"__name__":=by decide)(hdb:(x==("__debug__" : Str))=false:=by decide)
  (he:starEach (e::es) X.env=(false,eval e X.env)::starEach es X.env:=by rfl) (hpl:(backTo pos (starEach es X.env)).any (·.1)=false:=by rfl):PE X (.Call (.Name x p) (e::es) [] pos) (LE X.K (bS r ga)) :=
 PE.imp (Gw hc.cr hg hm hv ha hn hdb he hpl) fun s H Q h=>h.call
theorem X7{x:Str}{T:String}{r:DC}(hc:CallD X (.type T) r)(hg:Gl X x)(hm:X.mg x=none)(hv:bootBuiltins x=some (.type T))(ha:PA X (e::es) (LA X.K ga))(hn:x≠"__name__":=by decide)(hdb:(x==("__debug__" : Str))=false:=by decide)
  (he:starEach (e::es) X.env=(false,eval e X.env)::starEach es X.env:=by rfl) (hpl:(backTo pos (starEach es X.env)).any (·.1)=false:=by rfl):PE X (.Call (.Name x p) (e::es) [] pos) (LE X.K (bS r ga)) :=
 PE.imp (Qw hc.cr hg hm hv ha hn hdb he hpl) fun s H Q h=>h.call
theorem RDs.one{K:PySem.W.Frag}{Z:Addr->Prop}{m:Mu}{H:Hp}{x:D}{vs:List V}(h:RDs K Z m H [x] vs):∃ v,vs=[v]/\RD K Z m H x v:=by
 obtain⟨v,r,h1,h2,h3⟩:=h
 cases (show r=[] from h3)
 exact⟨v,h1,h2⟩
theorem RDs.two{K:PySem.W.Frag}{Z:Addr->Prop}{m:Mu}{H:Hp}{x y:D}{vs:List V}(h:RDs K Z m H [x,y] vs):∃ v w,vs=[v,w]/\RD K Z m H x v/\RD K Z m H y w:=by
 obtain⟨v,r,h1,h2,h3⟩:=h;obtain⟨w,rfl,h4⟩:=RDs.one h3;exact⟨v,w,h1,h2,h4⟩
@[simp] def iI:DC
 | [.dat (.tuple xs)],m,Q=>Q (.dat (.int xs.length)) m
 | [.dat (.list xs)],m,Q=>Q (.dat (.int xs.length)) m
 | [.dat (.str z)],m,Q=>z.length<=sizeLine/\Q (.dat (.int z.length)) m
 | [.cel a],m,Q=>∃ xs,m a=some (.l xs)/\Q (.dat (.int xs.length)) m
 | _,_,_=>False
theorem lA:CallD X (.builtin "len") iI:=by
 intro pins s σ H Z m xs ds us R Q I ok rv rd h k;unfold iI at h
 split at h
 ·obtain⟨v,rfl,r1⟩:=rd.one;simp only[RD,RP]at r1;obtain⟨a,vs,rfl,h1,h2⟩:=r1;refine Ev pins s σ H _ us Q I rv ⟨a,vs,rfl,.inr h1,?_⟩;rw[h2.length];exact k _ m _ H h Ext.refl ok .ofInt
 ·obtain⟨v,rfl,r1⟩:=rd.one;simp only[RD,RP]at r1;obtain⟨a,vs,rfl,_,h1,h2⟩:=r1;refine Ev pins s σ H _ us Q I rv ⟨a,vs,rfl,.inl h1,?_⟩;rw[h2.length];exact k _ m _ H h Ext.refl ok .ofInt
 ·obtain⟨v,rfl,r1⟩:=rd.one
  cases r1.str
  exact E9 pins s σ H _ us Q I rv ⟨_,rfl,h.1,k _ m _ H h.2 Ext.refl ok .ofInt⟩
 ·obtain⟨v,rfl,r1⟩:=rd.one;obtain⟨rfl,_⟩:=r1;obtain⟨ys,hm,q⟩:=h;obtain⟨vs,h1,h2⟩:=ok.l hm;refine Ev pins s σ H _ us Q I rv ⟨_,vs,rfl,.inl (.inl (.inl h1)),?_⟩;rw[h2.length];exact k _ m _ H q Ext.refl ok .ofInt
 ·exact h.elim
@[simp] def oW:DC
 | [.dat (.int i)],m,Q=>Q (.dat (.int i)) m
 | [.dat (.bool b)],m,Q=>Q (.dat (.int (if b then 1 else 0))) m
 | _,_,_=>False
theorem vC:CallD X (.type "int") oW:=by
 intro pins s σ H Z m xs ds us R Q I ok rv rd h k;unfold oW at h
 split at h
 ·obtain⟨v,rfl,r1⟩:=rd.one
  cases r1.int
  exact Gq pins s σ H _ us Q I rv (.inl ⟨_,rfl,k _ m _ H h Ext.refl ok .ofInt⟩)
 ·obtain⟨v,rfl,r1⟩:=rd.one
  cases r1.bl
  exact Gq pins s σ H _ us Q I rv (.inr ⟨_,rfl,k _ m _ H h Ext.refl ok .ofInt⟩)
 ·exact h.elim
@[simp] def tM:DC
 | [.dat (.tuple xs)],m,Q=>Q (.dat (.list xs)) m
 | [.dat (.list xs)],m,Q=>Q (.dat (.list xs)) m
 | _,_,_=>False
theorem Gz:CallD X (.type "list") tM:=by
 intro pins s σ H Z m xs ds us R Q I ok rv rd h k;unfold tM at h
 split at h
 ·obtain⟨v,rfl,r1⟩:=rd.one;simp only[RD,RP]at r1;obtain⟨a,vs,rfl,h1,h2⟩:=r1;refine Hx pins s σ H _ us Q I rv ⟨a,vs,rfl,.inr h1,fun l hl=>?_⟩;have sm:Same H (aI H l (.lst vs)):=bX hl
  refine k _ m _ _ h (ok.ext sm) (ok.grow sm) ?_;simp only[RD,RP];exact⟨l,vs,rfl,dJ ok hl,.inl (.inl bQ),RPs.ext (ok.ext sm) _ _ h2⟩
 ·obtain⟨v,rfl,r1⟩:=rd.one;simp only[RD,RP]at r1;obtain⟨a,vs,rfl,_,h1,h2⟩:=r1;refine Hx pins s σ H _ us Q I rv ⟨a,vs,rfl,.inl h1,fun l hl=>?_⟩;have sm:Same H (aI H l (.lst vs)):=bX hl
  refine k _ m _ _ h (ok.ext sm) (ok.grow sm) ?_;simp only[RD,RP];exact⟨l,vs,rfl,dJ ok hl,.inl (.inl bQ),RPs.ext (ok.ext sm) _ _ h2⟩
 ·exact h.elim
@[simp] def pV:DC
 | [.dat p],m,Q=>p.showable=true/\p.shown.length<=sizeLine/\p.depth<=100/\Q (.dat (.str p.shown)) m
 | _,_,_=>False
theorem sK(hu:X.A.units+200<cLine)(hg:X.A.guards=some []):CallD X (.builtin "repr") pV:=by
 intro pins s σ H Z m xs ds us R Q I ok rv rd h k;unfold pV at h
 split at h
 ·rename_i p;obtain⟨v,rfl,r1⟩:=rd.one;obtain⟨u,rfl,ru⟩:=eS rv;obtain⟨h1,h2,h3,h4⟩:=h;have fin:∀ (tk tk':Nat),EP X pins σ Q (.str p.shown tk) {s with toks:=tk'}:=fun tk tk'=>⟨.str p.shown,H,I.tok _,⟨_,rfl⟩,k _ m _ H h4 Ext.refl ok .ofStr⟩
  have nd:=RP.noDict X.K p v r1 h1
  obtain⟨as,rd⟩:=RP.reads I p v u r1 ru
  cases rd with
  | none=>exact PySem.P.repr_of_none (fin _ _)
  | bool b=>exact PySem.P.repr_of_bool (by simpa only[PyData.shown] using fin _ _)
  | int i t=>exact PySem.P.repr_of_int (by simpa[PyData.showable] using h1) (by simpa only[PyData.shown] using fin _ _)
  | str x t=>exact PySem.P.repr_of_str (by simpa only[PyData.shown] using fin _ _) (by simpa only[PyData.shown] using h2)
  | list q1 q2 q3 q4 =>
   refine repr_of_reads' (.list q1 q2 q3 q4) h1 (PyData.noDict_hsm nd) hg (by omega) (fun _ _ e=>e) (fun h' u tk kp=>⟨.str _,H,I.kept kp,⟨_,rfl⟩,k _ m _ H h4 Ext.refl ok .ofStr⟩) h2
  | tuple q1 q2 q3 q4 =>
   refine repr_of_reads' (.tuple q1 q2 q3 q4) h1 (PyData.noDict_hsm nd) hg (by omega) (fun _ _ e=>e) (fun h' u tk kp=>⟨.str _,H,I.kept kp,⟨_,rfl⟩,k _ m _ H h4 Ext.refl ok .ofStr⟩) h2
  | dict q1 q2 q3 q4 q5=>simp only[PyData.hasDict]at nd;cases nd
 ·exact h.elim
end
end DL
namespace DL
open PySem PySem.Spec PyProof.Rows L2
section
variable {X:Cx}{st:Stmt}{rest body orelse:List Stmt}{t u b:DS}{e c tg iter:Expr}{f:DE}{tc:DT}{pos:Pos}
@[simp] def aR:DS:=fun E d m=>E.nx d m
@[simp] def aK(t u:DS):DS:=fun E d m=>t {E with nx:=u E} d m
theorem X1:PSs X [] (LS X.K aR):=PSs.imp Sn fun E s H h=>by
 obtain⟨Z,d,m,R,ok,rs,h,k,_⟩:=h;exact k d m s H h Ext.refl ok rs
theorem Vx(h1:PS X st (LS X.K t))(h2:PSs X rest (LS X.K u)):PSs X (st::rest) (LS X.K (aK t u)):=PSs.imp (Sg h1 h2) fun E s H h=>by
 obtain⟨Z,d,m,R,ok,rs,h,kn,kr,kb,kc⟩:=h;refine⟨Z,d,m,_,ok,rs,h,fun d' m' s' H' q e1 ok1 rs1=>⟨Z,d',m',R,ok1,rs1,q,?_,?_,?_,?_⟩,kr,kb,kc⟩
 ·exact fun d2 m2 s2 H2 q2 e2 ok2 rs2=>kn d2 m2 s2 H2 q2 (e1.trans e2) ok2 rs2
 ·exact fun x m2 v H2 q2 e2 ok2 r2=>kr x m2 v H2 q2 (e1.trans e2) ok2 r2
 ·exact fun d2 m2 s2 H2 q2 e2 ok2 rs2=>kb d2 m2 s2 H2 q2 (e1.trans e2) ok2 rs2
 ·exact fun d2 m2 s2 H2 q2 e2 ok2 rs2=>kc d2 m2 s2 H2 q2 (e1.trans e2) ok2 rs2
@[simp] def jO(f:DE):DS:=fun E d m=>f d m fun _ m1=>E.nx d m1
theorem Rb(he:PE X e (LE X.K f))(hs:swapsWith e none pos.line X.env=pure false:=by rfl):PS X (.Expr e pos) (LS X.K (jO f)):=PS.imp (Zl he hs) fun E s H h=>by
 obtain⟨Z,d,m,R,ok,rs,h,k,_⟩:=h;exact⟨Z,d,m,_,ok,rs,h,fun x m1 v H1 q e1 ok1 r1=>k d m1 s H1 q e1 ok1 (rs.ext e1)⟩
@[simp] def bN(f:DE):DS:=fun E d m=>f d m E.rt
theorem J2(he:PE X e (LE X.K f)):PS X (.Return (some e) pos) (LS X.K (bN f)):=PS.imp (D8 he) fun E s H h=>by
 obtain⟨Z,d,m,R,ok,rs,h,_,kr,_⟩:=h;exact⟨Z,d,m,_,ok,rs,h,fun x m1 v H1 q e1 ok1 r1=>kr x m1 v H1 q e1 ok1 r1⟩
@[simp] def cX(c:DT)(t u:DS):DS:=fun E d m=>c d m fun k m1=>if k=true then t E d m1 else u E d m1
theorem AL(hc:PT X c (LT X.K tc))(h1:PSs X body (LS X.K t))(h2:PSs X orelse (LS X.K u)):PS X (.If c body orelse pos) (LS X.K (cX tc t u)):=PS.imp (Vq hc h1 h2) fun E s H h=>by
 obtain⟨Z,d,m,R,ok,rs,h,kn,kr,kb,kc⟩:=h;refine⟨Z,d,m,_,ok,rs,h,fun k m1 H1 q e1 ok1=>?_⟩;have mk:∀ {z:DS},z R d m1->LS X.K z E s H1:=fun q=>⟨Z,d,m1,R,ok1,rs.ext e1,q,
  fun d2 m2 s2 H2 q2 e2 ok2 rs2=>kn d2 m2 s2 H2 q2 (e1.trans e2) ok2 rs2,fun x m2 v H2 q2 e2 ok2 r2=>kr x m2 v H2 q2 (e1.trans e2) ok2 r2,
  fun d2 m2 s2 H2 q2 e2 ok2 rs2=>kb d2 m2 s2 H2 q2 (e1.trans e2) ok2 rs2,fun d2 m2 s2 H2 q2 e2 ok2 rs2=>kc d2 m2 s2 H2 q2 (e1.trans e2) ok2 rs2⟩
 cases k with
 | true=>exact Qj (mk (by simpa using q))
 | false=>exact B0 (mk (by simpa using q))
@[simp] def bI(i:Nat)(f:DE):DS:=fun E d m=>f d m fun x m1=>E.nx (d.set i (some x)) m1
theorem Zf(i:Nat){x:Str}{pos':Pos}(hN:X.N.Nodup)(he:PE X e (LE X.K f))(hi:X.N[i]?=some x:=by rfl)(hx:gH X.env.scope x:=by first | exact Or.inl rfl | exact Or.inr rfl)
  (hs:swapsWith e (some (.Name x pos')) pos.line X.env=pure false:=by rfl) (hf:X.fn x=true\/X.env.scope.names.lookup x=some .local:=by first | exact .inl rfl | exact .inr rfl) :
  PS X (.Assign [.Name x pos'] e pos) (LS X.K (bI i f)):=PS.imp (T7 hN hi hx he hs hf) fun E s H h=>by
 obtain⟨Z,d,m,R,ok,rs,h,k,_⟩:=h;exact⟨Z,d,m,_,ok,rs,h,fun x m1 v H1 q e1 ok1 r1=>k _ m1 _ H1 q e1 ok1 ((rs.ext e1).set r1)⟩
abbrev DG:=D->aU->Mu->(aU->Mu->Prop)->Prop
abbrev iW:=List PyData->aU->Mu->(aU->Mu->Prop)->Prop
def LG(K:PySem.W.Frag)(g:DG):TG:=fun v s H Q=>∃ Z x d m R,Ok K Z m H/\RS K Z m H d s/\RD K Z m H x v/\g x d m R/\∀ d' m' s' H',R d' m'->Ext K Z m H m' H'->Ok K Z m' H'->RS K Z m' H' d' s'->Q s' H'
def jP(K:PySem.W.Frag)(g:iW):iF:=fun vs s H Q=>∃ Z ps d m R,Ok K Z m H/\RS K Z m H d s/\RPs K Z m H ps vs/\g ps d m R/\∀ d' m' s' H',R d' m'->Ext K Z m H m' H'->Ok K Z m' H'->RS K Z m' H' d' s'->Q s' H'
theorem PG.imp{t t':TG}(h:PG X e t)(q:∀ v s H Q,t' v s H Q->t v s H Q):PG X e t':=fun pins s d H v u Q I r w=>h pins s d H v u Q I r (q _ _ _ _ w)
theorem PGs.imp{es:List Expr}{t t':iF}(h:PGs X es t)(q:∀ v s H Q,t' v s H Q->t v s H Q):PGs X es t':=fun pins s d H v u Q I r w=>h pins s d H v u Q I r (q _ _ _ _ w)
@[simp] def gN(i:Nat):DG:=fun x d m Q=>Q (d.set i (some x)) m
theorem V0(i:Nat){x:Str}(hN:X.N.Nodup)(hi:X.N[i]?=some x:=by rfl)(hx:gH X.env.scope x:=by first | exact Or.inl rfl | exact Or.inr rfl)
  (hf:X.fn x=true\/X.env.scope.names.lookup x=some .local:=by first | exact .inl rfl | exact .inr rfl):PG X (.Name x pos) (LG X.K (gN i)):=PG.imp (Vv hN hi hx hf) fun v s H Q h=>by
 obtain⟨Z,x,d,m,R,ok,rs,rd,h,k⟩:=h;exact k _ m _ H h Ext.refl ok (rs.set rd)
@[simp] def nR:iW:=fun ps d m Q=>ps=[]/\Q d m
@[simp] def hV(g:DG)(r:iW):iW
 | p::qs,d,m,Q=>g (.dat p) d m fun d' m'=>r qs d' m' Q
 | [],_,_,_=>False
theorem Uk:PGs X [] (jP X.K nR):=PGs.imp j6 fun vs s H Q h=>by
 obtain⟨Z,ps,d,m,R,ok,rs,rp,⟨rfl,h⟩,k⟩:=h;simp only[RPs]at rp;exact⟨rp,k d m s H h Ext.refl ok rs⟩
theorem Q5{es:List Expr}{g:DG}{r:iW}(h1:PG X e (LG X.K g))(h2:PGs X es (jP X.K r))(hs:(assignEach (e::es) X.env).map (·.2)=assign e X.env::(assignEach es X.env).map (·.2):=by rfl) :
  PGs X (e::es) (jP X.K (hV g r)):=PGs.imp (AH h1 h2 hs) fun vs s H Q h=>by
 obtain⟨Z,ps,d,m,R,ok,rs,rp,h,k⟩:=h
 match ps,rp,h with
 | [],_,h=>exact h.elim
 | p::qs,rp,h =>
 simp only[RPs]at rp;obtain⟨v,w,rfl,r1,r2⟩:=rp;exact⟨v,w,rfl,Z,.dat p,d,m,_,ok,rs,r1,h,fun d' m' s' H' q e1 ok1 rs1=>⟨Z,qs,d',m',R,ok1,rs1,RPs.ext e1 _ _ r2,q,fun d2 m2 s2 H2 q2 e2 ok2 rs2=>k d2 m2 s2 H2 q2 (e1.trans e2) ok2 rs2⟩⟩
@[simp] def gT(n:Nat)(g:iW):DG:=fun x d m Q=>∃ ps,x=.dat (.tuple ps)/\ps.length=n/\g ps d m Q
theorem Ux{es:List Expr}{j n:Nat}{g:iW}(hc:X.calm=true)(h:PGs X es (jP X.K g))(hn:(assignEach es X.env).length=n:=by rfl)(hst:(assignEach es X.env).findIdx? (·.1)=none:=by rfl) :
  PG X (.Tuple es j pos) (LG X.K (gT n g)):=PG.imp (Uw hc h hn hst) fun v s H Q h=>by
 obtain⟨Z,x,d,m,R,ok,rs,rd,⟨ps,rfl,hl,h⟩,k⟩:=h;simp only[RD,RP]at rd;obtain⟨a,vs,rfl,h1,h2⟩:=rd;exact⟨a,vs,rfl,h1,by rw[h2.length];exact hl,Z,ps,d,m,R,ok,rs,h2,h,k⟩
abbrev DI:=aU->Mu->(List D->Mu->Prop)->Prop
def Yld(K:PySem.W.Frag)(Z:Addr->Prop)(m:Mu)(H:Hp)(x:D)(v:V)(H2 H3:Hp):Prop :=
 (H3=H2/\RD K Z m H x v)\/∃ p ps vs,x=.dat (.tuple ps)/\v=.ref p/\H2 p=none/\H3=aI H2 p (.tup vs)/\RPs K Z m H ps vs
theorem Yld.same{K:PySem.W.Frag}{Z:Addr->Prop}{m:Mu}{H H2 H3:Hp}{x:D}{v:V}(h:Yld K Z m H x v H2 H3):Same H2 H3:=by
 rcases h with⟨rfl,_⟩ | ⟨p,ps,vs,_,_,hp,rfl,_⟩
 ·exact fun _ _ q=>q
 ·exact bX hp
theorem Yld.rd{K:PySem.W.Frag}{Z Z':Addr->Prop}{m m':Mu}{H H2 H3:Hp}{x:D}{v:V}(tr:∀ d v,RD K Z m H d v->RD K Z' m' H2 d v)(ok:Ok K Z' m' H2)(h:Yld K Z m H x v H2 H3):RD K Z' m' H3 x v:=by
 rcases h with⟨rfl,h⟩ | ⟨p,ps,vs,rfl,rfl,hp,rfl,h⟩
 ·exact tr _ _ h
 ·have h2:=RPs.lift (fun p v q=>tr (.dat p) v q) h
  simp only[RD,RP];exact⟨p,vs,rfl,.inl (.inl bQ),RPs.ext (ok.ext (bX hp)) _ _ h2⟩
structure ExtY (K:PySem.W.Frag) (Z:Addr->Prop) (m:Mu) (H:Hp) (m':Mu) (H':Hp):Prop where
 t:∀ a vs,SqT K H a vs->SqT K H' a vs
 l:∀ a vs,(m a=none/\¬ Z a)->SqL K H a vs->m' a=none/\SqL K H' a vs
 fz:∀ a o u,H a=some (.frz o u)->H' a=some (.frz o u)
theorem Ext.y{K:PySem.W.Frag}{Z:Addr->Prop}{m m':Mu}{H H':Hp}(e:Ext K Z m H m' H'):ExtY K Z m H m' H':=⟨e.t,e.l,e.fz⟩
def lZ(K:PySem.W.Frag)(Z:Addr->Prop)(m:Mu)(H:Hp)(xs:List D)(J:It):Prop:=∀ m2 H2,ExtY K Z m H m2 H2 ->
 (∀ (i:Nat) (x:D),xs[i]?=some x->J.go i H2/\∀ v H3,J.yld i H2 v H3->Yld K Z m H x v H2 H3)/\J.stop xs.length H2
def LI(K:PySem.W.Frag)(fi:DI):TI:=fun s H R=>∃ (Z:Addr->Prop) (d:aU) (m:Mu) (ZZ:List D->Mu->Prop),Ok K Z m H/\RS K Z m H d s/\fi d m ZZ /\
 ∀ xs m' H' J,ZZ xs m'->Ext K Z m H m' H'->Ok K Z m' H'->lZ K Z m' H' xs J->R J H'
@[simp] def eB(f:DE):DI:=fun d m Q=>f d m fun x m1=>(∃ ps,x=.dat (.list ps)/\Q (ps.map .dat) m1)\/(∃ ps,x=.dat (.tuple ps)/\Q (ps.map .dat) m1)
theorem PI.imp{t t':TI}(h:PI X tg e t)(q:∀ s H R,t' s H R->t s H R):PI X tg e t':=fun pins s d H R I w=>h pins s d H R I (q _ _ _ w)
theorem vS{ps:List PyData}{i:Nat}{x:D}(h:(ps.map D.dat)[i]?=some x):∃ p,ps[i]?=some p/\x=.dat p:=by
 rw[List.getElem?_map]at h
 cases e:ps[i]? with
 | none=>rw[e]at h;cases h
 | some p=>rw[e]at h;cases h;exact⟨p,rfl,rfl⟩
theorem p9{K:PySem.W.Frag}{Z:Addr->Prop}{m:Mu}{H:Hp}{a:Addr}{vs:List V}{ps:List PyData}(h0:m a=none/\¬ Z a)(h1:SqL K H a vs)(h2:RPs K Z m H ps vs):lZ K Z m H (ps.map .dat) (Itl K a):=by
 intro m2 H2 e;obtain⟨q0,q1⟩:=e.l a vs h0 h1;have q2:=h2
 refine⟨fun i x hx=>?_,⟨vs,q1,by rw[q2.length,List.length_map];exact Nat.le_refl _⟩⟩
 obtain⟨p,hp,rfl⟩:=vS hx;obtain⟨v,hv,rv⟩:=h2.get hp;refine⟨⟨vs,v,q1,hv⟩,fun v' H3 y=>.inl ⟨y.1,?_⟩⟩;have:=y.2 vs q1
 rw[hv]at this
 cases this
 exact rv
theorem F4{K:PySem.W.Frag}{Z:Addr->Prop}{m:Mu}{H:Hp}{a:Addr}{vs:List V}{ps:List PyData}(h1:SqT K H a vs)(h2:RPs K Z m H ps vs):lZ K Z m H (ps.map .dat) (Aw K a):=by
 intro m2 H2 e;have q1:=e.t a vs h1
 have q2:=h2
 refine⟨fun i x hx=>?_,⟨vs,q1,by rw[q2.length,List.length_map];exact Nat.le_refl _⟩⟩
 obtain⟨p,hp,rfl⟩:=vS hx;obtain⟨v,hv,rv⟩:=h2.get hp;refine⟨⟨vs,v,q1,hv⟩,fun v' H3 y=>.inl ⟨y.1,?_⟩⟩;have:=y.2 vs q1
 rw[hv]at this
 cases this
 exact rv
theorem Kd{l:Expr}{tl:TE}(hl:PE X l tl):PI X tg l (fun s H R=>tl s H fun x H1=>(∃ a,x=.ref a/\(∃ xs,SqL X.K H1 a xs)/\R (Itl X.K a) H1)\/(∃ a,x=.ref a/\(∃ xs,SqT X.K H1 a xs)/\R (Aw X.K a) H1)):=by
 intro pins s σ H R I h;refine aM (hl pins s σ H _ I h) fun v s1 ⟨x,H1,I1,r1,q1⟩=>?_;rcases q1 with⟨a,e,⟨xs,hq⟩,q⟩ | ⟨a,e,⟨xs,hq⟩,q⟩
 ·subst e
  cases r1
  obtain⟨its,rv,p,hz⟩:=I1.list hq;refine wpAny_pyIter_list p.isList ?_;refine⟨s1.heap.objs.size,[s1.heap.objs.size],_,_,H1,rfl,I1.kept (t':=s1.toks) fun b o e=>Heap.get?_push_of_some _ e,Y3 a _,⟨_,Heap.get?_push_size _ rfl,rfl,rfl⟩,fun b hb=>?_,q⟩;have e:b=s1.heap.objs.size:=by simpa using hb
  subst e;exact I1.fpOk (Nat.le_refl _) (I1.hok.fresh (Nat.le_refl _))
 ·subst e
  cases r1
  obtain⟨its,rv,p,hz⟩:=I1.tuple hq;refine wpAny_pyIter_tuple (show s1.heap.IsTuple a its.toArray from p) ?_
  refine⟨s1.heap.objs.size,[s1.heap.objs.size],_,_,H1,rfl,I1.kept (t':=s1.toks) fun b o e=>Heap.get?_push_of_some _ e,g8 a _,⟨_,Heap.get?_push_size _ rfl,rfl,rfl⟩,fun b hb=>?_,q⟩;have e:b=s1.heap.objs.size:=by simpa using hb
  subst e;exact I1.fpOk (Nat.le_refl _) (I1.hok.fresh (Nat.le_refl _))
theorem P5(ha:PE X e (LE X.K f)):PI X tg e (LI X.K (eB f)):=PI.imp (Kd ha) fun s H R h=>by
 obtain⟨Z,d,m,ZZ,ok,rs,h,k⟩:=h;refine⟨Z,d,m,_,ok,rs,h,fun x m1 v H1 q e1 ok1 rd=>?_⟩;rcases q with⟨ps,rfl,q⟩ | ⟨ps,rfl,q⟩
 ·simp only[RD,RP]at rd;obtain⟨a,vs,rfl,h0,h1,h2⟩:=rd;exact .inl ⟨a,rfl,⟨vs,h1⟩,k _ m1 H1 _ q e1 ok1 (p9 h0 h1 h2)⟩
 ·simp only[RD,RP]at rd;obtain⟨a,vs,rfl,h1,h2⟩:=rd;exact .inr ⟨a,rfl,⟨vs,h1⟩,k _ m1 H1 _ q e1 ok1 (F4 h1 h2)⟩
def dS(lo:Int)(n:Nat):List D:=(List.range n).map fun i=>.dat (.int (lo+(i:Nat)))
@[simp] def mW(f:DE):DI:=fun d m Q=>f d m fun x m1=>∃ j:Int,x=.dat (.int j)/\-(2^62)<=j/\j<2^62/\Q (dS 0 j.toNat) m1
theorem Sl{p:Pos}(hg:Gl X "range")(hm:X.mg "range"=none)(ha:PE X e (LE X.K f))(hs:starEach [e] X.env=[(false,eval e X.env)]:=by rfl):PI X tg (.Call (.Name "range" p) [e] [] pos) (LI X.K (mW f)) :=
 PI.imp (Zg hg hm (kH ha lP (by rw[hs];rfl)) hs) fun s H R h=>by
  obtain⟨Z,d,m,ZZ,ok,rs,h,k⟩:=h;refine⟨Z,d,m,_,ok,rs,h,fun x m1 v H1 ⟨j,e,h1,h2,q⟩ e1 ok1 rd=>?_⟩;subst e
  cases rd.int
  show ∃ j':Int,[V.int j]=[V.int j']/\_
  refine⟨j,rfl,h1,h2,k _ m1 H1 _ q e1 ok1 fun m2 H2 e2=>⟨fun i x hx=>?_,?_⟩⟩
  ·unfold dS at hx;rw[List.getElem?_map]at hx
   cases ei:(List.range j.toNat)[i]? with
   | none=>rw[ei]at hx;cases hx
   | some i' =>
    rw[ei]at hx
    cases hx
    have hl:=(List.getElem?_eq_some_iff.mp ei).1
    have hi:i'=i:=by
     obtain⟨_,z⟩:=List.getElem?_eq_some_iff.mp ei;rw[List.getElem_range]at z;exact z.symm
    subst hi;rw[List.length_range]at hl;refine⟨hl,fun v' H3 y=>.inl ⟨y.1,?_⟩⟩;rw[y.2];exact .ofInt
  ·show j.toNat<=(dS 0 j.toNat).length
   unfold dS;rw[List.length_map,List.length_range];exact Nat.le_refl _
def gE(g:DG)(b:DS)(E:Ends2):List D->aU->Mu->Prop
 | [],d,m=>E.nx d m
 | x::xs,d,m=>g x d m fun d' m'=>b {E with nx:=gE g b E xs,ct:=gE g b E xs,bk:=E.nx} d' m'
@[simp] def gJ(fi:DI)(g:DG)(b:DS):DS:=fun E d m=>fi d m fun xs m1=>gE g b E xs d m1
theorem N3{fi:DI}{g:DG}(hp:PassesOwn (model X.prog X.w) X.A X.env X.xe)(hc:X.calm=true)(hi:PI X tg iter (LI X.K fi))(hg:PG X tg (LG X.K g))(hb:PSs X body (LS X.K b))
  (hs:∀ x,foldedSetIterable iter X.env x=pure x:=by intro _;rfl):PS X (.For tg iter body [] pos) (LS X.K (gJ fi g b)):=PS.imp (F9 hp hc hi hg hb hs) fun E s H h=>by
 obtain⟨Z,d,m,R,ok,rs,h,kn,kr,kb,kc⟩:=h;refine⟨Z,d,m,_,ok,rs,h,fun xs m1 H1 J q e1 ok1 yl=>?_⟩;refine⟨fun i n s' H'=>∃ d' m',n=xs.length-i/\i<=xs.length/\Ext X.K Z m1 H1 m' H'/\Ok X.K Z m' H'/\RS X.K Z m' H' d' s'/\gE g b R (xs.drop i) d' m',⟨xs.length,d,m1,by simp,Nat.zero_le _,Ext.refl,ok1,rs.ext e1,by simpa using q⟩,?_⟩
 rintro i n s2 H2 ⟨d2,m2,rfl,hi,e2,ok2,rs2,w⟩;obtain⟨y1,y2⟩:=yl m2 H2 e2.y
 by_cases hl:i<xs.length
 ·rw[List.drop_eq_getElem_cons hl]at w;obtain⟨go,yd⟩:=y1 i xs[i] (List.getElem?_eq_getElem hl);refine .inr ⟨go,fun s' H'=>∃ d' m',Ext X.K Z m1 H1 m' H'/\Ok X.K Z m' H'/\RS X.K Z m' H' d' s'/\gE g b R (xs.drop (i+1)) d' m',fun s' H' ⟨d',m',g1,g2,g3,g4⟩=>⟨xs.length-(i+1),by omega,d',m',rfl,hl,g1,g2,g3,g4⟩,fun v H3 y=>?_⟩
  have yy:=yd v H3 y
  have e2':=e2.trans (ok2.ext yy.same)
  refine⟨Z,xs[i],d2,m2,_,ok2.grow yy.same,rs2.ext (ok2.ext yy.same),yy.rd (fun d v h=>h.ext e2) ok2,w,fun d3 m3 s3 H3 q3 e3 ok3 rs3=>?_⟩;have e23:=e2'.trans e3
  have e13:=e1.trans e23
  exact⟨Z,d3,m3,_,ok3,rs3,q3,fun d4 m4 s4 H4 q4 e4 ok4 rs4=>⟨d4,m4,e23.trans e4,ok4,rs4,q4⟩,fun x m4 v H4 q4 e4 ok4 r4=>kr x m4 v H4 q4 (e13.trans e4) ok4 r4,
   fun d4 m4 s4 H4 q4 e4 ok4 rs4=>kn d4 m4 s4 H4 q4 (e13.trans e4) ok4 rs4,fun d4 m4 s4 H4 q4 e4 ok4 rs4=>⟨d4,m4,e23.trans e4,ok4,rs4,q4⟩⟩
 ·have e:i=xs.length:=by omega
  subst e;rw[List.drop_length]at w;exact .inl ⟨y2,kn d2 m2 s2 H2 w (e1.trans e2) ok2 rs2⟩
end
end DL
namespace DL
open PySem PySem.Spec PyProof.Rows L2
section
variable {X:Cx}{a e:Expr}{es:List Expr}{f:DE}{ga:DA}{pos p p1 p2 p3 p4:Pos}
@[simp] def wJ:PyData->String
 | .none=>"NoneType"
 | .bool _=>"bool"
 | .int _=>"int"
 | .str _=>"str"
 | .list _=>"list"
 | .tuple _=>"tuple"
 | .dict _=>"dict"
@[simp] def isK(q:PyData)(c:String):Bool:=wJ q==c||(wJ q == "bool" && c == "int")
theorem Vo(K:PySem.W.Frag)(q:PyData)(c:String)(hc:c="int"\/c="bool"\/c="str"\/c="tuple"\/c="list"):PySem.W.kitOne K (.type (wJ q)) (.type c)=some (isK q c):=by
 rcases hc with rfl | rfl | rfl | rfl | rfl<;>cases q<;>rfl
theorem Ug{pins:List (Addr×Obj)}{σ:L2.St}{H:Hp}{s:Shared}{a:Addr}{o:Obj}{u:HO}{vs:List (PyData×V)}(I:Inv X pins σ H s)(h:H a=some (.frz o u))(e:jM X.K u vs):s.heap.get? a=some o/\o.cls=.type "dict":=by
 obtain⟨g1,g2⟩:=(show ObjOk X.prog X.w H s.heap a (.frz o u) from I.hok a _ h)
 refine⟨g1,?_⟩
 cases u with
 | dK ws =>
  obtain⟨_,_,xs,_,o',es,ep,q1,q2,_⟩:=g2;rw[g1]at q1;cases q1;exact q2.1
 | dT ws =>
  obtain⟨_,_,xs,_,o',es,ep,q1,q2,_⟩:=g2;rw[g1]at q1;cases q1;exact q2.1
 | dN K' ws =>
  obtain⟨_,_,xs,_,o',es,ep,q1,q2,_⟩:=g2;rw[g1]at q1;cases q1;exact q2.1
 | _=>exact e.elim
theorem Vl{pins:List (Addr×Obj)}{σ:L2.St}{H:Hp}{s:Shared}{Z:Addr->Prop}{m:Mu}{A:Around}{E:Value->Shared->Prop}{Q:Value->Shared->Prop}{q:PyData}{v:V}{u c:Value}{b:Bool}(I:Inv X pins σ H s)(rp:RP X.K Z m H q v)(rv:RelV v u)
  (e:PySem.W.kitOne X.K (.type (wJ q)) c=some b) (h:∀ tk,Q (.bool b) {s with toks:=tk}):wpAny (model X.prog X.w) A (call (.builtin "isinstance") [u,c]) Q E s:=by
 cases q with
 | none=>simp only[RP]at rp;subst rp;cases rv;exact PySem.W.kia_one PySem.W.kitx_none I.kIn True.intro e (fun z=>nomatch z) h
 | bool y=>simp only[RP]at rp;subst rp;cases rv;exact PySem.W.kia_one PySem.W.kitx_bool I.kIn True.intro e (fun z=>nomatch z) h
 | int i=>simp only[RP]at rp;subst rp;obtain⟨t,rfl⟩:=rv;exact PySem.W.kia_one PySem.W.kitx_int I.kIn True.intro e (fun z=>nomatch z) h
 | str y=>simp only[RP]at rp;subst rp;obtain⟨t,rfl⟩:=rv;exact PySem.W.kia_one PySem.W.kitx_str I.kIn True.intro e (fun z=>nomatch z) h
 | tuple xs =>
  simp only[RP]at rp;obtain⟨a',vs,rfl,h1,_⟩:=rp
  cases rv
  obtain⟨its,_,⟨o,g1,g2,_⟩,_⟩:=I.tuple h1;exact PySem.W.kia_one PySem.W.kitx_tuple I.kIn ⟨o,g1,g2⟩ e (fun z=>nomatch z) h
 | list xs =>
  simp only[RP]at rp;obtain⟨a',vs,rfl,_,h1,_⟩:=rp
  cases rv
  obtain⟨its,_,⟨o,n,g1,g2,_⟩,_⟩:=I.list h1;exact PySem.W.kia_one PySem.W.kitx_list I.kIn ⟨o,g1,g2⟩ e (fun z=>nomatch z) h
 | dict kv =>
  simp only[RP]at rp;obtain⟨a',ob,u',vs,rfl,h1,h2,_⟩:=rp
  cases rv
  obtain⟨g1,g2⟩:=Ug I h1 h2;exact PySem.W.kia_one PySem.W.kitx_dict I.kIn ⟨ob,g1,g2⟩ e (fun z=>nomatch z) h
theorem i8:bootBuiltins "isinstance"=some (.builtin "isinstance"):=by decide +kernel
@[simp] def pT(f:DE)(c:String):DE:=fun d m Q=>f d m fun x m1=>∃ q,x=.dat q/\Q (.dat (.bool (isK q c))) m1
theorem B8{T:Str}{c:String}(hg:Gl X "isinstance")(hm:X.mg "isinstance"=none)(hgT:Gl X T)(hmT:X.mg T=none)(hv:bootBuiltins T=some (.type c))(hc:c="int"\/c="bool"\/c="str"\/c="tuple"\/c="list")
  (ha:PE X a (LE X.K f)) (hn:T≠"__name__":=by decide) (hd:(T==("__debug__" : Str))=false:=by decide)
  (he:starEach [a,.Name T p2] X.env=(false,eval a X.env)::starEach [.Name T p2] X.env:=by rfl) :
  PE X (.Call (.Name "isinstance" p1) [a,.Name T p2] [] pos) (LE X.K (pT f c)):=by
 have cr:CallR X (.builtin "isinstance") (fun vs H Q=>∃ Z m q v,RP X.K Z m H q v/\vs=[v,.ty c]/\Q (.bl (isK q c)) H):=by
  intro pins s σ H xs us Q I rv ⟨Z,m,q,v,rp,e,h⟩;subst e;obtain⟨u,w,rfl,r1,r2⟩:=Cv rv
  cases r2
  exact Vl I rp r1 (Vo X.K q c hc) fun tk=>⟨.bl _,H,I.tok _,rfl,h⟩
 refine PE.imp (Gw cr hg hm i8 (kH ha (kH (Uf (v:=.ty c) hgT hmT hv rfl hn hd) lP) he) (he:=he) (hpl:=rfl)) fun s H Q h=>?_;obtain⟨Z,d,m,R,ok,rs,h,k⟩:=h;refine⟨Z,d,m,_,ok,rs,h,fun x m1 v H1 ⟨q,e,h1⟩ e1 ok1 rd=>?_⟩;subst e;exact⟨Z,m1,q,v,rd,rfl,k _ m1 _ H1 h1 e1 ok1 .ofBl⟩
def LSp(K:PySem.W.Frag)(n:Nat)(sp:DC):Sp:=fun vs H Q _=>∃ Z ds m R,Ok K Z m H/\RDs K Z m H ds vs/\ds.length=n/\sp ds m R/\∀ d m' v' H',R d m'->Ext K Z m H m' H'->Ok K Z m' H'->RD K Z m' H' d v'->Q v' H'
theorem LSp.len{K:PySem.W.Frag}{n:Nat}{sp:DC}{vs:List V}{H:Hp}{Q:VK}{E:XK}(h:LSp K n sp vs H Q E):vs.length=n:=by
 obtain⟨Z,ds,m,R,_,rd,hl,_⟩:=h;rw[rd.length];exact hl
@[simp] def bB(n:Nat)(sp:DC)(g:DA):DE:=fun d m Q=>g d m fun xs m1=>xs.length=n/\sp xs m1 Q
theorem R4{k n:Nat}{fa:Addr}{fd:FuncData}{ps:List Str}{sp:DC}{x:Str}(F:FnOk X.prog X.w X.K X.mg X.base aV k fa fd ps (LSp X.K n sp))(hr:Room k X.A)(hm:X.mg x=some (.ref fa))(hk:PySem.W.keepIn X.K (.ref fa)=true)
  (hb:Binds X.K fd ps []) (hx:X.xe=fun _ _=>False) (ha:PA X (e::es) (LA X.K ga)) (hg:Gl X x:=by rfl) (hdb:(x==("__debug__" : Str))=false:=by decide)
  (he:starEach (e::es) X.env=(false,eval e X.env)::starEach es X.env:=by rfl) (hpl:(backTo pos (starEach es X.env)).any (·.1)=false:=by rfl):PE X (.Call (.Name x p) (e::es) [] pos) (LE X.K (bB n sp ga)) :=
 PE.imp (Rh F hr hg hm hk hb .nil (Ox (X:=X)) ha hdb he hpl) fun s H Q h=>by
  obtain⟨Z,d,m,R,ok,rs,h,k⟩:=h;refine⟨Z,d,m,_,ok,rs,h,fun xs m1 vs H1 ⟨hl,q⟩ e1 ok1 rd=>⟨Z,xs,m1,R,ok1,by simpa using rd,hl,q,fun d' m' v' H' h1 h2 h3 h4=>k d' m' v' H' h1 (e1.trans h2) h3 h4⟩⟩
@[simp] def bA(N:List Str)(ds:List D):aU:=ds.map some++List.replicate (N.length-ds.length) none
theorem RDs.get{K:PySem.W.Frag}{Z:Addr->Prop}{m:Mu}{H:Hp}:∀ {xs:List D} {vs:List V} {i:Nat} {x:D},RDs K Z m H xs vs->xs[i]?=some x->∃ v,vs[i]?=some v/\RD K Z m H x v
 | [],_,_,_,_,e=>by simp at e
 | _::_,_,0,x,⟨v,r,h1,h2,_⟩,e=>by
  simp at e;subst h1 e;exact⟨v,rfl,h2⟩
 | _::xs,_,i+1,x,⟨v,r,h1,_,h3⟩,e=>by
  obtain⟨u,q1,q2⟩:=RDs.get (i:=i) (x:=x) h3 (by simpa using e)
  subst h1;exact⟨u,by simpa using q1,q2⟩
theorem Zp{K:PySem.W.Frag}{Z:Addr->Prop}{m:Mu}{H:Hp}{N:List Str}{ds:List D}{vs:List V}(h:RDs K Z m H ds vs):RS K Z m H (bA N ds) (start N vs):=by
 have hl:=h.length
 refine⟨?_,fun i x hx=>?_⟩
 ·unfold bA L2.start;rw[List.length_append,List.length_append,List.length_map,List.length_map,List.length_replicate,List.length_replicate,hl]
 ·unfold bA at hx
  by_cases hi:i<ds.length
  ·rw[List.getElem?_append_left (by simpa using hi),List.getElem?_map]at hx
   cases e:ds[i]? with
   | none=>rw[e]at hx;cases hx
   | some y =>
    rw[e]at hx
    cases hx
    obtain⟨v,q1,q2⟩:=h.get e;refine⟨v,?_,q2⟩;unfold L2.start;rw[List.getElem?_append_left (by rw[List.length_map,hl];exact hi),List.getElem?_map,q1]
    rfl
  ·rw[List.getElem?_append_right (by simpa using hi),List.getElem?_replicate]at hx
   split at hx<;>cases hx
end
section
variable {P:Program}{w:World}{K:PySem.W.Frag}{mg:Str->Option Value}{base:Heap}
theorem BQ{x qual:Str}{st:Stmt}{fa:Addr}{fd:FuncData}{N ps:List Str}{k:Nat}{sp:DC}{body:DS}(F:Fun K x qual st fa fd)(S:FnScope N ps (aY st))
  (hb:∀ (cdv:Value) (A:Around) (outer:List Env) (s:Shared) (H:Hp) (E:XK),Room k (A.deeper (envOfC qual (aY st) s.heap.objs.size fa cdv)) ->
   PSs (kC aV P w K mg base N qual (aY st) fa cdv A outer s H E).nox (cA st) (LS K body))
  (hv:∀ ds m R,ds.length=ps.length->sp ds m R->body {nx:=fun _ m=>R (.dat .none) m,rt:=R} (bA N ds) m):FnOk P w K mg base aV (k+1) fa fd ps (LSp K ps.length sp):=by
 refine F.ok S (fun vs H Q E h=>h.len) (fun cdv A outer s H vs Q E hr h=>?_);obtain⟨Z,ds,m,R,ok,rd,hl,h,kk⟩:=h;refine⟨_,hb cdv A outer s H E hr,Z,bA N ds,m,_,ok,Zp rd,hv ds m R hl h,?_,?_,?_,?_⟩
 ·intro d' m' s' H' q e1 ok1 _;exact kk _ m' _ H' q e1 ok1 (by simp only[RD,RP])
 ·exact fun x m' v H' q e1 ok1 r1=>kk x m' v H' q e1 ok1 r1
 ·exact fun _ _ _ _ q _ _ _=>q.elim
 ·exact fun _ _ _ _ q _ _ _=>q.elim
end
end DL
namespace L2
open PySem
theorem Room.u100{k:Nat}{A:Around}(r:Room k A):A.units+100<cLine:=by have:=r.un;omega
theorem Room.u200{k:Nat}{A:Around}(r:Room k A):A.units+200<cLine:=by have:=r.un;omega
end L2
namespace DL
open PySem PySem.Spec PyProof.Rows L2
theorem lN:bootBuiltins "len"=some (.builtin "len"):=by decide +kernel
theorem v6:bootBuiltins "max"=some (.builtin "max"):=by decide +kernel
theorem tO:bootBuiltins "repr"=some (.builtin "repr"):=by decide +kernel
theorem vH:bootBuiltins "int"=some (.type "int"):=by decide +kernel
theorem j7:bootBuiltins "str"=some (.type "str"):=by decide +kernel
theorem Nh:bootBuiltins "list"=some (.type "list"):=by decide +kernel
theorem kE:bootBuiltins "tuple"=some (.type "tuple"):=by decide +kernel
end DL
namespace DL
open PySem PySem.Spec PyProof.Rows L2
theorem Cs{K:PySem.W.Frag}{Z:Addr->Prop}{m:Mu}{H:Hp}:∀ ns:List Int,RPs K Z m H (ns.map PyData.int) (ns.map V.int)
 | []=>by simp[RPs]
 | n::ns=>by
  simp only[List.map_cons,RPs];exact⟨_,_,rfl,by simp only[RP],Cs ns⟩
theorem y6{K:PySem.W.Frag}{sp:DC}{H:Hp}{a:Addr}{ns:List Int}{E:XK}(hS:SqL K H a (ns.map V.int))(h:sp [.dat (.list (ns.map .int))] (fun _=>none) (fun d _=>d=.dat (.bool true))):LSp K 1 sp [.ref a] H (fun v _=>v=.bl true) E:=by
 have ok:Ok K (fun _=>False) (fun _=>none) H:=⟨fun b ds e=>(by cases e),fun _ z=>False.elim z⟩
 refine⟨fun _=>False,[.dat (.list (ns.map .int))],fun _=>none,fun d _=>d=.dat (.bool true),ok,⟨.ref a,[],rfl,?_,rfl⟩,rfl,h,?_⟩
 ·simp only[RD,RP];exact⟨a,_,rfl,by first | exact⟨rfl,fun z=>z⟩ | simp,hS,Cs ns⟩
 ·rintro d m' v' H' rfl _ _ r;simpa only[RD,RP] using r
end DL
namespace DL
open PySem PySem.Spec PyProof.Rows L2
theorem Ey(env:Env):∀ (names:List (Str×NameKind)) (cs:List (Str×Addr)),(∀ x,(x,NameKind.free)∈names->∃ c,env.cells.lookup x=some c)->(∀ p∈cs,env.cells.lookup p.1=some p.2) ->
  ∃ cl:List (Str×Addr),(forIn names cs (fun(x:Str×NameKind) (r:List (Str×Addr))=>(if (x.2==.free)=true then (do let c <- cellOf env x.1;pure (ForInStep.yield ((x.1,c)::r))) else pure (ForInStep.yield r):Sem (ForInStep (List (Str×Addr))))))=pure cl /\
   (∀ p∈cl,env.cells.lookup p.1=some p.2)/\(∀ p∈cs,p∈cl)/\∀ x,(x,NameKind.free)∈names->∃ c,(x,c)∈cl
 | [],cs,_,h=>⟨cs,rfl,h,fun _ z=>z,fun x z=>nomatch z⟩
 | (n,k)::r,cs,hf,h=>by
  by_cases hk:k=.free
  ·subst hk;obtain⟨c,hc⟩:=hf n List.mem_cons_self;obtain⟨cl,e,h1,h2,h3⟩:=Ey env r ((n,c)::cs) (fun x hx=>hf x (List.mem_cons_of_mem _ hx)) (fun p hp=>by
    rcases List.mem_cons.mp hp with rfl | hp
    ·exact hc
    ·exact h p hp)
   refine⟨cl,?_,h1,fun p hp=>h2 p (List.mem_cons_of_mem _ hp),fun x hx=>?_⟩
   ·rw[List.forIn_cons];have e2:cellOf env n=pure c:=by unfold cellOf;rw[hc]
    simp only[beq_self_eq_true,if_true,e2,pure_bind];exact e
   ·rcases List.mem_cons.mp hx with z | hx
    ·cases z
     exact⟨c,h2 _ List.mem_cons_self⟩
    ·exact h3 x hx
  ·obtain⟨cl,e,h1,h2,h3⟩:=Ey env r cs (fun x hx=>hf x (List.mem_cons_of_mem _ hx)) h;refine⟨cl,?_,h1,h2,fun x hx=>?_⟩
   ·rw[List.forIn_cons];have e2:(k==NameKind.free)=false:=by simpa using hk
    simp only[e2,Bool.false_eq_true,if_false,pure_bind];exact e
   ·rcases List.mem_cons.mp hx with z | hx
    ·cases z
     exact absurd rfl hk
    ·exact h3 x hx
theorem Fn{scope:Scope}{env:Env}(hf:∀ x,(x,NameKind.free)∈scope.names->∃ c,env.cells.lookup x=some c) :
  ∃ cl:List (Str×Addr),closureFor scope env=pure cl/\(∀ p∈cl,env.cells.lookup p.1=some p.2)/\∀ x,(x,NameKind.free)∈scope.names->∃ c,(x,c)∈cl:=by
 obtain⟨cl,e,h1,_,h3⟩:=Ey env scope.names [] hf (fun _ z=>nomatch z);refine⟨cl,?_,h1,h3⟩;unfold closureFor
 first
  | exact e
  | (show(do let cs <- forIn scope.names ([]:List (Str×Addr)) _;pure cs:Sem _)=_;rw[e];rfl)
  | (simp only[];rw[e];rfl)
section
variable {prog:Program}{w:World}{A:Around}{R:Result->Shared->Prop}{s:Shared}
theorem f9{elt target iter:Expr}{ifs:List Expr}{scope:Scope}{pos:Pos}{it acc:Value}{env:Env}(I:Nat->Shared->Prop)
  (turn:∀ n s,I n s->wpAny (model prog w) A (pyNext it) (fun r s₁=>match r with
   | none=>R (.ok .next) s₁
   | some v=>wpAny (model prog w) A (letOwnedTupleGo target it v) (fun _ s₀=>wpAny (model prog w) A (assign target env v) (fun _ s₂ =>
     wpAny (model prog w) A (forIn ifs true fun c r=>if r=true then do let ok <- isTrue c env (eval c env);pure (ForInStep.yield ok) else pure (ForInStep.yield r)) (fun ok s₃ =>
      if ok=true then wpAny (model prog w) A (eval elt env) (fun x s₄ =>
       wpAny (model prog w) A (call (.builtin "list.append") [acc,x]) (fun _ s₅=>∃ m,m<n/\I m s₅) (fun _ _=>False) s₄) (fun _ _=>False) s₃
      else ∃ m,m<n/\I m s₃) (fun _ _=>False) s₂) (fun _ _=>False) s₀) (fun _ _=>False) s₁) (fun _ _=>False) s)
  (n:Nat) (h:I n s) :
  codeAny (model prog w) A (.compLoop (.ListComp elt [⟨target,iter,ifs,0⟩] scope pos) 0 it acc env) R s:=by
 have ff:∀ {E:Value->Shared->Prop} (x:Value) (s:Shared),False->E x s:=fun _ _ z=>z.elim
 refine codeAny_loop rfl I (fun n s hI=>?_) n h;show wpAny _ A ((compTurn (.ListComp elt [⟨target,iter,ifs,0⟩] scope pos) 0 it acc env).onRaise (fun x=>do noteFrame x env;theTreesLotGoes x)) _ _ s
 refine wpAny_noted ?_;rw[compTurn_list];refine wpAny_bind (wpAny_standAt (wpAny_bind (wpAny_mono (turn n s hI) (fun r s₁ h₁=>?_) ff)))
 cases r with
 | none=>exact wpAny_pure h₁
 | some v =>
  refine wpAny_bind (wpAny_mono h₁ (fun _ s₀ h₀=>?_) ff);refine wpAny_bind (wpAny_mono h₀ (fun _ s₂ h₂=>wpAny_bind (wpAny_mono h₂ (fun ok s₃ h₃=>?_) ff)) ff)
  cases ok with
  | true =>
   simp only[if_true]at h₃ ⊢;refine wpAny_bind (wpAny_bind (wpAny_mono h₃ (fun x s₄ h₄=>wpAny_bind (wpAny_mono h₄ (fun _ s₅ h₅=>wpAny_pure (wpAny_pure ⟨rfl,h₅⟩)) ff)) ff))
  | false =>
   simp only[Bool.false_eq_true,if_false]at h₃ ⊢;exact wpAny_pure ⟨rfl,h₃⟩
end
end DL
namespace DL
open PySem PySem.Spec PyProof.Rows L2
def aP(X:Cx)(scope:Scope)(cl:List (Str×Addr))(C:Addr)(NC:List Str)(s2:Shared)(H2:Hp)(pins:List (Addr×Obj))(fp:List Addr):Cx where
 prog:=X.prog
 w:=X.w
 K:=X.K
 mg:=X.mg
 base:=X.base
 A:=X.A
 N:=NC
 s₀:=s2
 H₀:=H2
 env:=compEnvC scope cl C X.env
 outer:=X.stack
 stack:=X.stack
 ex:=fp
 fn:=fun _=>false
 calm:=X.calm
 pn:=X.pn++pins
 xe:=fun _ _=>False
theorem qW{cl:List (Str×Addr)}{x:Str}{c:Addr}(h:cl.lookup x=some c):(x,c)∈cl:=PySem.mem_of_lookup h
theorem Ih{cl:List (Str×Addr)}{x:Str}:∀ {c:Addr},(x,c)∈cl->∃ c',cl.lookup x=some c':=by
 induction cl with
 | nil=>intro c h;cases h
 | cons p r ih =>
  intro c h;rw[List.lookup_cons]
  cases hx:x==p.1 with
  | true=>exact⟨_,rfl⟩
  | false =>
   rcases List.mem_cons.mp h with e | h
   ·subst e;simp at hx
   ·exact ih h
theorem Cc{env:Env}:∀ {names:List (Str×NameKind)} {x:Str},(∀ y∈names,y.2≠.cell) ->
  ((names.map fun(n,k)=>if (k==NameKind.free&&env.scope.kind==.function&&env.kindOf n==some .cell) then (n,NameKind.cell) else (n,k)).lookup x=some .cell \/
    (names.map fun(n,k)=>if (k==NameKind.free&&env.scope.kind==.function&&env.kindOf n==some .cell) then (n,NameKind.cell) else (n,k)).lookup x=some .free)->(x,NameKind.free)∈names
 | [],x,_,h=>by simp at h
 | (n,k)::r,x,hc,h=>by
  have ih:=@Cc env r x (fun y hy=>hc y (List.mem_cons_of_mem _ hy))
  by_cases hk:(k==NameKind.free&&env.scope.kind==.function&&env.kindOf n==some .cell)=true
  ·have kf:k=.free:=by
    rw[Bool.and_eq_true,Bool.and_eq_true]at hk;exact eq_of_beq hk.1.1
   subst kf;simp only[List.map_cons,hk,if_true,List.lookup_cons]at h
   cases hx:x==n with
   | true =>
    have:x=n:=eq_of_beq hx
    subst this;exact List.mem_cons_self
   | false =>
    simp only[hx]at h;exact List.mem_cons_of_mem _ (ih h)
  ·have hk':(k==NameKind.free&&env.scope.kind==.function&&env.kindOf n==some .cell)=false:=by simpa using hk
   simp only[List.map_cons,hk',Bool.false_eq_true,if_false,List.lookup_cons]at h
   cases hx:x==n with
   | true =>
    have:x=n:=eq_of_beq hx
    subst this;simp only[hx]at h;have hne:=hc (x,k) List.mem_cons_self
    rcases h with h | h
    ·exact absurd (Option.some.inj h) hne
    ·have:k=.free:=Option.some.inj h
     subst this;exact List.mem_cons_self
   | false =>
    simp only[hx]at h;exact List.mem_cons_of_mem _ (ih h)
section
variable {X:Cx}{pins:List (Addr×Obj)}{σ:L2.St}{H2:Hp}{s2:Shared}{scope:Scope}{cl:List (Str×Addr)}{NC:List Str}{fp:List Addr}{C:Addr}
theorem Zj(I2:Inv X pins σ H2 s2)(hf:∀ b∈fp,dD X pins H2 b)(hob:∀ b∈fp,∃ o,s2.heap.get? b=some o/\∀ v,o.data≠.cell v)(hkind:scope.kind=.function)(hcell:∀ y∈scope.names,y.2≠.cell)
  (hcl1:∀ p∈cl,X.env.cells.lookup p.1=some p.2) (hcl2:∀ x,(x,NameKind.free)∈scope.names->∃ c,(x,c)∈cl) (hC:s2.heap.objs.size<=C):(aP X scope cl C NC s2 H2 pins fp).Ok:=by
 have lk:∀ x c,cl.lookup x=some c->X.env.cells.lookup x=some c:=fun x c h=>hcl1 (x,c) (qW h)
 refine⟨I2.ok.mod,hkind,I2.ok.glob,I2.ok.blt,hC,fun x y c h1 h2=>I2.ok.inj x y c (lk x c h1) (lk y c h2),fun x hx=>?_,fun x c h=>absurd (show false=true from h) Bool.false_ne_true,I2.ok.hd,I2.ok.frames,.inl rfl,fun b hb=>⟨?_,fun x c h=>?_⟩,fun b o e=>I2.bs b o e,
  Nat.le_trans I2.ok.bsz I2.sz,fun b o e hb=>?_,fun b hb hs=>?_,I2.stack,I2.stkFree⟩
 ·obtain⟨c,hc⟩:=hcl2 x (Cc (env:=X.env) hcell hx);exact Ih hc
 ·obtain⟨o,ho,_⟩:=hob b hb;exact Nat.ne_of_lt (Nat.lt_of_lt_of_le (Heap.lt_size ho) hC)
 ·exact(hf b hb).2.2.2.2.1 x c (lk x c h)
 ·rcases (hf b hb).2.2.2.1 with z | z
  ·exact I2.ok.noex b o e z
  ·exact absurd (Nat.lt_of_lt_of_le (Heap.lt_size e) (Nat.le_trans I2.ok.bsz z)) (Nat.lt_irrefl _)
 ·rcases List.mem_cons.mp (I2.stkSub b hs) with z | z
  ·exact(hf b hb).2.1 z
  ·exact(hf b hb).2.2.1 z
theorem Gu{o0:HO}{σ':L2.St}{h₁:Heap}{tk:Nat}{mm:Str->Option Value}(I2:Inv X pins σ H2 s2)(hf:∀ b∈fp,dD X pins H2 b)(hob:∀ b∈fp,∃ o,s2.heap.get? b=some o/\∀ v,o.data≠.cell v)(hkind:scope.kind=.function)(hcell:∀ y∈scope.names,y.2≠.cell)
  (hcl1:∀ p∈cl,X.env.cells.lookup p.1=some p.2) (hcl2:∀ x,(x,NameKind.free)∈scope.names->∃ c,(x,c)∈cl)
  (hlen:σ'.length=NC.length) (hσ:∀ (i:Nat) (x:Str) (v:V),NC[i]?=some x->σ'[i]?=some (some v)->fT (relabel scope X.env) x->((relabel scope X.env).names.lookup x=some .cell\/(relabel scope X.env).names.lookup x=some .free)/\(X.env.kindOf x=some .cell\/X.env.kindOf x=some .free)/\∃ j:Nat,X.N[j]?=some x/\σ[j]?=some (some v))
  (hC:C=s2.heap.objs.size+1) (hns:h₁.Ns C mm) (hk:∀ b u,s2.heap.get? b=some u->h₁.get? b=some u)
  (hO:ObjOk X.prog X.w (aI H2 s2.heap.objs.size o0) h₁ s2.heap.objs.size o0) :
  Inv (aP X scope cl C NC s2 H2 pins fp) [] σ' (aI H2 s2.heap.objs.size o0) {s2 with heap:=h₁,toks:=tk}:=by
 have lk:∀ x c,cl.lookup x=some c->X.env.cells.lookup x=some c:=fun x c h=>hcl1 (x,c) (qW h)
 have hn:H2 s2.heap.objs.size=none:=I2.hok.fresh (Nat.le_refl _)
 have le1:s2.heap.objs.size<=C:=by rw[hC];exact Nat.le_succ _
 have ne1:C≠s2.heap.objs.size:=by rw[hC];exact Nat.succ_ne_self _
 have hCn:H2 C=none:=I2.hok.fresh le1
 have neD:∀ b o,s2.heap.get? b=some o->b≠s2.heap.objs.size:=fun b o e=>Nat.ne_of_lt (Heap.lt_size e)
 refine⟨Zj I2 hf hob hkind hcell hcl1 hcl2 le1,rfl,I2.bare,Un.laid hk (Nat.le_refl _) hn,⟨mm,hns,fun i x v h1 h2 h3=>?_⟩,fun x c h=>?_,?_,fun x c h=>?_,fun p hp=>?_,?_,hlen⟩
 ·obtain⟨hy,hx,j,hj,hv⟩:=hσ i x v h1 h2 h3;obtain⟨m,hnX,hl⟩:=I2.loc;have vis:fT X.env.scope x:=by rcases hx with z | z;exact .inr (.inl z);exact .inr (.inr z)
  obtain⟨u,r,l⟩:=hl j x v hj hv vis;refine⟨u,r,.inr ⟨hy,?_⟩⟩;obtain⟨c',hc'⟩:=hcl2 x (Cc (env:=X.env) hcell hy);obtain⟨c,hc⟩:=Ih hc';refine⟨c,hc,?_⟩;rcases l with⟨z,_⟩ | ⟨_,c2,e2,o,ho,hd⟩
  ·rcases hx with q | q
   ·rw[z]at q;cases q
   ·rw[z]at q;cases q
  ·have:=lk x c hc
   rw[e2]at this
   cases this
   exact⟨o,hk _ o ho,hd⟩
 ·obtain⟨v,o,ho,hd⟩:=I2.cell x c (lk x c h);exact⟨v,o,hk _ o ho,hd⟩
 ·show aI H2 s2.heap.objs.size o0 C=none
  rw[aX ne1];exact hCn
 ·obtain⟨v,o,ho,hd⟩:=I2.cell x c (lk x c h);rw[aX (neD c o ho)];exact I2.freeC x c (lk x c h)
 ·have hp':p∈X.pn++pins:=by
   rcases List.mem_append.mp hp with z | z
   ·exact z
   ·cases z
  obtain⟨e,n,ne,nf,d⟩:=I2.pin p hp';refine⟨hk _ _ e,by rw[aX (neD _ _ e)];exact n,?_,fun z=>?_,d⟩
  ·show p.1≠C
   exact Nat.ne_of_lt (Nat.lt_of_lt_of_le (Heap.lt_size e) le1)
  ·rcases List.mem_cons.mp (I2.stkSub p.1 z) with q | q
   ·exact ne q
   ·exact nf q
 ·exact I2.hok.laid hk (Nat.le_refl _) hO
theorem Ng{σ':L2.St}{h₁:Heap}{tk:Nat}{mm:Str->Option Value}(I2:Inv X pins σ H2 s2)(hf:∀ b∈fp,dD X pins H2 b)(hob:∀ b∈fp,∃ o,s2.heap.get? b=some o/\∀ v,o.data≠.cell v)(hkind:scope.kind=.function)(hcell:∀ y∈scope.names,y.2≠.cell)
  (hcl1:∀ p∈cl,X.env.cells.lookup p.1=some p.2) (hcl2:∀ x,(x,NameKind.free)∈scope.names->∃ c,(x,c)∈cl)
  (hlen:σ'.length=NC.length) (hσ:∀ (i:Nat) (x:Str) (v:V),NC[i]?=some x->σ'[i]?=some (some v)->fT (relabel scope X.env) x->((relabel scope X.env).names.lookup x=some .cell\/(relabel scope X.env).names.lookup x=some .free)/\(X.env.kindOf x=some .cell\/X.env.kindOf x=some .free)/\∃ j:Nat,X.N[j]?=some x/\σ[j]?=some (some v))
  (hC:C=s2.heap.objs.size+1) (hns:h₁.Ns C mm) (hk:∀ b u,s2.heap.get? b=some u->h₁.get? b=some u)
  (hD:h₁.get? s2.heap.objs.size=some {cls:=.type "list",data:=.seq ([]:List Value).toArray}) :
  Inv (aP X scope cl C NC s2 H2 pins fp) [] σ' (aI H2 s2.heap.objs.size (.lst [])) {s2 with heap:=h₁,toks:=tk} :=
 Gu I2 hf hob hkind hcell hcl1 hcl2 hlen hσ hC hns hk ⟨Nat.zero_le _,[],0,.nil,hD⟩
theorem Fo{py:List (Addr×Obj)}{σ'':L2.St}{H':Hp}{s':Shared}{h':Heap}(I2:Inv X pins σ H2 s2)(hf:∀ b∈fp,dD X pins H2 b)(Iy:Inv (aP X scope cl C NC s2 H2 pins fp) py σ'' H' s')(hC:s2.heap.objs.size<=C)(hs:Heap.SameBut C s'.heap h') :
  Inv X pins σ H' {s' with heap:=h'}:=by
 have u:Un (fP X.stack) fp H2 H' s2.heap s'.heap:=Iy.base
 have neC:∀ b o,s2.heap.get? b=some o->b≠C:=fun b o e=>Nat.ne_of_lt (Nat.lt_of_lt_of_le (Heap.lt_size e) hC)
 have fC:H' C=none:=Iy.free
 refine I2.call' (s':={s' with heap:=h'}) (ch:=fp) Iy.os ⟨fun b o e n hb hx=>(hs.2 b (neC b o e)).trans (u.keep b o e n hb hx),fun b o e n hb hx=>?_,u.free,fun b o e hx=>?_,u.tups,u.frzs,u.tbls⟩ (fun b o e=>?_) Iy.bare fun b hb=>?_
 ·obtain⟨sl,q⟩:=u.slot b o e n hb hx;exact⟨sl,(hs.2 b (neC b o e)).trans q⟩
 ·obtain⟨o',q⟩:=u.there b o e hx;exact⟨o',(hs.2 b (neC b o e)).trans q⟩
 ·refine(Iy.hok b o e).stay (fun c v hc q=>(hs.2 c ?_).trans q) (fun _ q=>q) (fun _ _ q=>q) fun _ _ _ q=>q;rintro rfl;rcases hc with rfl | hc
  ·rw[fC]at e;cases e
  ·rw[fC]at hc;cases hc
 ·obtain⟨_,f1,_,f3,f4,f5⟩:=hf b hb;exact⟨f3,f1,f4,f5⟩
end
end DL
namespace DL
open PySem PySem.Spec PyProof.Rows L2
section
variable {K:PySem.W.Frag}{Z Y:Addr->Prop}{m m':Mu}{H H':Hp}
mutual
theorem RP.tr0(ht:∀ a vs,SqT K H a vs->SqT K H' a vs)(hl:∀ a vs,(m a=none/\¬ Z a)->SqL K H a vs->(m' a=none/\¬ Y a)/\SqL K H' a vs)(hf:∀ a o u,H a=some (.frz o u)->H' a=some (.frz o u)):∀ (p:PyData) (v:V),RP K Z m H p v->RP K Y m' H' p v
 | .none,v,h=>by simpa only[RP] using h
 | .bool _,v,h=>by simpa only[RP] using h
 | .int _,v,h=>by simpa only[RP] using h
 | .str _,v,h=>by simpa only[RP] using h
 | .tuple xs,v,h=>by
  simp only[RP]at h ⊢;obtain⟨a,vs,h1,h2,h3⟩:=h;exact⟨a,vs,h1,ht a vs h2,RPs.tr0 ht hl hf xs vs h3⟩
 | .list xs,v,h=>by
  simp only[RP]at h ⊢;obtain⟨a,vs,h1,h2,h3,h4⟩:=h;obtain⟨q1,q2⟩:=hl a vs h2 h3;exact⟨a,vs,h1,q1,q2,RPs.tr0 ht hl hf xs vs h4⟩
 | .dict kvs,v,h=>by
  simp only[RP]at h ⊢;obtain⟨a,o,u,vs,h1,h2,h3,h4⟩:=h;exact⟨a,o,u,vs,h1,hf a o u h2,h3,RPd.tr0 ht hl hf kvs _ h4⟩
theorem RPd.tr0(ht:∀ a vs,SqT K H a vs->SqT K H' a vs)(hl:∀ a vs,(m a=none/\¬ Z a)->SqL K H a vs->(m' a=none/\¬ Y a)/\SqL K H' a vs)(hf:∀ a o u,H a=some (.frz o u)->H' a=some (.frz o u)):∀ (xs:List (PyData×PyData)) (vs:List (PyData×V)),RPd K Z m H xs vs->RPd K Y m' H' xs vs
 | [],vs,h=>by simpa only[RPd] using h
 | (k,p)::xs,vs,h=>by
  simp only[RPd]at h ⊢;obtain⟨v,r,h1,h2,h3⟩:=h;exact⟨v,r,h1,RP.tr0 ht hl hf p v h2,RPd.tr0 ht hl hf xs r h3⟩
theorem RPs.tr0(ht:∀ a vs,SqT K H a vs->SqT K H' a vs)(hl:∀ a vs,(m a=none/\¬ Z a)->SqL K H a vs->(m' a=none/\¬ Y a)/\SqL K H' a vs)(hf:∀ a o u,H a=some (.frz o u)->H' a=some (.frz o u)):∀ (xs:List PyData) (vs:List V),RPs K Z m H xs vs->RPs K Y m' H' xs vs
 | [],vs,h=>by simpa only[RPs] using h
 | x::xs,vs,h=>by
  simp only[RPs]at h ⊢;obtain⟨v,r,h1,h2,h3⟩:=h;exact⟨v,r,h1,RP.tr0 ht hl hf x v h2,RPs.tr0 ht hl hf xs r h3⟩
end
theorem RP.tr(ht:∀ a vs,SqT K H a vs->SqT K H' a vs)(hl:∀ a vs,(m a=none/\¬ Z a)->SqL K H a vs->(m' a=none/\¬ Y a)/\SqL K H' a vs)(p:PyData)(v:V)(h:RP K Z m H p v)(hf:∀ a o u,H a=some (.frz o u)->H' a=some (.frz o u):=by first | exact fun _ _ _ q=>q | exact Ext.fz ‹_› | (intro a o u q;first | (rw[aX (by rintro rfl;simp_all)];exact q) | (unfold aI;split<;>simp_all))):RP K Y m' H' p v:=RP.tr0 ht hl hf p v h
theorem RPs.tr(ht:∀ a vs,SqT K H a vs->SqT K H' a vs)(hl:∀ a vs,(m a=none/\¬ Z a)->SqL K H a vs->(m' a=none/\¬ Y a)/\SqL K H' a vs)(p:List PyData)(v:List V)(h:RPs K Z m H p v)(hf:∀ a o u,H a=some (.frz o u)->H' a=some (.frz o u):=by first | exact fun _ _ _ q=>q | exact Ext.fz ‹_› | (intro a o u q;first | (rw[aX (by rintro rfl;simp_all)];exact q) | (unfold aI;split<;>simp_all))):RPs K Y m' H' p v:=RPs.tr0 ht hl hf p v h
def aJ(Z:Addr->Prop)(D:Addr):Addr->Prop:=fun a=>Z a\/a=D
variable {D:Addr}{ys zs:List V}
theorem Pe(hD:H D=none)(hk:K.lookup D=none):∀ a vs,(m a=none/\¬ Z a)->SqL K H a vs->(m a=none/\¬ aJ Z D a)/\SqL K (aI H D (.lst ys)) a vs:=fun a vs h1 h2 =>
 ⟨⟨h1.1,fun z=>z.elim h1.2 (SqL.ne hD hk h2)⟩,(bX hD).seq h2⟩
theorem nP(hD:H D=some (.lst ys)):∀ a vs,SqT K H a vs->SqT K (aI H D (.lst zs)) a vs:=fun b xs h=>by
 rcases h with (h | ⟨o,h⟩) | h
 ·have ne:b≠D:=by rintro rfl;rw[hD]at h;cases h
  exact .inl (.inl (by rw[aX ne];exact h))
 ·have ne:b≠D:=by rintro rfl;rw[hD]at h;cases h
  exact .inl (.inr ⟨o,by rw[aX ne];exact h⟩)
 ·exact .inr h
theorem Ao{a:Addr}{vs:List V}(ne:a≠D)(h:SqL K H a vs):SqL K (aI H D (.lst zs)) a vs:=by
 rcases h with (h | ⟨o,h⟩) | h
 ·exact .inl (.inl (by rw[aX ne];exact h))
 ·exact .inl (.inr ⟨o,by rw[aX ne];exact h⟩)
 ·exact .inr h
theorem wH:∀ a vs,(m a=none/\¬ aJ Z D a)->SqL K H a vs->(m a=none/\¬ aJ Z D a)/\SqL K (aI H D (.lst zs)) a vs:=fun a vs h1 h2 =>
 ⟨h1,Ao (fun e=>h1.2 (.inr e)) h2⟩
end
section
variable {K:PySem.W.Frag}{Z:Addr->Prop}{m m1 m':Mu}{H H1 H':Hp}{D:Addr}{ys zs:List V}
theorem Jy{x:DL.D}{v:V}(hD:H D=none)(hk:K.lookup D=none)(h:RD K Z m H x v):RD K (aJ Z D) m (aI H D (.lst ys)) x v:=by
 cases x with
 | dat p=>exact RP.tr (fun a vs q=>SqT.same (bX hD) q) (Pe hD hk) p v h
 | cel a=>exact h
theorem Iu{x:DL.D}{v:V}(hD:H D=some (.lst ys))(h:RD K (aJ Z D) m H x v):RD K (aJ Z D) m (aI H D (.lst zs)) x v:=by
 cases x with
 | dat p=>exact RP.tr (nP hD) wH p v h
 | cel a=>exact h
theorem Hv(ok:Ok K Z m H)(hD:H D=none)(hk:K.lookup D=none):Ok K (aJ Z D) m (aI H D (.lst ys)):=by
 refine⟨fun a c h=>?_,fun a h=>?_⟩
 ·obtain⟨o,h1,h2⟩:=ok.g a c h;have ne:a≠D:=by rintro rfl;rw[hD]at h1;cases h1
  exact⟨o,by rw[aX ne];exact h1,h2.lift fun p v q=>RP.tr (fun a vs q=>SqT.same (bX hD) q) (Pe hD hk) p v q⟩
 ·rcases h with h | h
  ·have ne:a≠D:=by rintro rfl;exact(ok.z a h).2 hD
   exact⟨(ok.z a h).1,by rw[aX ne];exact(ok.z a h).2⟩
  ·subst h;exact⟨(dJ ok hD).1,by rw[bQ];intro z;cases z⟩
theorem Ph(ok:Ok K (aJ Z D) m H)(hD:H D=some (.lst ys)):Ok K (aJ Z D) m (aI H D (.lst zs)):=by
 refine⟨fun a c h=>?_,fun a h=>?_⟩
 ·obtain⟨o,h1,h2⟩:=ok.g a c h;have ne:a≠D:=by
   rintro rfl;have:=(ok.z a (.inr rfl)).1
   rw[h]at this
   cases this
  exact⟨o,by rw[aX ne];exact h1,h2.lift fun p v q=>RP.tr (nP hD) wH p v q⟩
 ·by_cases e:a=D
  ·subst e;exact⟨(ok.z a h).1,by rw[bQ];intro z;cases z⟩
  ·exact⟨(ok.z a h).1,by rw[aX e];exact(ok.z a h).2⟩
theorem xG(ok:Ok K (aJ Z D) m H):Ok K Z m H:=by
 refine⟨fun a c h=>?_,fun a h=>ok.z a (.inl h)⟩;obtain⟨o,h1,h2⟩:=ok.g a c h;exact⟨o,h1,h2.lift fun p v q=>RP.tr (fun _ _ q=>q) (fun a vs q1 q2=>⟨⟨q1.1,fun z=>q1.2 (.inl z)⟩,q2⟩) p v q⟩
theorem jF(e:Ext K Z m1 H1 m H)(hD:H1 D=none)(hk:K.lookup D=none)(e2:Ext K (aJ Z D) m H m' H'):Ext K Z m1 H1 m' H' :=
 ⟨fun a vs h=>e2.t a vs (e.t a vs h),fun a vs h1 h2=>let ⟨q1,q2⟩:=e.l a vs h1 h2;e2.l a vs ⟨q1,fun z=>z.elim h1.2 (SqL.ne hD hk h2)⟩ q2,fun a h=>(e2.z a (.inl h)).trans (e.z a h),fun a h=>e2.c a (e.c a h),fun a o u h=>e2.fz a o u (e.fz a o u h),fun a h=>by
  have q:=e.fm a h
  rw[e2.fm a (by rw[q];exact h),q]⟩
theorem P8(e:Ext K Z m1 H1 m H)(ok1:Ok K Z m1 H1)(hD:H1 D=none)(hk:K.lookup D=none)(hH:H D=some (.lst ys)):Ext K Z m1 H1 m (aI H D (.lst zs)) :=
 ⟨fun a vs h=>nP hH a vs (e.t a vs h),fun a vs h1 h2=>let ⟨q1,q2⟩:=e.l a vs h1 h2;⟨q1,Ao (SqL.ne hD hk h2) q2⟩,fun a h=>by
  have ne:a≠D:=by rintro rfl;exact(ok1.z a h).2 hD
  rw[aX ne];exact e.z a h,e.c,fun a o u h=>by
  have q:=e.fz a o u h
  rw[aX (by rintro rfl;rw[hH]at q;cases q)]
  exact q,e.fm⟩
end
def cJ(g:DG)(t:DT)(f:DE):List D->List PyData->aU->Mu->(List PyData->Mu->Prop)->Prop
 | [],acc,_,m,Q=>Q acc m
 | x::xs,acc,d,m,Q=>g x d m fun d1 m1=>t d1 m1 fun b m2=>if b=true then f d1 m2 fun y m3=>∃ p,y=.dat p/\acc.length<sizeLine/\cJ g t f xs (acc++[p]) d1 m3 Q else cJ g t f xs acc d1 m2 Q
def bK{α:Type}(src:List (Option Nat))(d:List (Option α)):List (Option α):=src.map fun o=>o.bind fun j=>(d[j]?).join
@[simp] def dU(src:List (Option Nat))(fi:DI)(g:DG)(t:DT)(f:DE):DE:=fun d m Q=>fi d m fun xs m1=>cJ g t f xs [] (bK src d) m1 fun ps m2=>Q (.dat (.list ps)) m2
def PF(Y:Cx)(ifs:List Expr)(t:TT):Prop:=∀ (pins:List (Addr×Obj)) (s:Shared) (σ:L2.St) (H:Hp) (Q:Bool->Hp->Prop),Inv Y pins σ H s->t σ H Q ->
 wpAny (model Y.prog Y.w) Y.A (forIn ifs true fun c r=>if r=true then do let ok <- isTrue c Y.env (eval c Y.env);pure (ForInStep.yield ok) else pure (ForInStep.yield r)) (TP Y pins σ Q) Y.xe s
@[simp] def cW:DT:=fun _ m Q=>Q true m
theorem BM{Y:Cx}:PF Y [] (LT Y.K cW):=fun pins s σ H Q I h=>by
 obtain⟨Z,d,m,R,ok,rs,h,k⟩:=h;exact wpAny_tests_nil ⟨H,I,k true m H h Ext.refl ok⟩
theorem Vc{Y:Cx}{c:Expr}{t:TT}(h:PT Y c t):PF Y [c] t:=fun pins s σ H Q I q=>wpAny_tests_one (h pins s σ H Q I q)
theorem yB{K:PySem.W.Frag}{Z:Addr->Prop}{m:Mu}{H:Hp}{d:aU}{σ:L2.St}(src:List (Option Nat))(rs:RS K Z m H d σ):RS K Z m H (bK src d) (bK src σ):=by
 refine⟨by unfold bK;rw[List.length_map,List.length_map],fun i x h=>?_⟩
 unfold bK at h ⊢;rw[List.getElem?_map]at h ⊢
 cases e:src[i]? with
 | none=>rw[e]at h;cases h
 | some o =>
  rw[e]at h
  cases o with
  | none=>cases h
  | some j =>
   have h':(d[j]?).join=some x:=Option.some.inj h
   cases ej:d[j]? with
   | none=>rw[ej]at h';cases h'
   | some w =>
    rw[ej]at h';have h2:w=some x:=h'
    subst h2;obtain⟨v,q1,q2⟩:=rs.2 j x ej;exact⟨v,by rw[Option.map_some,Option.bind_some,q1];rfl,q2⟩
theorem Fj{α:Type}{src:List (Option Nat)}{d:List (Option α)}{i:Nat}{v:α}(h:(bK src d)[i]?=some (some v)):∃ j:Nat,src[i]?=some (some j)/\d[j]?=some (some v):=by
 unfold bK at h;rw[List.getElem?_map]at h
 cases e:src[i]? with
 | none=>rw[e]at h;cases h
 | some o =>
  rw[e]at h
  cases o with
  | none=>cases h
  | some j =>
   have h':(d[j]?).join=some v:=Option.some.inj h
   cases ej:d[j]? with
   | none=>rw[ej]at h';cases h'
   | some w =>
    rw[ej]at h';have h2:w=some v:=h'
    subst h2;exact⟨j,rfl,ej⟩
end DL
namespace DL
open PySem PySem.Spec PyProof.Rows L2
theorem xI{K:PySem.W.Frag}{Z:Addr->Prop}{m1 m':Mu}{H1 H':Hp}{D:Addr}{x:DL.D}{v:V}(hD:H1 D=none)(hk:K.lookup D=none)(e:Ext K Z m1 H1 m' H')(h:RD K Z m1 H1 x v):RD K (aJ Z D) m' H' x v:=by
 cases x with
 | dat p=>exact RP.tr e.t (fun a vs h1 h2=>let ⟨q1,q2⟩:=e.l a vs h1 h2;⟨⟨q1,fun z=>z.elim h1.2 (SqL.ne hD hk h2)⟩,q2⟩) p v h
 | cel a=>exact⟨h.1,e.c a h.2⟩
section
variable {X:Cx}{tg iter elt:Expr}{ifs:List Expr}{scope:Scope}{NC:List Str}{fi:DI}{g:DG}{t:DT}{f:DE}{pos:Pos}
def jK(X:Cx)(scope:Scope)(NC:List Str)(src:List (Option Nat)):Prop:=NC.length=src.length/\∀ (i:Nat) (x:Str) (j:Nat),NC[i]?=some x->src[i]?=some (some j)->X.N[j]?=some x/\(x,NameKind.free)∈scope.names /\
 ((relabel scope X.env).names.lookup x=some .cell\/(relabel scope X.env).names.lookup x=some .free)
structure Off (X:Cx) (pins:List (Addr×Obj)) (H:Hp) (C:Addr):Prop where
 h:H C=none
 l:C≠X.env.locals
 s:X.s₀.heap.objs.size<=C
 c:∀ x c,X.env.cells.lookup x=some c->c≠C
 p:∀ p∈X.pn++pins,p.1≠C
theorem Off.inv{pins:List (Addr×Obj)}{σ:L2.St}{H:Hp}{s:Shared}{C:Addr}{h':Heap}(o:Off X pins H C)(I:Inv X pins σ H s)(hs:Heap.SameBut C s.heap h'):Inv X pins σ H {s with heap:=h'} :=
 I.turned (t':=s.toks) (it:=C) (fun b ob hb e=>(hs.2 b hb).trans e) o.h o.l (.inr o.s) o.c o.p
def Pr(K:PySem.W.Frag)(Z:Addr->Prop)(m:Mu)(H:Hp)(xs:List D)(J:It):Prop:=∀ m2 H2,Ext K Z m H m2 H2 ->
 (∀ (i:Nat) (x:D),xs[i]?=some x->J.go i H2/\∀ v H3,J.yld i H2 v H3->Yld K Z m H x v H2 H3)/\J.stop xs.length H2
theorem Lp{wi:TI}(src:List (Option Nat))(hc:X.calm=true)(hi:PI X tg iter wi)
  (hg:∀ cl C s2 H2 pins fp,PG (aP X scope cl C NC s2 H2 pins fp) tg (LG X.K g)) (ht:∀ cl C s2 H2 pins fp,PF (aP X scope cl C NC s2 H2 pins fp) ifs (LT X.K t)) (he:∀ cl C s2 H2 pins fp,PE (aP X scope cl C NC s2 H2 pins fp) elt (LE X.K f))
  (hkind:scope.kind=.function) (hcell:∀ y∈scope.names,y.2≠.cell) (hnames:∀ y∈scope.names,y.2=.local->scope.names.lookup y.1=some .local)
  (hfree:∀ x,(x,NameKind.free)∈scope.names->X.env.kindOf x=some .cell\/X.env.kindOf x=some .free) (hsrc:jK X scope NC src)
  (hs:∀ x,foldedSetIterable iter X.env x=pure x) {use:Option (Value->Sem Unit)} {QQ:Value->Shared->Prop} {pos':Pos} {pins:List (Addr×Obj)} {s:Shared} {σ:L2.St} {H:Hp} {Z:Addr->Prop} {d:aU} {m:Mu} {RL:List PyData->Mu->Prop}
  (I:Inv X pins σ H s) (ok:Ok X.K Z m H) (rs:RS X.K Z m H d σ) (h:wi σ H fun J H1=>∃ xs m1,Ext X.K Z m H m1 H1/\Ok X.K Z m1 H1/\Pr X.K Z m1 H1 xs J/\cJ g t f xs [] (bK src d) m1 RL)
  (fin:∀ (s5:Shared) (C D:Addr) (H':Hp) (m':Mu) (ps:List PyData),RL ps m'->Ext X.K Z m H m' H'->Ok X.K Z m' H'->RD X.K Z m' H' (.dat (.list ps)) (.ref D)->(∃ mm,s5.heap.Ns C mm)->Inv X pins σ H' s5->Off X pins H' C->(m' D=none/\Ext X.K Z m H (aS m' D (.l ps)) H'/\Ok X.K Z (aS m' D (.l ps)) H') ->
   compPost (model X.prog X.w) X.A X.xe use QQ (.ref D) C (.ok .next) s5) :
  wpAny (model X.prog X.w) X.A (comprehension (.ListComp elt [⟨tg,iter,ifs,0⟩] scope pos) scope X.env pos' (newList []) false (eval iter X.env) use) QQ X.xe s:=by
 obtain⟨cl,hclos,hcl1,hcl2⟩:=Fn (scope:=scope) (env:=X.env) fun x hx=>I.ok.has x (hfree x hx);refine wpAny_comprehension_free (use:=use) rfl hs hclos hkind hnames ?_;refine aM (hi pins s σ H _ I h) fun xv s₁ h₁=>aM h₁ fun itv s₂ h₂=>?_;obtain⟨it,fp,tn,J,H2,eit,I2,T,st2,f2,xs,m1,e1,ok1,yl,lp⟩:=h₂;subst eit;refine wpAny_newObj_type (wpAny_newFunctionEnv hcell (by intro y hy;simp at hy) (fun h₁ hns₁ hsb₁=>?_) hkind)
 dsimp only at hns₁ hsb₁ ⊢
 generalize hH2:s₂.heap.push {cls:=.type "list",dict:=none,data:=.seq ([]:List Value).toArray}=HP at hns₁ hsb₁ ⊢
 have hC:HP.objs.size=s₂.heap.objs.size+1:=by rw[<- hH2,Heap.size_push]
 have leC:s₂.heap.objs.size<=HP.objs.size:=by rw[hC];exact Nat.le_succ _
 have old:∀ b o,s₂.heap.get? b=some o->h₁.get? b=some o:=fun b o e=>hsb₁.extBut b o (Nat.ne_of_lt (Nat.lt_of_lt_of_le (Heap.lt_size e) leC)) (Heap.get?_push_of_some _ (hH2▸Heap.get?_push_of_some _ e))
 have hacc:h₁.get? s₂.heap.objs.size=some {cls:=.type "list",data:=.seq ([]:List Value).toArray}:=hsb₁.extBut _ _ (by rw[hC];exact Nat.ne_of_lt (Nat.lt_succ_self _)) (Heap.get?_push_of_some _ (hH2▸Heap.get?_push_size _ rfl))
 have hD:H2 s₂.heap.objs.size=none:=I2.hok.fresh (Nat.le_refl _)
 have hkD:X.K.lookup s₂.heap.objs.size=none:=by
  cases e:X.K.lookup s₂.heap.objs.size with
  | none=>rfl
  | some o=>exact absurd (Heap.lt_size (I2.kIn _ o e)) (Nat.lt_irrefl _)
 have obf:∀ b∈fp,∃ o,s₂.heap.get? b=some o/\∀ v,o.data≠.cell v:=T.obj 0 _ st2
 have hσ:∀ (i:Nat) (x:Str) (v:V),NC[i]?=some x->(bK src σ)[i]?=some (some v)->fT (relabel scope X.env) x->((relabel scope X.env).names.lookup x=some .cell\/(relabel scope X.env).names.lookup x=some .free)/\(X.env.kindOf x=some .cell\/X.env.kindOf x=some .free)/\∃ j:Nat,X.N[j]?=some x/\σ[j]?=some (some v):=fun i x v h1 h2 _=>by
  obtain⟨j,q1,q2⟩:=Fj h2;obtain⟨a1,a2,a3⟩:=hsrc.2 i x j h1 q1;exact⟨a3,hfree x a2,j,a1,q2⟩
 have I4:=fun tk=>Ng (cl:=cl) (NC:=NC) (σ':=bK src σ) (tk:=tk) I2 f2 obf hkind hcell hcl1 hcl2 (by unfold bK;rw[List.length_map];exact hsrc.1.symm) hσ hC hns₁ old hacc
 have st4:tn 0 h₁:=T.keep 0 _ _ st2 fun b _ o e=>old b o e
 -- the loop
 have loop:∀ s₃:Shared,s₃={s₂ with heap:=h₁,toks:=s₂.toks+([]:List (Str×Value)).length} ->
   codeAny (model X.prog X.w) X.A (.compLoop (.ListComp elt [⟨tg,iter,ifs,0⟩] scope pos) 0 (.ref it) (.ref s₂.heap.objs.size) (compEnvC scope cl HP.objs.size X.env))
    (compPost (model X.prog X.w) X.A X.xe use QQ (.ref s₂.heap.objs.size) HP.objs.size) s₃:=by
  rintro s₃ rfl;refine f9 (fun n s'=>∃ (i:Nat) (ys:List V) (acc:List PyData) (d':aU) (m':Mu) (σ':L2.St) (H':Hp),n=xs.length-i/\i<=xs.length/\Inv (aP X scope cl HP.objs.size NC s₂ H2 pins fp) [] σ' H' s'/\tn i s'.heap/\(∀ b∈fp,H' b=none) /\
   H' s₂.heap.objs.size=some (.lst ys)/\RPs X.K (aJ Z s₂.heap.objs.size) m' H' acc ys/\Ext X.K Z m1 H2 m' H'/\Ok X.K (aJ Z s₂.heap.objs.size) m' H'/\RS X.K (aJ Z s₂.heap.objs.size) m' H' d' σ' /\
   cJ g t f (xs.drop i) acc d' m' RL) ?_ xs.length ?_
  rotate_left
  ·have rs1:RS X.K Z m1 H2 (bK src d) (bK src σ):=yB src (rs.ext e1)
   refine⟨0,[],[],bK src d,m1,bK src σ,_,by simp,Nat.zero_le _,I4 _,st4,fun b hb=>?_,bQ,by simp[RPs],ok1.ext (bX hD),Hv ok1 hD hkD,⟨rs1.1,fun i x hx=>?_⟩,by simpa using lp⟩
   ·obtain⟨o,ho,_⟩:=obf b hb;rw[aX (Nat.ne_of_lt (Heap.lt_size ho))];exact(f2 b hb).1
   ·obtain⟨v,q1,q2⟩:=rs1.2 i x hx;exact⟨v,q1,Jy hD hkD q2⟩
  rintro n s4 ⟨i,ys,acc,d',m',σ',H',rfl,hi',I5,st5,fr5,hDy,racc,eX,ok5,rs5,lp5⟩;have stat:∀ b∈fp,dD (aP X scope cl HP.objs.size NC s₂ H2 pins fp) [] H' b:=fun b hb=>by
   obtain⟨g0,g1,g2,g3,g4,g5⟩:=f2 b hb;obtain⟨o,ho,_⟩:=obf b hb;refine⟨fr5 b hb,Nat.ne_of_lt (Nat.lt_of_lt_of_le (Heap.lt_size ho) leC),fun z=>?_,.inl hb,fun x c e=>g4 x c (hcl1 (x,c) (qW e)),fun p hp=>?_⟩
   ·rcases List.mem_cons.mp (I2.stkSub b z) with q | q
    ·exact g1 q
    ·exact g2 q
   ·rcases List.mem_append.mp hp with q | q
    ·exact g5 p q
    ·cases q
  obtain⟨y1,y2⟩:=yl m' H' eX
  by_cases hlt:i<xs.length
  ·rw[List.drop_eq_getElem_cons hlt]at lp5;obtain⟨go,yd⟩:=y1 i xs[i] (List.getElem?_eq_getElem hlt);refine aM (T.item (aP X scope cl HP.objs.size NC s₂ H2 pins fp) rfl rfl rfl hc i [] s4 σ' H' (fun _ _=>False) I5 stat st5 go) fun r s5 hq0=>?_;obtain⟨u,hr,h5⟩:=hq0;subst hr;refine aM h5 fun _ s6 hq0=>?_;obtain⟨x,H6,I6,r6,yy,st6,fr6⟩:=hq0;have yy':=yd x H6 yy
   have e56:Ext X.K (aJ Z s₂.heap.objs.size) m' H' m' H6:=ok5.ext yy'.same
   have rv:=yy'.rd (fun d v h=>xI hD hkD eX h) ok5
   have hDy:=yy'.same _ _ hDy
   have racc:=RPs.ext e56 _ _ racc
   have eX:=jF eX hD hkD e56
   have rs5:=rs5.ext e56
   have ok5:=ok5.grow yy'.same
   have stat:∀ b∈fp,dD (aP X scope cl HP.objs.size NC s₂ H2 pins fp) [] H6 b:=fun b hb=>⟨fr6 b hb,(stat b hb).2⟩
   have I6':=I6.pinned stat (T.obj _ _ st6)
   -- what stands when a turn is over
   have over:∀ {s7:Shared} {σ7:L2.St} {H7:Hp} {ys7:List V} {acc7:List PyData} {d7:aU} {m7:Mu},Inv (aP X scope cl HP.objs.size NC s₂ H2 pins fp) ([]++jU fp s6.heap) σ7 H7 s7->H7 s₂.heap.objs.size=some (.lst ys7)->RPs X.K (aJ Z s₂.heap.objs.size) m7 H7 acc7 ys7 ->
     Ext X.K Z m1 H2 m7 H7->Ok X.K (aJ Z s₂.heap.objs.size) m7 H7->RS X.K (aJ Z s₂.heap.objs.size) m7 H7 d7 σ7->(cJ g t f (xs.drop (i+1)) acc7 d7 m7 RL) ->
     ∃ n,n<xs.length-i/\∃ (i:Nat) (ys:List V) (acc:List PyData) (d':aU) (m':Mu) (σ':L2.St) (H':Hp),n=xs.length-i/\i<=xs.length/\Inv (aP X scope cl HP.objs.size NC s₂ H2 pins fp) [] σ' H' s7/\tn i s7.heap/\(∀ b∈fp,H' b=none) /\
      H' s₂.heap.objs.size=some (.lst ys)/\RPs X.K (aJ Z s₂.heap.objs.size) m' H' acc ys/\Ext X.K Z m1 H2 m' H'/\Ok X.K (aJ Z s₂.heap.objs.size) m' H'/\RS X.K (aJ Z s₂.heap.objs.size) m' H' d' σ' /\
      cJ g t f (xs.drop i) acc d' m' RL:=by
    intro s7 σ7 H7 ys7 acc7 d7 m7 I7 a1 a2 a3 a4 a5 a6;refine⟨xs.length-(i+1),by omega,i+1,ys7,acc7,d7,m7,σ7,H7,rfl,hlt,I7.unpinned,T.keep _ _ _ st6 fun b hb o e=>(I7.pin (b,o) (List.mem_append_right _ (List.mem_append_right _ (iD hb e)))).1,fun b hb=>?_,a1,a2,a3,a4,a5,a6⟩
    obtain⟨o,e,dd⟩:=T.obj _ _ st6 b hb;exact(I7.pin (b,o) (List.mem_append_right _ (List.mem_append_right _ (iD hb e)))).2.1
   refine aM (hg cl _ s₂ H2 pins fp _ s6 σ' _ x u (fun σ7 H7=>∃ d7 m7,Ext X.K (aJ Z s₂.heap.objs.size) m' H6 m7 H7/\Ok X.K (aJ Z s₂.heap.objs.size) m7 H7/\RS X.K (aJ Z s₂.heap.objs.size) m7 H7 d7 σ7 /\
    t d7 m7 fun b m2=>if b=true then f d7 m2 fun y m3=>∃ p,y=.dat p/\acc.length<sizeLine/\cJ g t f (xs.drop (i+1)) (acc++[p]) d7 m3 RL else cJ g t f (xs.drop (i+1)) acc d7 m2 RL) I6' r6
    ⟨_,xs[i],d',m',_,ok5,rs5,rv,lp5,fun d7 m7 σ7 H7 q7 e7 ok7 rs7=>⟨d7,m7,e7,ok7,rs7,q7⟩⟩) fun _ s7 hq0=>?_
   obtain⟨σ7,H7,I7,d7,m7,e7,ok7,rs7,q7⟩:=hq0;refine aM (ht cl _ s₂ H2 pins fp _ s7 σ7 H7 (fun b H8=>∃ m8,Ext X.K (aJ Z s₂.heap.objs.size) m7 H7 m8 H8/\Ok X.K (aJ Z s₂.heap.objs.size) m8 H8 /\
    if b=true then f d7 m8 fun y m3=>∃ p,y=.dat p/\acc.length<sizeLine/\cJ g t f (xs.drop (i+1)) (acc++[p]) d7 m3 RL else cJ g t f (xs.drop (i+1)) acc d7 m8 RL) I7
    ⟨_,d7,m7,_,ok7,rs7,q7,fun b m8 H8 q8 e8 ok8=>⟨m8,e8,ok8,q8⟩⟩) fun b s8 hq0=>?_
   obtain⟨H8,I8,m8,e8,ok8,q8⟩:=hq0;have e68:=e7.trans e8
   have hD8:H8 s₂.heap.objs.size=some (.lst ys):=(e68.z _ (.inr rfl)).trans hDy
   cases b with
   | false =>
    rw[if_neg Bool.false_ne_true]at q8;exact over I8 hD8 (RPs.ext e68 _ _ racc) (jF eX hD hkD e68) ok8 (rs7.ext e8) q8
   | true =>
    rw[if_pos rfl]at q8;refine aM (he cl _ s₂ H2 pins fp _ s8 σ7 H8 (fun v H9=>∃ p m9,RP X.K (aJ Z s₂.heap.objs.size) m9 H9 p v/\Ext X.K (aJ Z s₂.heap.objs.size) m8 H8 m9 H9/\Ok X.K (aJ Z s₂.heap.objs.size) m9 H9/\acc.length<sizeLine/\cJ g t f (xs.drop (i+1)) (acc++[p]) d7 m9 RL) I8
     ⟨_,d7,m8,_,ok8,rs7.ext e8,q8,fun y m9 v H9 hq1 e9 ok9 r9=>by
      obtain⟨p,ey,hz,q9⟩:=hq1;subst ey;exact⟨p,m9,r9,e9,ok9,hz,q9⟩⟩) fun yv s9 hq0=>?_
    obtain⟨y,H9,I9,ry,p,m9,rp9,e9,ok9,hz,q9⟩:=hq0;have e69:=e68.trans e9
    have hD9:H9 s₂.heap.objs.size=some (.lst ys):=(e69.z _ (.inr rfl)).trans hDy
    have racc9:=RPs.ext e69 _ _ racc
    have rs9:=(rs7.ext e8).ext e9
    refine aM (xH _ s9 σ7 H9 (.ref s₂.heap.objs.size) [y] (.ref s₂.heap.objs.size) [yv] (fun v H10=>H10=aI H9 s₂.heap.objs.size (.lst (ys++[y]))) I9 rfl (.cons ry .nil) ⟨_,ys,y,rfl,rfl,hD9,by rw[racc9.length];exact hz,rfl⟩) fun rv s10 hq0=>?_
    obtain⟨v10,H10,I10,_,e10⟩:=hq0;subst e10;refine over I10 bQ ?_ (P8 (jF eX hD hkD e69) ok1 hD hkD hD9) (Ph ok9 hD9) ⟨rs9.1,fun j z hj=>?_⟩ q9
    ·exact RPs.tr (nP hD9) wH _ _ (racc9.append (by simp only[RPs];exact⟨y,[],rfl,rp9,rfl⟩))
    ·obtain⟨v,a1,a2⟩:=rs9.2 j z hj;exact⟨v,a1,Iu hD9 a2⟩
  ·have e:i=xs.length:=by omega
   subst e;rw[List.drop_length]at lp5;refine aM (T.done (aP X scope cl HP.objs.size NC s₂ H2 pins fp) rfl rfl rfl hc _ [] s4 σ' H' (fun _ _=>False) I5 stat st5 y2) fun r s5 hq0=>?_;obtain⟨hr,I6⟩:=hq0;subst hr;have IX:=Fo I2 f2 I6 leC (Heap.SameBut.refl _ _)
   have nz:¬ Z s₂.heap.objs.size:=fun z=>(ok1.z _ z).2 hD
   refine fin s5 HP.objs.size s₂.heap.objs.size H' m' acc lp5 (e1.trans eX) (xG ok5) ?_ ⟨_,I6.loc.choose_spec.1⟩ IX ⟨I6.free,Nat.ne_of_gt (Nat.lt_of_lt_of_le I2.lt leC),Nat.le_trans I2.sz leC,fun x c e=>?_,fun p hp=>?_⟩ ⟨(ok5.z _ (.inr rfl)).1,?_,?_⟩
   ·simp only[RD,RP];exact⟨_,ys,rfl,⟨(ok5.z _ (.inr rfl)).1,nz⟩,.inl (.inl hDy),RPs.tr (fun _ _ q=>q) (fun a vs q1 q2=>⟨⟨q1.1,fun z=>q1.2 (.inl z)⟩,q2⟩) _ _ racc⟩
   ·obtain⟨v,q⟩:=I2.cell x c e;exact Nat.ne_of_lt (Nat.lt_of_lt_of_le q.lt leC)
   ·exact Nat.ne_of_lt (Nat.lt_of_lt_of_le (Heap.lt_size (I2.pin p hp).1) leC)
   ·refine⟨fun a vs q=>(e1.trans eX).t a vs q,fun a vs q1 q2=>?_,fun a q=>(e1.trans eX).z a q,fun a q=>?_,(e1.trans eX).fz,fun a q=>?_⟩
    ·obtain⟨_,q3⟩:=e1.l a vs q1 q2;have ne:=SqL.ne hD hkD q3
     obtain⟨q4,q5⟩:=(e1.trans eX).l a vs q1 q2;exact⟨by rw[bG ne];exact q4,q5⟩
    ·by_cases ea:a=s₂.heap.objs.size
     ·subst ea;rw[aZ];rfl
     ·rw[bG ea];exact(e1.trans eX).c a q
    ·have fq:=(e1.trans eX).fm a q
     have ne:a≠s₂.heap.objs.size:=by
      rintro rfl;rw[(ok5.z _ (.inr rfl)).1]at fq;rw[<- fq]at q
      cases q
     rw[bG ne];exact fq
   ·have tr:∀ (a:Addr) (vs:List V),(m' a=none/\¬ aJ Z s₂.heap.objs.size a)->SqL X.K H' a vs->(aS m' s₂.heap.objs.size (.l acc) a=none/\¬ Z a)/\SqL X.K H' a vs:=fun a vs q1 q2=>⟨⟨by rw[bG fun z=>q1.2 (.inr z)];exact q1.1,fun z=>q1.2 (.inl z)⟩,q2⟩
    refine⟨fun a c q=>?_,fun a q=>?_⟩
    ·by_cases ea:a=s₂.heap.objs.size
     ·subst ea;rw[aZ]at q
      cases q
      exact⟨_,hDy,RPs.tr (fun _ _ q=>q) tr _ _ racc⟩
     ·rw[bG ea]at q;obtain⟨o,q1,q2⟩:=ok5.g a c q;exact⟨o,q1,q2.lift fun p v q3=>RP.tr (fun _ _ q=>q) tr p v q3⟩
    ·have ne:a≠s₂.heap.objs.size:=fun z=>nz (z▸q)
     obtain⟨q1,q2⟩:=ok5.z a (.inl q);exact⟨by rw[bG ne];exact q1,q2⟩
 exact codeAny_compStart_list (loop _ rfl) (T.self _ 0 _ _ _ st4 (loop _ rfl))
theorem Oe(src:List (Option Nat))(hc:X.calm=true)(hi:PI X tg iter (LI X.K fi))
  (hg:∀ cl C s2 H2 pins fp,PG (aP X scope cl C NC s2 H2 pins fp) tg (LG X.K g)) (ht:∀ cl C s2 H2 pins fp,PF (aP X scope cl C NC s2 H2 pins fp) ifs (LT X.K t)) (he:∀ cl C s2 H2 pins fp,PE (aP X scope cl C NC s2 H2 pins fp) elt (LE X.K f))
  (hkind:scope.kind=.function) (hcell:∀ y∈scope.names,y.2≠.cell) (hnames:∀ y∈scope.names,y.2=.local->scope.names.lookup y.1=some .local)
  (hfree:∀ x,(x,NameKind.free)∈scope.names->X.env.kindOf x=some .cell\/X.env.kindOf x=some .free) (hsrc:jK X scope NC src)
  (hs:∀ x,foldedSetIterable iter X.env x=pure x) {use:Option (Value->Sem Unit)} {QQ:Value->Shared->Prop} {pos':Pos} {pins:List (Addr×Obj)} {s:Shared} {σ:L2.St} {H:Hp} {Z:Addr->Prop} {d:aU} {m:Mu} {RL:List PyData->Mu->Prop}
  (I:Inv X pins σ H s) (ok:Ok X.K Z m H) (rs:RS X.K Z m H d σ) (h:fi d m fun xs m1=>cJ g t f xs [] (bK src d) m1 RL)
  (fin:∀ (s5:Shared) (C D:Addr) (H':Hp) (m':Mu) (ps:List PyData),RL ps m'->Ext X.K Z m H m' H'->Ok X.K Z m' H'->RD X.K Z m' H' (.dat (.list ps)) (.ref D)->(∃ mm,s5.heap.Ns C mm)->Inv X pins σ H' s5->Off X pins H' C->(m' D=none/\Ext X.K Z m H (aS m' D (.l ps)) H'/\Ok X.K Z (aS m' D (.l ps)) H') ->
   compPost (model X.prog X.w) X.A X.xe use QQ (.ref D) C (.ok .next) s5) :
  wpAny (model X.prog X.w) X.A (comprehension (.ListComp elt [⟨tg,iter,ifs,0⟩] scope pos) scope X.env pos' (newList []) false (eval iter X.env) use) QQ X.xe s :=
 Lp src hc hi hg ht he hkind hcell hnames hfree hsrc hs I ok rs ⟨Z,d,m,_,ok,rs,h,fun xs m1 H1 J q e1 ok1 y1=>⟨xs,m1,e1,ok1,fun m2 H2 e=>y1 m2 H2 e.y,q⟩⟩ fin
theorem g7(src:List (Option Nat))(hc:X.calm=true)(hi:PI X tg iter (LI X.K fi))
  (hg:∀ cl C s2 H2 pins fp,PG (aP X scope cl C NC s2 H2 pins fp) tg (LG X.K g)) (ht:∀ cl C s2 H2 pins fp,PF (aP X scope cl C NC s2 H2 pins fp) ifs (LT X.K t)) (he:∀ cl C s2 H2 pins fp,PE (aP X scope cl C NC s2 H2 pins fp) elt (LE X.K f))
  (hkind:scope.kind=.function) (hcell:∀ y∈scope.names,y.2≠.cell) (hnames:∀ y∈scope.names,y.2=.local->scope.names.lookup y.1=some .local)
  (hfree:∀ x,(x,NameKind.free)∈scope.names->X.env.kindOf x=some .cell\/X.env.kindOf x=some .free) (hsrc:jK X scope NC src)
  (hs:∀ x,foldedSetIterable iter X.env x=pure x:=by intro _;rfl) :
  PE X (.ListComp elt [⟨tg,iter,ifs,0⟩] scope pos) (LE X.K (dU src fi g t f)):=by
 intro pins s σ H Q I h;obtain⟨Z,d,m,R,ok,rs,h,k⟩:=h;rw[eval_ListComp];refine Oe src hc hi hg ht he hkind hcell hnames hfree hsrc hs (use:=none) (QQ:=EP X pins σ Q) (RL:=fun ps m2=>R (.dat (.list ps)) m2) I ok rs h ?_;intro s5 C D H' m' ps q e ok' rd ⟨mm,hns⟩ I5 off hcl;exact⟨mm,hns,fun h' hs'=>⟨.ref D,H',off.inv I5 hs',rfl,k _ m' _ H' q e ok' rd⟩⟩
theorem Re(i:Nat){y:Str}{py spos:Pos}(src:List (Option Nat))(hc:X.calm=true)(hi:PI X tg iter (LI X.K fi))
  (hg:∀ cl C s2 H2 pins fp,PG (aP X scope cl C NC s2 H2 pins fp) tg (LG X.K g)) (ht:∀ cl C s2 H2 pins fp,PF (aP X scope cl C NC s2 H2 pins fp) ifs (LT X.K t)) (he:∀ cl C s2 H2 pins fp,PE (aP X scope cl C NC s2 H2 pins fp) elt (LE X.K f))
  (hkind:scope.kind=.function) (hcell:∀ y∈scope.names,y.2≠.cell) (hnames:∀ y∈scope.names,y.2=.local->scope.names.lookup y.1=some .local)
  (hfree:∀ x,(x,NameKind.free)∈scope.names->X.env.kindOf x=some .cell\/X.env.kindOf x=some .free) (hsrc:jK X scope NC src)
  (hN:X.N.Nodup) (hi2:X.N[i]?=some y:=by rfl) (hx:gH X.env.scope y:=by first | exact Or.inl rfl | exact Or.inr rfl) (hf:X.fn y=true\/X.env.scope.names.lookup y=some .local:=by first | exact .inl rfl | exact .inr rfl)
  (hsw:swapsWith (.ListComp elt [⟨tg,iter,ifs,0⟩] scope pos) (some (.Name y py)) spos.line X.env=pure true:=by rfl)
  (hs:∀ x,foldedSetIterable iter X.env x=pure x:=by intro _;rfl) :
  PS X (.Assign [.Name y py] (.ListComp elt [⟨tg,iter,ifs,0⟩] scope pos) spos) (LS X.K (bI i (dU src fi g t f))):=by
 intro pins s σ H E I h;obtain⟨Z,d,m,R,ok,rs,h,k,_⟩:=h;rw[exec_Assign_Name_used _ _ _ _ hsw];refine wpAny_bind (wpAny_standAt (wpAny_bind ?_));rw[arm_evalThenUse_ListComp];refine wpAny_bind ?_;refine aM (Oe src hc hi hg ht he hkind hcell hnames hfree hsrc hs (use:=some (assign (.Name y py) X.env)) (QQ:=fun _ s'=>SP X pins E .next s') (RL:=fun ps m2=>R.nx (d.set i (some (.dat (.list ps)))) m2) I ok rs h ?_) (fun _ s' q=>wpAny_pure (wpAny_pure q));intro s5 C D H' m' ps q e ok' rd ⟨mm,hns⟩ I5 off hcl;show wpAny _ X.A (assign (.Name y py) X.env (.ref D)) _ _ s5
 refine wpAny_assign_Name (Ha I5 hN hi2 hx (v:=.ref D) rfl (fun s6 I6 ⟨a,hs6,ha⟩=>?_) hf);have ne:C≠a:=by
  rcases ha with rfl | ha
  ·exact off.l
  ·exact Ne.symm (off.c _ _ ha)
 refine⟨mm,hns.sameBut hs6 ne,fun h' hs'=>?_⟩;exact⟨_,H',off.inv I6 hs',k _ m' _ H' q e ok' ((rs.ext e).set rd)⟩
end
end DL
namespace DL
open PySem PySem.Spec PyProof.Rows L2
section
variable {prog:Program}{w:World}{A:Around}{E:Value->Shared->Prop}{s:Shared}
def IsRv(h:Heap)(a t:Addr)(i:Int):Prop:=∃ o,h.get? a=some o/\o.cls=.type "reversed"/\o.data=.fields #[.ref t,rawInt i]
theorem IsRv.typeIs{a t:Addr}{i:Int}(x:IsRv s.heap a t i):s.TypeIs (.ref a) "reversed":=let ⟨o,ho,hc,_⟩:=x;⟨o,ho,hc⟩
end
end DL
namespace DL
open PySem PySem.Spec PyProof.Rows L2
section
variable {X:Cx}{a e o:Expr}{es:List Expr}{f g:DE}{ga:DA}{pos p p1 p2:Pos}
theorem nZ{K:PySem.W.Frag}{Z:Addr->Prop}{m:Mu}{H:Hp}:∀ {zs:List Str} {vs:List V},RPs K Z m H (zs.map PyData.str) vs->vs=zs.map V.str
 | [],vs,h=>by simpa[RPs] using h
 | z::zs,vs,h=>by
  simp only[List.map_cons,RPs]at h;obtain⟨v,r,rfl,h1,h2⟩:=h;simp only[RP]at h1;subst h1;rw[nZ h2];rfl
theorem rK{K:PySem.W.Frag}{Z:Addr->Prop}{m:Mu}{H:Hp}:∀ (zs:List Str),RPs K Z m H (zs.map PyData.str) (zs.map V.str)
 | []=>by simp[RPs]
 | z::zs=>by
  simp only[List.map_cons,RPs];exact⟨_,_,rfl,by simp only[RP],rK zs⟩
def KT(K:PySem.W.Frag)(a:Addr)(zs:List Str):Prop:=∃ (o:Obj) (its:Array Value) (n:Nat),K.lookup a=some o/\o.cls=.type "tuple"/\o.dict=none/\o.data=.seq its n/\its.size<=sizeLine/\Vals (zs.map V.str) its.toList
theorem KT.sq{K:PySem.W.Frag}{a:Addr}{zs:List Str}{H:Hp}(h:KT K a zs):SqT K H a (zs.map V.str):=by
 obtain⟨o,its,n,h1,h2,h3,h4,h5,h6⟩:=h;exact .inr ⟨o,its,n,h1,⟨h2,h3⟩,h4,h5,h6⟩
theorem Qf{x:Str}{c:Addr}{zs:List Str}(hg:Gl X x)(hm:X.mg x=some (.ref c))(hk:KT X.K c zs)(hd:(x==("__debug__" : Str))=false:=by decide):PE X (.Name x pos) (LE X.K (aC (.tuple (zs.map .str)))) :=
 PE.imp (yS (v:=.ref c) hg hm rfl hd) fun s H Q h=>by
  obtain⟨Z,d,m,R,ok,rs,h,k⟩:=h;refine k _ m _ H h Ext.refl ok ?_;simp only[RD,RP];exact⟨c,_,rfl,hk.sq,rK zs⟩
@[simp] def eA:D2
 | .dat (.str x),.dat (.list ys),m,Q=>∃ zs:List Str,ys=zs.map .str/\Q (.dat (.bool (decide (x∈zs)))) m
 | .dat (.str x),.dat (.tuple ys),m,Q=>∃ zs:List Str,ys=zs.map .str/\Q (.dat (.bool (decide (x∈zs)))) m
 | .dat (.bool x),.dat (.list ys),m,Q=>∃ zs:List Bool,ys=zs.map .bool/\Q (.dat (.bool (decide (x∈zs)))) m
 | .dat (.bool x),.dat (.tuple ys),m,Q=>∃ zs:List Bool,ys=zs.map .bool/\Q (.dat (.bool (decide (x∈zs)))) m
 | .dat (.int x),.dat (.list ys),m,Q=>∃ zs:List Int,ys=zs.map .int/\Q (.dat (.bool (decide (x∈zs)))) m
 | .dat (.int x),.dat (.tuple ys),m,Q=>∃ zs:List Int,ys=zs.map .int/\Q (.dat (.bool (decide (x∈zs)))) m
 | _,_,_,_=>False
theorem Eu(x:Str):∀ zs:List Str,kJ (.str x) (zs.map V.str)=decide (x∈zs)
 | []=>rfl
 | z::zs=>by
  have ih:=Eu x zs
  unfold kJ at ih ⊢;rw[List.map_cons,List.any_cons,ih];show(z==x||decide (x∈zs))=decide (x∈z::zs)
  rw[Bool.eq_iff_iff];simp only[Bool.or_eq_true,beq_iff_eq,decide_eq_true_eq,List.mem_cons];exact⟨fun h=>h.imp Eq.symm id,fun h=>h.imp Eq.symm id⟩
theorem Pk(zs:List Str):(zs.map V.str).all gL=true:=by
 rw[List.all_eq_true];intro v hv;obtain⟨z,_,rfl⟩:=List.mem_map.mp hv;rfl
theorem yK(x:Bool):∀ zs:List Bool,kJ (.bl x) (zs.map V.bl)=decide (x∈zs)
 | []=>rfl
 | z::zs=>by
  have ih:=yK x zs
  unfold kJ at ih ⊢;rw[List.map_cons,List.any_cons,ih];show(z==x||decide (x∈zs))=decide (x∈z::zs)
  rw[Bool.eq_iff_iff];simp only[Bool.or_eq_true,beq_iff_eq,decide_eq_true_eq,List.mem_cons];exact⟨fun h=>h.imp Eq.symm id,fun h=>h.imp Eq.symm id⟩
theorem Px(zs:List Bool):(zs.map V.bl).all gL=true:=by
 rw[List.all_eq_true];intro v hv;obtain⟨z,_,rfl⟩:=List.mem_map.mp hv;rfl
theorem wL{K:PySem.W.Frag}{Z:Addr->Prop}{m:Mu}{H:Hp}:∀ {zs:List Bool} {vs:List V},RPs K Z m H (zs.map PyData.bool) vs->vs=zs.map V.bl
 | [],vs,h=>by simpa[RPs] using h
 | z::zs,vs,h=>by
  simp only[List.map_cons,RPs]at h;obtain⟨v,r,rfl,h1,h2⟩:=h;simp only[RP]at h1;subst h1;rw[wL h2];rfl
theorem zU(x:Int):∀ zs:List Int,kJ (.int x) (zs.map V.int)=decide (x∈zs)
 | []=>rfl
 | z::zs=>by
  have ih:=zU x zs
  unfold kJ at ih ⊢;rw[List.map_cons,List.any_cons,ih];show(z==x||decide (x∈zs))=decide (x∈z::zs)
  rw[Bool.eq_iff_iff];simp only[Bool.or_eq_true,beq_iff_eq,decide_eq_true_eq,List.mem_cons];exact⟨fun h=>h.imp Eq.symm id,fun h=>h.imp Eq.symm id⟩
theorem Jd(zs:List Int):(zs.map V.int).all gL=true:=by
 rw[List.all_eq_true];intro v hv;obtain⟨z,_,rfl⟩:=List.mem_map.mp hv;rfl
theorem xL{K:PySem.W.Frag}{Z:Addr->Prop}{m:Mu}{H:Hp}:∀ {zs:List Int} {vs:List V},RPs K Z m H (zs.map PyData.int) vs->vs=zs.map V.int
 | [],vs,h=>by simpa[RPs] using h
 | z::zs,vs,h=>by
  simp only[List.map_cons,RPs]at h;obtain⟨v,r,rfl,h1,h2⟩:=h;simp only[RP]at h1;subst h1;rw[xL h2];rfl
theorem jA:cP X (compareOp .In) eA:=by
 intro pins s σ H Z m x y dx dy v u R Q I ok rx ry r1 r2 h k;unfold eA at h
 split at h
 ·obtain⟨zs,rfl,q⟩:=h
  cases r1.str
  simp only[RD,RP]at r2;obtain⟨a,vs,rfl,_,h1,h2⟩:=r2
  cases nZ h2
  refine nO pins s σ H _ _ v u Q I rx ry ⟨a,_,rfl,.inl h1,rfl,Pk zs,?_⟩;rw[if_neg Bool.false_ne_true,Eu];exact k _ m _ H q Ext.refl ok .ofBl
 ·obtain⟨zs,rfl,q⟩:=h
  cases r1.str
  simp only[RD,RP]at r2;obtain⟨a,vs,rfl,h1,h2⟩:=r2
  cases nZ h2
  refine nO pins s σ H _ _ v u Q I rx ry ⟨a,_,rfl,.inr h1,rfl,Pk zs,?_⟩;rw[if_neg Bool.false_ne_true,Eu];exact k _ m _ H q Ext.refl ok .ofBl
 ·obtain⟨zs,rfl,q⟩:=h
  cases r1.bl
  simp only[RD,RP]at r2;obtain⟨a,vs,rfl,_,h1,h2⟩:=r2
  cases wL h2
  refine nO pins s σ H _ _ v u Q I rx ry ⟨a,_,rfl,.inl h1,rfl,Px zs,?_⟩;rw[if_neg Bool.false_ne_true,yK];exact k _ m _ H q Ext.refl ok .ofBl
 ·obtain⟨zs,rfl,q⟩:=h
  cases r1.bl
  simp only[RD,RP]at r2;obtain⟨a,vs,rfl,h1,h2⟩:=r2
  cases wL h2
  refine nO pins s σ H _ _ v u Q I rx ry ⟨a,_,rfl,.inr h1,rfl,Px zs,?_⟩;rw[if_neg Bool.false_ne_true,yK];exact k _ m _ H q Ext.refl ok .ofBl
 ·obtain⟨zs,rfl,q⟩:=h
  cases r1.int
  simp only[RD,RP]at r2;obtain⟨a,vs,rfl,_,h1,h2⟩:=r2
  cases xL h2
  refine nO pins s σ H _ _ v u Q I rx ry ⟨a,_,rfl,.inl h1,rfl,Jd zs,?_⟩;rw[if_neg Bool.false_ne_true,zU];exact k _ m _ H q Ext.refl ok .ofBl
 ·obtain⟨zs,rfl,q⟩:=h
  cases r1.int
  simp only[RD,RP]at r2;obtain⟨a,vs,rfl,h1,h2⟩:=r2
  cases xL h2
  refine nO pins s σ H _ _ v u Q I rx ry ⟨a,_,rfl,.inr h1,rfl,Jd zs,?_⟩;rw[if_neg Bool.false_ne_true,zU];exact k _ m _ H q Ext.refl ok .ofBl
 ·exact h.elim
@[simp] def kA:DC
 | [.dat (.tuple xs)],m,Q=>Q (.dat (.tuple xs)) m
 | [.dat (.list xs)],m,Q=>Q (.dat (.tuple xs)) m
 | [.cel c],m,Q=>∃ xs,m c=some (.l xs)/\Q (.dat (.tuple xs)) m
 | _,_,_=>False
theorem qE:CallD X (.type "tuple") kA:=by
 intro pins s σ H Z m xs ds us R Q I ok rv rd h k;unfold kA at h
 split at h
 ·obtain⟨v,rfl,r1⟩:=rd.one;have r0:=r1
  simp only[RD,RP]at r1;obtain⟨a,vs,rfl,h1,h2⟩:=r1;exact zJ pins s σ H _ us Q I rv ⟨a,vs,rfl,.inr ⟨h1,k _ m _ H h Ext.refl ok r0⟩⟩
 ·obtain⟨v,rfl,r1⟩:=rd.one;simp only[RD,RP]at r1;obtain⟨a,vs,rfl,_,h1,h2⟩:=r1;refine zJ pins s σ H _ us Q I rv ⟨a,vs,rfl,.inl ⟨h1,fun l hl=>?_⟩⟩;have sm:Same H (aI H l (.tup vs)):=bX hl
  refine k _ m _ _ h (ok.ext sm) (ok.grow sm) ?_;simp only[RD,RP];exact⟨l,vs,rfl,.inl (.inl bQ),RPs.ext (ok.ext sm) _ _ h2⟩
 ·obtain⟨v,rfl,r1⟩:=rd.one;obtain⟨rfl,_⟩:=r1;obtain⟨ys,hm,q⟩:=h;obtain⟨vs,h1,h2⟩:=ok.l hm;refine zJ pins s σ H _ us Q I rv ⟨_,vs,rfl,.inl ⟨.inl (.inl h1),fun l hl=>?_⟩⟩;have sm:Same H (aI H l (.tup vs)):=bX hl
  refine k _ m _ _ q (ok.ext sm) (ok.grow sm) ?_;simp only[RD,RP];exact⟨l,vs,rfl,.inl (.inl bQ),RPs.ext (ok.ext sm) _ _ h2⟩
 ·exact h.elim
end
end DL
namespace DL
open PySem PySem.Spec PyProof.Rows L2
def chkB(scope:Scope)(env:Env):Bool:=scope.names.all fun y=>(decide (y.2≠.cell))&&(!decide (y.2=.local)||decide (scope.names.lookup y.1=some .local))&&(!decide (y.2=.free)||decide (env.kindOf y.1=some .cell)||decide (env.kindOf y.1=some .free))
def chkS(N:List Str)(scope:Scope)(env:Env):List Str->List (Option Nat)->Bool
 | [],[]=>true
 | x::xs,o::os=>(match o with | none=>true | some j=>decide (N[j]?=some x)&&decide ((x,NameKind.free)∈scope.names)&&(decide ((relabel scope env).names.lookup x=some .cell)||decide ((relabel scope env).names.lookup x=some .free)))&&chkS N scope env xs os
 | _,_=>false
theorem chkB.ok{scope:Scope}{env:Env}(h:chkB scope env=true):(∀ y∈scope.names,y.2≠.cell)/\(∀ y∈scope.names,y.2=.local->scope.names.lookup y.1=some .local)/\∀ x,(x,NameKind.free)∈scope.names->env.kindOf x=some .cell\/env.kindOf x=some .free:=by
 unfold chkB at h;rw[List.all_eq_true]at h;have q:∀ y∈scope.names,y.2≠.cell/\(y.2=.local->scope.names.lookup y.1=some .local)/\(y.2=.free->env.kindOf y.1=some .cell\/env.kindOf y.1=some .free):=fun y hy=>by
  have:=h y hy
  simp only[Bool.and_eq_true,Bool.or_eq_true,Bool.not_eq_true',decide_eq_true_eq,decide_eq_false_iff_not]at this;obtain⟨⟨a,b⟩,c⟩:=this;refine⟨a,fun e=>b.resolve_left (fun n=>n e),fun e=>?_⟩;rcases c with (c | c) | c
  ·exact absurd e c
  ·exact .inl c
  ·exact .inr c
 exact⟨fun y hy=>(q y hy).1,fun y hy=>(q y hy).2.1,fun x hx=>(q _ hx).2.2 rfl⟩
theorem chkS.ok{X:Cx}{scope:Scope}:∀ {NC:List Str} {src:List (Option Nat)},chkS X.N scope X.env NC src=true->jK X scope NC src
 | [],[],_=>⟨rfl,fun i x j h=>by simp at h⟩
 | [],_::_,h=>by simp[chkS]at h
 | _::_,[],h=>by simp[chkS]at h
 | y::ys,o::os,h=>by
  simp only[chkS,Bool.and_eq_true]at h;obtain⟨h1,h2⟩:=h;obtain⟨q1,q2⟩:=chkS.ok h2;refine⟨by rw[List.length_cons,List.length_cons,q1],fun i x j e1 e2=>?_⟩
  cases i with
  | zero =>
   simp at e1 e2;subst e1 e2;simp only[Bool.and_eq_true,Bool.or_eq_true,decide_eq_true_eq]at h1;exact⟨h1.1.1,h1.1.2,h1.2⟩
  | succ i=>exact q2 i x j (by simpa using e1) (by simpa using e2)
section
variable {X:Cx}{tg iter elt:Expr}{ifs:List Expr}{scope:Scope}{fi:DI}{g:DG}{t:DT}{f:DE}{pos:Pos}
theorem Ts(NC:List Str)(src:List (Option Nat))(hc:X.calm=true)(hi:PI X tg iter (LI X.K fi))
  (hg:∀ cl C s2 H2 pins fp,PG (aP X scope cl C NC s2 H2 pins fp) tg (LG X.K g)) (ht:∀ cl C s2 H2 pins fp,PF (aP X scope cl C NC s2 H2 pins fp) ifs (LT X.K t)) (he:∀ cl C s2 H2 pins fp,PE (aP X scope cl C NC s2 H2 pins fp) elt (LE X.K f))
  (hkind:scope.kind=.function:=by rfl) (hB:chkB scope X.env=true:=by rfl) (hS:chkS X.N scope X.env NC src=true:=by rfl)
  (hs:∀ x,foldedSetIterable iter X.env x=pure x:=by intro _;rfl):PE X (.ListComp elt [⟨tg,iter,ifs,0⟩] scope pos) (LE X.K (dU src fi g t f)) :=
 g7 (NC:=NC) src hc hi hg ht he hkind (chkB.ok hB).1 (chkB.ok hB).2.1 (chkB.ok hB).2.2 (chkS.ok hS) hs
theorem t4(i:Nat){y:Str}{py spos:Pos}(NC:List Str)(src:List (Option Nat))(hc:X.calm=true)(hN:X.N.Nodup)(hi:PI X tg iter (LI X.K fi))
  (hg:∀ cl C s2 H2 pins fp,PG (aP X scope cl C NC s2 H2 pins fp) tg (LG X.K g)) (ht:∀ cl C s2 H2 pins fp,PF (aP X scope cl C NC s2 H2 pins fp) ifs (LT X.K t)) (he:∀ cl C s2 H2 pins fp,PE (aP X scope cl C NC s2 H2 pins fp) elt (LE X.K f))
  (hkind:scope.kind=.function:=by rfl) (hB:chkB scope X.env=true:=by rfl) (hS:chkS X.N scope X.env NC src=true:=by rfl)
  (hi2:X.N[i]?=some y:=by rfl) (hx:gH X.env.scope y:=by first | exact Or.inl rfl | exact Or.inr rfl) (hf:X.fn y=true\/X.env.scope.names.lookup y=some .local:=by first | exact .inl rfl | exact .inr rfl)
  (hsw:swapsWith (.ListComp elt [⟨tg,iter,ifs,0⟩] scope pos) (some (.Name y py)) spos.line X.env=pure true:=by rfl)
  (hs:∀ x,foldedSetIterable iter X.env x=pure x:=by intro _;rfl):PS X (.Assign [.Name y py] (.ListComp elt [⟨tg,iter,ifs,0⟩] scope pos) spos) (LS X.K (bI i (dU src fi g t f))) :=
 Re (NC:=NC) i src hc hi hg ht he hkind (chkB.ok hB).1 (chkB.ok hB).2.1 (chkB.ok hB).2.2 (chkS.ok hS) hN hi2 hx hf hsw hs
end
end DL
namespace DL
open PySem PySem.Spec PyProof.Rows L2
section
variable {prog:Program}{w:World}{A:Around}{R:Result->Shared->Prop}{s:Shared}
theorem V8(elt tg iter tg2 iter2:Expr)(ifs ifs2:List Expr)(scope:Scope)(pos:Pos)(it acc:Value)(env:Env) :
  compTurn (.ListComp elt [⟨tg,iter,ifs,0⟩,⟨tg2,iter2,ifs2,0⟩] scope pos) 0 it acc env=(do
   standAt iter.pos
   match <- pyNext it with
   | none=>pure (.done .next)
   | some v =>
    letOwnedTupleGo tg it v
    assign tg env v
    let mut ok:=true
    for c in ifs do
     if ok then ok <- isTrue c env (eval c env)
    if ok then
     let x <- eval iter2 env
     standAt iter2.pos
     let x <- foldedSetIterable iter2 env x
     let _ <- runOwn (.compStart (.ListComp elt [⟨tg,iter,ifs,0⟩,⟨tg2,iter2,ifs2,0⟩] scope pos) 1 (<- holding [x] (pyIter x)) acc env) env
    again (.compLoop (.ListComp elt [⟨tg,iter,ifs,0⟩,⟨tg2,iter2,ifs2,0⟩] scope pos) 0 it acc env)):=by rfl
theorem K7(elt tg iter tg2 iter2:Expr)(ifs ifs2:List Expr)(scope:Scope)(pos:Pos)(it acc:Value)(env:Env) :
  compTurn (.ListComp elt [⟨tg,iter,ifs,0⟩,⟨tg2,iter2,ifs2,0⟩] scope pos) 1 it acc env=(do
   standAt iter2.pos
   match <- pyNext it with
   | none=>pure (.done .next)
   | some v =>
    letOwnedTupleGo tg2 it v
    assign tg2 env v
    let mut ok:=true
    for c in ifs2 do
     if ok then ok <- isTrue c env (eval c env)
    if ok then
     (do let _ <- call (.builtin "list.append") [acc,<- eval elt env])
    again (.compLoop (.ListComp elt [⟨tg,iter,ifs,0⟩,⟨tg2,iter2,ifs2,0⟩] scope pos) 1 it acc env)):=by rfl
theorem R0{elt tg iter tg2 iter2:Expr}{ifs ifs2:List Expr}{scope:Scope}{pos:Pos}{it acc:Value}{env:Env}
  (h0:codeAny (model prog w) A (.compLoop (.ListComp elt [⟨tg,iter,ifs,0⟩,⟨tg2,iter2,ifs2,0⟩] scope pos) 1 it acc env) R s)
  (h:wpAny (model prog w) A (pyIter it) (fun it' s'=>codeAny (model prog w) A (.compLoop (.ListComp elt [⟨tg,iter,ifs,0⟩,⟨tg2,iter2,ifs2,0⟩] scope pos) 1 it' acc env) R s')
   (notedBy (model prog w) A env fun x s'=>R (.error x) s') s) :
  codeAny (model prog w) A (.compStart (.ListComp elt [⟨tg,iter,ifs,0⟩,⟨tg2,iter2,ifs2,0⟩] scope pos) 1 it acc env) R s:=by
 refine codeAny_of_tree ?_;show wpAny _ _ ((compStart (.ListComp elt [⟨tg,iter,ifs,0⟩,⟨tg2,iter2,ifs2,0⟩] scope pos) 1 it acc env).onRaise (fun x=>do noteFrame x env;standAt theWindowsPlace)) _ _ s
 refine wpAny_notedAt ?_;unfold compStart;show wpAny _ _ (ask>>=_) _ _ s
 refine wpAny_bind (wpAny_askSetting (wpAny_ite ?_))
 split
 ·first
   | exact wpAny_bind (wpAny_pure (wpAny_pure (And.intro rfl h0)))
   | exact wpAny_pure (And.intro rfl h0)
 ·first
   | exact wpAny_bind (wpAny_rule (wpAny_bind (wpAny_standAt (wpAny_bind (wpAny_mono h (fun it' s' h'=>wpAny_pure (And.intro rfl h')) fun _ _ x=>x)))))
   | (refine wpAny_bind (wpAny_rule ?_);show wpAny _ _ (standAt iter2.pos>>=_) _ _ s;exact wpAny_bind (wpAny_standAt (wpAny_bind (wpAny_mono h (fun it' s' h'=>wpAny_pure (And.intro rfl h')) fun _ _ x=>x))))
theorem w5{elt tg iter tg2 iter2:Expr}{ifs ifs2:List Expr}{scope:Scope}{pos:Pos}{it acc:Value}{env:Env}(I:Nat->Shared->Prop)(hs:∀ x,foldedSetIterable iter2 env x=pure x)
  (turn:∀ n s,I n s->wpAny (model prog w) A (pyNext it) (fun r s₁=>match r with
   | none=>R (.ok .next) s₁
   | some v=>wpAny (model prog w) A (letOwnedTupleGo tg it v) (fun _ s₀=>wpAny (model prog w) A (assign tg env v) (fun _ s₂ =>
     wpAny (model prog w) A (forIn ifs true fun c r=>if r=true then do let ok <- isTrue c env (eval c env);pure (ForInStep.yield ok) else pure (ForInStep.yield r)) (fun ok s₃ =>
      if ok=true then wpAny (model prog w) A (eval iter2 env) (fun x s₄ =>
       wpAny (model prog w) A (pyIter x) (fun it2 s₅=>codeAny (model prog w) A (.compStart (.ListComp elt [⟨tg,iter,ifs,0⟩,⟨tg2,iter2,ifs2,0⟩] scope pos) 1 it2 acc env) (fun r s₆=>r=.ok .next/\∃ m,m<n/\I m s₆) s₅) (fun _ _=>False) s₄) (fun _ _=>False) s₃
      else ∃ m,m<n/\I m s₃) (fun _ _=>False) s₂) (fun _ _=>False) s₀) (fun _ _=>False) s₁) (fun _ _=>False) s)
  (n:Nat) (h:I n s) :
  codeAny (model prog w) A (.compLoop (.ListComp elt [⟨tg,iter,ifs,0⟩,⟨tg2,iter2,ifs2,0⟩] scope pos) 0 it acc env) R s:=by
 have ff:∀ {E:Value->Shared->Prop} (x:Value) (s:Shared),False->E x s:=fun _ _ z=>z.elim
 refine codeAny_loop rfl I (fun n s hI=>?_) n h;show wpAny _ A ((compTurn (.ListComp elt [⟨tg,iter,ifs,0⟩,⟨tg2,iter2,ifs2,0⟩] scope pos) 0 it acc env).onRaise (fun x=>do noteFrame x env;theTreesLotGoes x)) _ _ s
 refine wpAny_noted ?_;rw[V8];refine wpAny_bind (wpAny_standAt (wpAny_bind (wpAny_mono (turn n s hI) (fun r s₁ h₁=>?_) ff)))
 cases r with
 | none=>exact wpAny_pure h₁
 | some v =>
  refine wpAny_bind (wpAny_mono h₁ (fun _ s₀ h₀=>?_) ff);refine wpAny_bind (wpAny_mono h₀ (fun _ s₂ h₂=>wpAny_bind (wpAny_mono h₂ (fun ok s₃ h₃=>?_) ff)) ff)
  cases ok with
  | true =>
   simp only[if_true]at h₃ ⊢;refine wpAny_bind (wpAny_mono h₃ (fun x s₄ h₄=>?_) ff);refine wpAny_bind (wpAny_standAt (wpAny_bind (wpAny_of_eq (hs x) ?_)));refine wpAny_bind (wpAny_holding (wpAny_mono h₄ (fun it2 s₅ h₅=>?_) ff));refine wpAny_bind (wpAny_runOwn (codeAny_mono h₅ fun r s₆ ⟨hr,h₆⟩=>?_));subst hr;exact wpAny_pure ⟨rfl,h₆⟩
  | false =>
   simp only[Bool.false_eq_true,if_false]at h₃ ⊢;exact wpAny_pure ⟨rfl,h₃⟩
theorem Ze{elt tg iter tg2 iter2:Expr}{ifs ifs2:List Expr}{scope:Scope}{pos:Pos}{it acc:Value}{env:Env}{E:Value->Shared->Prop}(hE:∀ x s,E x s->False)(I:Nat->Shared->Prop)
  (turn:∀ n s,I n s->wpAny (model prog w) A (pyNext it) (fun r s₁=>match r with
   | none=>R (.ok .next) s₁
   | some v=>wpAny (model prog w) A (letOwnedTupleGo tg2 it v) (fun _ s₀=>wpAny (model prog w) A (assign tg2 env v) (fun _ s₂ =>
     wpAny (model prog w) A (forIn ifs2 true fun c r=>if r=true then do let ok <- isTrue c env (eval c env);pure (ForInStep.yield ok) else pure (ForInStep.yield r)) (fun ok s₃ =>
      if ok=true then wpAny (model prog w) A (eval elt env) (fun x s₄ =>
       wpAny (model prog w) A (call (.builtin "list.append") [acc,x]) (fun _ s₅=>∃ m,m<n/\I m s₅) E s₄) E s₃
      else ∃ m,m<n/\I m s₃) E s₂) E s₀) E s₁) E s)
  (n:Nat) (h:I n s) :
  codeAny (model prog w) A (.compLoop (.ListComp elt [⟨tg,iter,ifs,0⟩,⟨tg2,iter2,ifs2,0⟩] scope pos) 1 it acc env) R s:=by
 have ff:∀ {E':Value->Shared->Prop} (x:Value) (s:Shared),E x s->E' x s:=fun x s z=>(hE x s z).elim
 refine codeAny_loop rfl I (fun n s hI=>?_) n h;show wpAny _ A ((compTurn (.ListComp elt [⟨tg,iter,ifs,0⟩,⟨tg2,iter2,ifs2,0⟩] scope pos) 1 it acc env).onRaise (fun x=>do noteFrame x env;theTreesLotGoes x)) _ _ s
 refine wpAny_noted ?_;rw[K7];refine wpAny_bind (wpAny_standAt (wpAny_bind (wpAny_mono (turn n s hI) (fun r s₁ h₁=>?_) ff)))
 cases r with
 | none=>exact wpAny_pure h₁
 | some v =>
  refine wpAny_bind (wpAny_mono h₁ (fun _ s₀ h₀=>?_) ff);refine wpAny_bind (wpAny_mono h₀ (fun _ s₂ h₂=>wpAny_bind (wpAny_mono h₂ (fun ok s₃ h₃=>?_) ff)) ff)
  cases ok with
  | true =>
   simp only[if_true]at h₃ ⊢;refine wpAny_bind (wpAny_bind (wpAny_mono h₃ (fun x s₄ h₄=>wpAny_bind (wpAny_mono h₄ (fun _ s₅ h₅=>wpAny_pure (wpAny_pure ⟨rfl,h₅⟩)) ff)) ff))
  | false =>
   simp only[Bool.false_eq_true,if_false]at h₃ ⊢;exact wpAny_pure ⟨rfl,h₃⟩
end
abbrev qY:=D->List PyData->aU->Mu->(List PyData->aU->Mu->Prop)->Prop
def cI(st:qY):List D->List PyData->aU->Mu->(List PyData->aU->Mu->Prop)->Prop
 | [],acc,d,m,Q=>Q acc d m
 | x::xs,acc,d,m,Q=>st x acc d m fun acc' d' m'=>cI st xs acc' d' m' Q
def cY(g:DG)(t:DT)(f:DE):qY:=fun x acc d m Q=>g x d m fun d1 m1=>t d1 m1 fun b m2=>if b=true then f d1 m2 fun y m3=>∃ p,y=.dat p/\acc.length<sizeLine/\Q (acc++[p]) d1 m3 else Q acc d1 m2
def hZ(g:DG)(t:DT)(fi2:DI)(st:qY):qY:=fun x acc d m Q=>g x d m fun d1 m1=>t d1 m1 fun b m2=>if b=true then fi2 d1 m2 fun ys m3=>cI st ys acc d1 m3 Q else Q acc d1 m2
@[simp] def uE(src:List (Option Nat))(fi:DI)(g:DG)(t:DT)(fi2:DI)(g2:DG)(t2:DT)(f:DE):DE:=fun d m Q=>fi d m fun xs m1=>cI (hZ g t fi2 (cY g2 t2 f)) xs [] (bK src d) m1 fun ps _ m2=>Q (.dat (.list ps)) m2
structure ExtW (K:PySem.W.Frag) (Z:Addr->Prop) (D:Addr) (m:Mu) (H:Hp) (m':Mu) (H':Hp):Prop where
 t:∀ a vs,SqT K H a vs->SqT K H' a vs
 l:∀ a vs,(m a=none/\¬ aJ Z D a)->SqL K H a vs->m' a=none/\SqL K H' a vs
 z:∀ a,Z a->H' a=H a
 c:∀ a,(m a).isSome=true->(m' a).isSome=true
 fz:∀ a o u,H a=some (.frz o u)->H' a=some (.frz o u)
 fm:∀ a,rV (m a)=true->m' a=m a
section
variable {K:PySem.W.Frag}{Z:Addr->Prop}{m m1 m' m2:Mu}{H H1 H' H2:Hp}{D:Addr}{ys zs:List V}
theorem ExtW.refl:ExtW K Z D m H m H:=⟨fun _ _ h=>h,fun _ _ h1 h2=>⟨h1.1,h2⟩,fun _ _=>rfl,fun _ h=>h,fun _ _ _ h=>h,fun _ _=>rfl⟩
theorem ExtW.y(e:ExtW K Z D m H m' H'):ExtY K (aJ Z D) m H m' H':=⟨e.t,e.l,e.fz⟩
theorem ExtW.trans(a:ExtW K Z D m H m' H')(b:ExtW K Z D m' H' m2 H2):ExtW K Z D m H m2 H2 :=
 ⟨fun x vs h=>b.t x vs (a.t x vs h),fun x vs h1 h2=>let ⟨q1,q2⟩:=a.l x vs h1 h2;b.l x vs ⟨q1,h1.2⟩ q2,fun x h=>(b.z x h).trans (a.z x h),fun x h=>b.c x (a.c x h),fun x o u h=>b.fz x o u (a.fz x o u h),fun x h=>by
  have q:=a.fm x h
  rw[b.fm x (by rw[q];exact h),q]⟩
theorem Ext.w(e:Ext K (aJ Z D) m H m' H'):ExtW K Z D m H m' H':=⟨e.t,e.l,fun a h=>e.z a (.inl h),e.c,e.fz,e.fm⟩
theorem ExtW.put(hz:¬ Z D)(hD:H D=some (.lst ys)):ExtW K Z D m H m (aI H D (.lst zs)) :=
 ⟨nP hD,fun a vs h1 h2=>⟨h1.1,Ao (fun e=>h1.2 (.inr e)) h2⟩,fun a h=>by
  have ne:a≠D:=by rintro rfl;exact hz h
  rw[aX ne],fun _ h=>h,fun a o u h=>by
  rw[aX (by rintro rfl;rw[hD]at h;cases h)]
  exact h,fun _ _=>rfl⟩
theorem ExtW.rd{x:DL.D}{v:V}(e:ExtW K Z D m H m' H')(h:RD K (aJ Z D) m H x v):RD K (aJ Z D) m' H' x v:=by
 cases x with
 | dat p=>exact RP.tr e.t (fun a vs h1 h2=>let ⟨q1,q2⟩:=e.l a vs h1 h2;⟨⟨q1,h1.2⟩,q2⟩) p v h e.fz
 | cel a=>exact⟨h.1,e.c a h.2⟩
theorem Qi(e:Ext K Z m1 H1 m H)(hD:H1 D=none)(hk:K.lookup D=none)(e2:ExtW K Z D m H m' H'):Ext K Z m1 H1 m' H' :=
 ⟨fun a vs h=>e2.t a vs (e.t a vs h),fun a vs h1 h2=>let ⟨q1,q2⟩:=e.l a vs h1 h2;e2.l a vs ⟨q1,fun z=>z.elim h1.2 (SqL.ne hD hk h2)⟩ q2,fun a h=>(e2.z a h).trans (e.z a h),fun a h=>e2.c a (e.c a h),fun a o u h=>e2.fz a o u (e.fz a o u h),fun a h=>by
  have q:=e.fm a h
  rw[e2.fm a (by rw[q];exact h),q]⟩
end
section
variable {Y:Cx}{tg iter tg2 iter2 elt:Expr}{ifs ifs2:List Expr}{scope:Scope}{fi2:DI}{g2:DG}{t2:DT}{f:DE}{pos:Pos}
theorem Z3(hc:Y.calm=true)(hx:∀ x s,Y.xe x s->False)(hi:PI Y tg2 iter2 (LI Y.K fi2))(hg:PG Y tg2 (LG Y.K g2))(ht:PF Y ifs2 (LT Y.K t2))(he:PE Y elt (LE Y.K f))
  {pins:List (Addr×Obj)} {s:Shared} {σ:L2.St} {H:Hp} {Z:Addr->Prop} {D:Addr} {acc:List PyData} {ys:List V} {d:aU} {m:Mu} {Q:List PyData->aU->Mu->Prop}
  (I:Inv Y pins σ H s) (hz:¬ Z D) (hD:H D=some (.lst ys)) (racc:RPs Y.K (aJ Z D) m H acc ys) (ok:Ok Y.K (aJ Z D) m H) (rs:RS Y.K (aJ Z D) m H d σ) (h:fi2 d m fun xs m1=>cI (cY g2 t2 f) xs acc d m1 Q) :
  wpAny (model Y.prog Y.w) Y.A (eval iter2 Y.env) (fun x s4=>wpAny (model Y.prog Y.w) Y.A (pyIter x) (fun it2 s5=>codeAny (model Y.prog Y.w) Y.A (.compStart (.ListComp elt [⟨tg,iter,ifs,0⟩,⟨tg2,iter2,ifs2,0⟩] scope pos) 1 it2 (.ref D) Y.env)
   (fun r s6=>r=.ok .next/\∃ σ' H' ys' acc' d' m',Inv Y pins σ' H' s6/\H' D=some (.lst ys')/\RPs Y.K (aJ Z D) m' H' acc' ys'/\ExtW Y.K Z D m H m' H'/\Ok Y.K (aJ Z D) m' H'/\RS Y.K (aJ Z D) m' H' d' σ'/\Q acc' d' m') s5) Y.xe s4) Y.xe s:=by
 refine aM (hi pins s σ H (fun J H1=>∃ xs m1,Ext Y.K (aJ Z D) m H m1 H1/\Ok Y.K (aJ Z D) m1 H1/\lZ Y.K (aJ Z D) m1 H1 xs J/\cI (cY g2 t2 f) xs acc d m1 Q) I
  ⟨aJ Z D,d,m,_,ok,rs,h,fun xs m1 H1 J q e1 ok1 y1=>⟨xs,m1,e1,ok1,y1,q⟩⟩) fun xv s₁ h₁=>aM h₁ fun itv s₂ h₂=>?_
 obtain⟨it,fp,tn,J,H2,eit,I2,T,st2,f2,xs,m1,e1,ok1,yl,lp⟩:=h₂;subst eit;have hD2:H2 D=some (.lst ys):=(e1.z _ (.inr rfl)).trans hD
 have stat:∀ {H':Hp},(∀ b∈fp,H' b=none)->∀ b∈fp,dD Y pins H' b:=fun hn b hb=>⟨hn b hb,(f2 b hb).2⟩
 have loop:codeAny (model Y.prog Y.w) Y.A (.compLoop (.ListComp elt [⟨tg,iter,ifs,0⟩,⟨tg2,iter2,ifs2,0⟩] scope pos) 1 (.ref it) (.ref D) Y.env)
   (fun r s6=>r=.ok .next/\∃ σ' H' ys' acc' d' m',Inv Y pins σ' H' s6/\H' D=some (.lst ys')/\RPs Y.K (aJ Z D) m' H' acc' ys'/\ExtW Y.K Z D m H m' H'/\Ok Y.K (aJ Z D) m' H'/\RS Y.K (aJ Z D) m' H' d' σ'/\Q acc' d' m') s₂:=by
  refine Ze hx (fun n s'=>∃ (i:Nat) (ys:List V) (acc:List PyData) (d':aU) (m':Mu) (σ':L2.St) (H':Hp),n=xs.length-i/\i<=xs.length/\Inv Y pins σ' H' s'/\tn i s'.heap/\(∀ b∈fp,H' b=none) /\
   H' D=some (.lst ys)/\RPs Y.K (aJ Z D) m' H' acc ys/\ExtW Y.K Z D m1 H2 m' H'/\Ok Y.K (aJ Z D) m' H'/\RS Y.K (aJ Z D) m' H' d' σ' /\
   cI (cY g2 t2 f) (xs.drop i) acc d' m' Q) ?_ xs.length ⟨0,ys,acc,d,m1,σ,H2,by simp,Nat.zero_le _,I2,st2,fun b hb=>(f2 b hb).1,hD2,RPs.ext e1 _ _ racc,ExtW.refl,ok1,rs.ext e1,by simpa using lp⟩
  rintro n s4 ⟨i,ys,acc,d',m',σ',H',rfl,hi',I5,st5,fr5,hDy,racc,eX,ok5,rs5,lp5⟩;obtain⟨y1,y2⟩:=yl m' H' eX.y
  by_cases hlt:i<xs.length
  ·rw[List.drop_eq_getElem_cons hlt]at lp5;obtain⟨go,yd⟩:=y1 i xs[i] (List.getElem?_eq_getElem hlt);refine aM (T.item Y rfl rfl rfl hc i pins s4 σ' H' Y.xe I5 (stat fr5) st5 go) fun r s5 hq0=>?_;obtain⟨u,hr,h5⟩:=hq0;subst hr;refine aM h5 fun _ s6 hq0=>?_;obtain⟨x,H6,I6,r6,yy,st6,fr6⟩:=hq0;have yy':=yd x H6 yy
   have e56:Ext Y.K (aJ Z D) m' H' m' H6:=ok5.ext yy'.same
   have rv:=yy'.rd (fun d v h=>eX.rd h) ok5
   have hDy:=yy'.same _ _ hDy
   have racc:=RPs.ext e56 _ _ racc
   have eX:=eX.trans e56.w
   have rs5:=rs5.ext e56
   have ok5:=ok5.grow yy'.same
   have I6':=I6.pinned (stat fr6) (T.obj _ _ st6)
   have over:∀ {s7:Shared} {σ7:L2.St} {H7:Hp} {ys7:List V} {acc7:List PyData} {d7:aU} {m7:Mu},Inv Y (pins++jU fp s6.heap) σ7 H7 s7->H7 D=some (.lst ys7)->RPs Y.K (aJ Z D) m7 H7 acc7 ys7 ->
     ExtW Y.K Z D m1 H2 m7 H7->Ok Y.K (aJ Z D) m7 H7->RS Y.K (aJ Z D) m7 H7 d7 σ7->(cI (cY g2 t2 f) (xs.drop (i+1)) acc7 d7 m7 Q) ->
     ∃ n,n<xs.length-i/\∃ (i:Nat) (ys:List V) (acc:List PyData) (d':aU) (m':Mu) (σ':L2.St) (H':Hp),n=xs.length-i/\i<=xs.length/\Inv Y pins σ' H' s7/\tn i s7.heap/\(∀ b∈fp,H' b=none) /\
      H' D=some (.lst ys)/\RPs Y.K (aJ Z D) m' H' acc ys/\ExtW Y.K Z D m1 H2 m' H'/\Ok Y.K (aJ Z D) m' H'/\RS Y.K (aJ Z D) m' H' d' σ' /\
      cI (cY g2 t2 f) (xs.drop i) acc d' m' Q:=by
    intro s7 σ7 H7 ys7 acc7 d7 m7 I7 a1 a2 a3 a4 a5 a6;refine⟨xs.length-(i+1),by omega,i+1,ys7,acc7,d7,m7,σ7,H7,rfl,hlt,I7.unpinned,T.keep _ _ _ st6 fun b hb o e=>(I7.pin (b,o) (List.mem_append_right _ (List.mem_append_right _ (iD hb e)))).1,fun b hb=>?_,a1,a2,a3,a4,a5,a6⟩
    obtain⟨o,e,dd⟩:=T.obj _ _ st6 b hb;exact(I7.pin (b,o) (List.mem_append_right _ (List.mem_append_right _ (iD hb e)))).2.1
   refine aM (hg _ s6 σ' _ x u (fun σ7 H7=>∃ d7 m7,Ext Y.K (aJ Z D) m' H6 m7 H7/\Ok Y.K (aJ Z D) m7 H7/\RS Y.K (aJ Z D) m7 H7 d7 σ7 /\
    t2 d7 m7 fun b m2=>if b=true then f d7 m2 fun y m3=>∃ p,y=.dat p/\acc.length<sizeLine/\cI (cY g2 t2 f) (xs.drop (i+1)) (acc++[p]) d7 m3 Q else cI (cY g2 t2 f) (xs.drop (i+1)) acc d7 m2 Q) I6' r6
    ⟨_,xs[i],d',m',_,ok5,rs5,rv,lp5,fun d7 m7 σ7 H7 q7 e7 ok7 rs7=>⟨d7,m7,e7,ok7,rs7,q7⟩⟩) fun _ s7 hq0=>?_
   obtain⟨σ7,H7,I7,d7,m7,e7,ok7,rs7,q7⟩:=hq0;refine aM (ht _ s7 σ7 H7 (fun b H8=>∃ m8,Ext Y.K (aJ Z D) m7 H7 m8 H8/\Ok Y.K (aJ Z D) m8 H8 /\
    if b=true then f d7 m8 fun y m3=>∃ p,y=.dat p/\acc.length<sizeLine/\cI (cY g2 t2 f) (xs.drop (i+1)) (acc++[p]) d7 m3 Q else cI (cY g2 t2 f) (xs.drop (i+1)) acc d7 m8 Q) I7
    ⟨_,d7,m7,_,ok7,rs7,q7,fun b m8 H8 q8 e8 ok8=>⟨m8,e8,ok8,q8⟩⟩) fun b s8 hq0=>?_
   obtain⟨H8,I8,m8,e8,ok8,q8⟩:=hq0;have e68:=e7.trans e8
   have hD8:H8 D=some (.lst ys):=(e68.z _ (.inr rfl)).trans hDy
   cases b with
   | false =>
    rw[if_neg Bool.false_ne_true]at q8;exact over I8 hD8 (RPs.ext e68 _ _ racc) (eX.trans e68.w) ok8 (rs7.ext e8) q8
   | true =>
    rw[if_pos rfl]at q8;refine aM (he _ s8 σ7 H8 (fun v H9=>∃ p m9,RP Y.K (aJ Z D) m9 H9 p v/\Ext Y.K (aJ Z D) m8 H8 m9 H9/\Ok Y.K (aJ Z D) m9 H9/\acc.length<sizeLine/\cI (cY g2 t2 f) (xs.drop (i+1)) (acc++[p]) d7 m9 Q) I8
     ⟨_,d7,m8,_,ok8,rs7.ext e8,q8,fun y m9 v H9 hq1 e9 ok9 r9=>by
      obtain⟨p,ey,hz,q9⟩:=hq1;subst ey;exact⟨p,m9,r9,e9,ok9,hz,q9⟩⟩) fun yv s9 hq0=>?_
    obtain⟨y,H9,I9,ry,p,m9,rp9,e9,ok9,hz9,q9⟩:=hq0;have e69:=e68.trans e9
    have hD9:H9 D=some (.lst ys):=(e69.z _ (.inr rfl)).trans hDy
    have racc9:=RPs.ext e69 _ _ racc
    have rs9:=(rs7.ext e8).ext e9
    refine aM (xH _ s9 σ7 H9 (.ref D) [y] (.ref D) [yv] (fun v H10=>H10=aI H9 D (.lst (ys++[y]))) I9 rfl (.cons ry .nil) ⟨_,ys,y,rfl,rfl,hD9,by rw[racc9.length];exact hz9,rfl⟩) fun rv s10 hq0=>?_
    obtain⟨v10,H10,I10,_,e10⟩:=hq0;subst e10;refine over I10 bQ ?_ ((eX.trans e69.w).trans (ExtW.put hz hD9)) (Ph ok9 hD9) ⟨rs9.1,fun j z hj=>?_⟩ q9
    ·exact RPs.tr (nP hD9) wH _ _ (racc9.append (by simp only[RPs];exact⟨y,[],rfl,rp9,rfl⟩))
    ·obtain⟨v,a1,a2⟩:=rs9.2 j z hj;exact⟨v,a1,Iu hD9 a2⟩
  ·have e:i=xs.length:=by omega
   subst e;rw[List.drop_length]at lp5;refine aM (T.done Y rfl rfl rfl hc _ pins s4 σ' H' Y.xe I5 (stat fr5) st5 y2) fun r s5 hq0=>?_;obtain⟨hr,I6⟩:=hq0;subst hr;exact⟨rfl,σ',H',ys,acc,d',m',I6,hDy,racc,(e1.w).trans eX,ok5,rs5,lp5⟩
 exact R0 loop (T.self _ 0 _ _ _ st2 loop)
end
end DL
namespace DL
open PySem PySem.Spec PyProof.Rows L2
section
variable {X:Cx}{tg iter tg2 iter2 elt:Expr}{ifs ifs2:List Expr}{scope:Scope}{NC:List Str}{fi fi2:DI}{g g2:DG}{t t2:DT}{f:DE}{pos:Pos}
theorem K5(src:List (Option Nat))(hc:X.calm=true)(hi:PI X tg iter (LI X.K fi))
  (hg:∀ cl C s2 H2 pins fp,PG (aP X scope cl C NC s2 H2 pins fp) tg (LG X.K g)) (ht:∀ cl C s2 H2 pins fp,PF (aP X scope cl C NC s2 H2 pins fp) ifs (LT X.K t)) (hi2:∀ cl C s2 H2 pins fp,PI (aP X scope cl C NC s2 H2 pins fp) tg2 iter2 (LI X.K fi2)) (hg2:∀ cl C s2 H2 pins fp,PG (aP X scope cl C NC s2 H2 pins fp) tg2 (LG X.K g2)) (ht2:∀ cl C s2 H2 pins fp,PF (aP X scope cl C NC s2 H2 pins fp) ifs2 (LT X.K t2))
  (he:∀ cl C s2 H2 pins fp,PE (aP X scope cl C NC s2 H2 pins fp) elt (LE X.K f)) (hs2:∀ cl C x,foldedSetIterable iter2 (compEnvC scope cl C X.env) x=pure x)
  (hkind:scope.kind=.function) (hcell:∀ y∈scope.names,y.2≠.cell) (hnames:∀ y∈scope.names,y.2=.local->scope.names.lookup y.1=some .local)
  (hfree:∀ x,(x,NameKind.free)∈scope.names->X.env.kindOf x=some .cell\/X.env.kindOf x=some .free) (hsrc:jK X scope NC src)
  (hs:∀ x,foldedSetIterable iter X.env x=pure x) {use:Option (Value->Sem Unit)} {QQ:Value->Shared->Prop} {pos':Pos} {pins:List (Addr×Obj)} {s:Shared} {σ:L2.St} {H:Hp} {Z:Addr->Prop} {d:aU} {m:Mu} {RL:List PyData->Mu->Prop}
  (I:Inv X pins σ H s) (ok:Ok X.K Z m H) (rs:RS X.K Z m H d σ) (h:fi d m fun xs m1=>cI (hZ g t fi2 (cY g2 t2 f)) xs [] (bK src d) m1 (fun ps _ m2=>RL ps m2))
  (fin:∀ (s5:Shared) (C D:Addr) (H':Hp) (m':Mu) (ps:List PyData),RL ps m'->Ext X.K Z m H m' H'->Ok X.K Z m' H'->RD X.K Z m' H' (.dat (.list ps)) (.ref D)->(∃ mm,s5.heap.Ns C mm)->Inv X pins σ H' s5->Off X pins H' C ->
   compPost (model X.prog X.w) X.A X.xe use QQ (.ref D) C (.ok .next) s5) :
  wpAny (model X.prog X.w) X.A (comprehension (.ListComp elt [⟨tg,iter,ifs,0⟩,⟨tg2,iter2,ifs2,0⟩] scope pos) scope X.env pos' (newList []) false (eval iter X.env) use) QQ X.xe s:=by
 obtain⟨cl,hclos,hcl1,hcl2⟩:=Fn (scope:=scope) (env:=X.env) fun x hx=>I.ok.has x (hfree x hx);refine wpAny_comprehension_free (use:=use) rfl hs hclos hkind hnames ?_;refine aM (hi pins s σ H (fun J H1=>∃ xs m1,Ext X.K Z m H m1 H1/\Ok X.K Z m1 H1/\lZ X.K Z m1 H1 xs J/\cI (hZ g t fi2 (cY g2 t2 f)) xs [] (bK src d) m1 (fun ps _ m2=>RL ps m2)) I
  ⟨Z,d,m,_,ok,rs,h,fun xs m1 H1 J q e1 ok1 y1=>⟨xs,m1,e1,ok1,y1,q⟩⟩) fun xv s₁ h₁=>aM h₁ fun itv s₂ h₂=>?_
 obtain⟨it,fp,tn,J,H2,eit,I2,T,st2,f2,xs,m1,e1,ok1,yl,lp⟩:=h₂;subst eit;refine wpAny_newObj_type (wpAny_newFunctionEnv hcell (by intro y hy;simp at hy) (fun h₁ hns₁ hsb₁=>?_) hkind)
 dsimp only at hns₁ hsb₁ ⊢
 generalize hH2:s₂.heap.push {cls:=.type "list",dict:=none,data:=.seq ([]:List Value).toArray}=HP at hns₁ hsb₁ ⊢
 have hC:HP.objs.size=s₂.heap.objs.size+1:=by rw[<- hH2,Heap.size_push]
 have leC:s₂.heap.objs.size<=HP.objs.size:=by rw[hC];exact Nat.le_succ _
 have old:∀ b o,s₂.heap.get? b=some o->h₁.get? b=some o:=fun b o e=>hsb₁.extBut b o (Nat.ne_of_lt (Nat.lt_of_lt_of_le (Heap.lt_size e) leC)) (Heap.get?_push_of_some _ (hH2▸Heap.get?_push_of_some _ e))
 have hacc:h₁.get? s₂.heap.objs.size=some {cls:=.type "list",data:=.seq ([]:List Value).toArray}:=hsb₁.extBut _ _ (by rw[hC];exact Nat.ne_of_lt (Nat.lt_succ_self _)) (Heap.get?_push_of_some _ (hH2▸Heap.get?_push_size _ rfl))
 have hD:H2 s₂.heap.objs.size=none:=I2.hok.fresh (Nat.le_refl _)
 have hkD:X.K.lookup s₂.heap.objs.size=none:=by
  cases e:X.K.lookup s₂.heap.objs.size with
  | none=>rfl
  | some o=>exact absurd (Heap.lt_size (I2.kIn _ o e)) (Nat.lt_irrefl _)
 have obf:∀ b∈fp,∃ o,s₂.heap.get? b=some o/\∀ v,o.data≠.cell v:=T.obj 0 _ st2
 have hσ:∀ (i:Nat) (x:Str) (v:V),NC[i]?=some x->(bK src σ)[i]?=some (some v)->fT (relabel scope X.env) x->((relabel scope X.env).names.lookup x=some .cell\/(relabel scope X.env).names.lookup x=some .free)/\(X.env.kindOf x=some .cell\/X.env.kindOf x=some .free)/\∃ j:Nat,X.N[j]?=some x/\σ[j]?=some (some v):=fun i x v h1 h2 _=>by
  obtain⟨j,q1,q2⟩:=Fj h2;obtain⟨a1,a2,a3⟩:=hsrc.2 i x j h1 q1;exact⟨a3,hfree x a2,j,a1,q2⟩
 have I4:=fun tk=>Ng (cl:=cl) (NC:=NC) (σ':=bK src σ) (tk:=tk) I2 f2 obf hkind hcell hcl1 hcl2 (by unfold bK;rw[List.length_map];exact hsrc.1.symm) hσ hC hns₁ old hacc
 have st4:tn 0 h₁:=T.keep 0 _ _ st2 fun b _ o e=>old b o e
 -- the loop
 have loop:∀ s₃:Shared,s₃={s₂ with heap:=h₁,toks:=s₂.toks+([]:List (Str×Value)).length} ->
   codeAny (model X.prog X.w) X.A (.compLoop (.ListComp elt [⟨tg,iter,ifs,0⟩,⟨tg2,iter2,ifs2,0⟩] scope pos) 0 (.ref it) (.ref s₂.heap.objs.size) (compEnvC scope cl HP.objs.size X.env))
    (compPost (model X.prog X.w) X.A X.xe use QQ (.ref s₂.heap.objs.size) HP.objs.size) s₃:=by
  rintro s₃ rfl;refine w5 (hs:=fun x=>hs2 _ _ x) (fun n s'=>∃ (i:Nat) (ys:List V) (acc:List PyData) (d':aU) (m':Mu) (σ':L2.St) (H':Hp),n=xs.length-i/\i<=xs.length/\Inv (aP X scope cl HP.objs.size NC s₂ H2 pins fp) [] σ' H' s'/\tn i s'.heap/\(∀ b∈fp,H' b=none) /\
   H' s₂.heap.objs.size=some (.lst ys)/\RPs X.K (aJ Z s₂.heap.objs.size) m' H' acc ys/\Ext X.K Z m1 H2 m' H'/\Ok X.K (aJ Z s₂.heap.objs.size) m' H'/\RS X.K (aJ Z s₂.heap.objs.size) m' H' d' σ' /\
   cI (hZ g t fi2 (cY g2 t2 f)) (xs.drop i) acc d' m' (fun ps _ m2=>RL ps m2)) ?_ xs.length ?_
  rotate_left
  ·have rs1:RS X.K Z m1 H2 (bK src d) (bK src σ):=yB src (rs.ext e1)
   refine⟨0,[],[],bK src d,m1,bK src σ,_,by simp,Nat.zero_le _,I4 _,st4,fun b hb=>?_,bQ,by simp[RPs],ok1.ext (bX hD),Hv ok1 hD hkD,⟨rs1.1,fun i x hx=>?_⟩,by simpa using lp⟩
   ·obtain⟨o,ho,_⟩:=obf b hb;rw[aX (Nat.ne_of_lt (Heap.lt_size ho))];exact(f2 b hb).1
   ·obtain⟨v,q1,q2⟩:=rs1.2 i x hx;exact⟨v,q1,Jy hD hkD q2⟩
  rintro n s4 ⟨i,ys,acc,d',m',σ',H',rfl,hi',I5,st5,fr5,hDy,racc,eX,ok5,rs5,lp5⟩;have stat:∀ b∈fp,dD (aP X scope cl HP.objs.size NC s₂ H2 pins fp) [] H' b:=fun b hb=>by
   obtain⟨g0,g1,g2,g3,g4,g5⟩:=f2 b hb;obtain⟨o,ho,_⟩:=obf b hb;refine⟨fr5 b hb,Nat.ne_of_lt (Nat.lt_of_lt_of_le (Heap.lt_size ho) leC),fun z=>?_,.inl hb,fun x c e=>g4 x c (hcl1 (x,c) (qW e)),fun p hp=>?_⟩
   ·rcases List.mem_cons.mp (I2.stkSub b z) with q | q
    ·exact g1 q
    ·exact g2 q
   ·rcases List.mem_append.mp hp with q | q
    ·exact g5 p q
    ·cases q
  obtain⟨y1,y2⟩:=yl m' H' eX.y
  by_cases hlt:i<xs.length
  ·rw[List.drop_eq_getElem_cons hlt]at lp5;obtain⟨go,yd⟩:=y1 i xs[i] (List.getElem?_eq_getElem hlt);refine aM (T.item (aP X scope cl HP.objs.size NC s₂ H2 pins fp) rfl rfl rfl hc i [] s4 σ' H' (fun _ _=>False) I5 stat st5 go) fun r s5 hq0=>?_;obtain⟨u,hr,h5⟩:=hq0;subst hr;refine aM h5 fun _ s6 hq0=>?_;obtain⟨x,H6,I6,r6,yy,st6,fr6⟩:=hq0;have yy':=yd x H6 yy
   have e56:Ext X.K (aJ Z s₂.heap.objs.size) m' H' m' H6:=ok5.ext yy'.same
   have rv:=yy'.rd (fun d v h=>xI hD hkD eX h) ok5
   have hDy:=yy'.same _ _ hDy
   have racc:=RPs.ext e56 _ _ racc
   have eX:=jF eX hD hkD e56
   have rs5:=rs5.ext e56
   have ok5:=ok5.grow yy'.same
   have stat:∀ b∈fp,dD (aP X scope cl HP.objs.size NC s₂ H2 pins fp) [] H6 b:=fun b hb=>⟨fr6 b hb,(stat b hb).2⟩
   have I6':=I6.pinned stat (T.obj _ _ st6)
   -- what stands when a turn is over
   have over:∀ {s7:Shared} {σ7:L2.St} {H7:Hp} {ys7:List V} {acc7:List PyData} {d7:aU} {m7:Mu},Inv (aP X scope cl HP.objs.size NC s₂ H2 pins fp) ([]++jU fp s6.heap) σ7 H7 s7->H7 s₂.heap.objs.size=some (.lst ys7)->RPs X.K (aJ Z s₂.heap.objs.size) m7 H7 acc7 ys7 ->
     Ext X.K Z m1 H2 m7 H7->Ok X.K (aJ Z s₂.heap.objs.size) m7 H7->RS X.K (aJ Z s₂.heap.objs.size) m7 H7 d7 σ7->(cI (hZ g t fi2 (cY g2 t2 f)) (xs.drop (i+1)) acc7 d7 m7 (fun ps _ m2=>RL ps m2)) ->
     ∃ n,n<xs.length-i/\∃ (i:Nat) (ys:List V) (acc:List PyData) (d':aU) (m':Mu) (σ':L2.St) (H':Hp),n=xs.length-i/\i<=xs.length/\Inv (aP X scope cl HP.objs.size NC s₂ H2 pins fp) [] σ' H' s7/\tn i s7.heap/\(∀ b∈fp,H' b=none) /\
      H' s₂.heap.objs.size=some (.lst ys)/\RPs X.K (aJ Z s₂.heap.objs.size) m' H' acc ys/\Ext X.K Z m1 H2 m' H'/\Ok X.K (aJ Z s₂.heap.objs.size) m' H'/\RS X.K (aJ Z s₂.heap.objs.size) m' H' d' σ' /\
      cI (hZ g t fi2 (cY g2 t2 f)) (xs.drop i) acc d' m' (fun ps _ m2=>RL ps m2):=by
    intro s7 σ7 H7 ys7 acc7 d7 m7 I7 a1 a2 a3 a4 a5 a6;refine⟨xs.length-(i+1),by omega,i+1,ys7,acc7,d7,m7,σ7,H7,rfl,hlt,I7.unpinned,T.keep _ _ _ st6 fun b hb o e=>(I7.pin (b,o) (List.mem_append_right _ (List.mem_append_right _ (iD hb e)))).1,fun b hb=>?_,a1,a2,a3,a4,a5,a6⟩
    obtain⟨o,e,dd⟩:=T.obj _ _ st6 b hb;exact(I7.pin (b,o) (List.mem_append_right _ (List.mem_append_right _ (iD hb e)))).2.1
   refine aM (hg cl _ s₂ H2 pins fp _ s6 σ' _ x u (fun σ7 H7=>∃ d7 m7,Ext X.K (aJ Z s₂.heap.objs.size) m' H6 m7 H7/\Ok X.K (aJ Z s₂.heap.objs.size) m7 H7/\RS X.K (aJ Z s₂.heap.objs.size) m7 H7 d7 σ7 /\
    t d7 m7 fun b m2=>if b=true then fi2 d7 m2 fun zs m3=>cI (cY g2 t2 f) zs acc d7 m3 (fun acc' d' m'=>cI (hZ g t fi2 (cY g2 t2 f)) (xs.drop (i+1)) acc' d' m' (fun ps _ m2=>RL ps m2)) else cI (hZ g t fi2 (cY g2 t2 f)) (xs.drop (i+1)) acc d7 m2 (fun ps _ m2=>RL ps m2)) I6' r6
    ⟨_,xs[i],d',m',_,ok5,rs5,rv,lp5,fun d7 m7 σ7 H7 q7 e7 ok7 rs7=>⟨d7,m7,e7,ok7,rs7,q7⟩⟩) fun _ s7 hq0=>?_
   obtain⟨σ7,H7,I7,d7,m7,e7,ok7,rs7,q7⟩:=hq0;refine aM (ht cl _ s₂ H2 pins fp _ s7 σ7 H7 (fun b H8=>∃ m8,Ext X.K (aJ Z s₂.heap.objs.size) m7 H7 m8 H8/\Ok X.K (aJ Z s₂.heap.objs.size) m8 H8 /\
    if b=true then fi2 d7 m8 fun zs m3=>cI (cY g2 t2 f) zs acc d7 m3 (fun acc' d' m'=>cI (hZ g t fi2 (cY g2 t2 f)) (xs.drop (i+1)) acc' d' m' (fun ps _ m2=>RL ps m2)) else cI (hZ g t fi2 (cY g2 t2 f)) (xs.drop (i+1)) acc d7 m8 (fun ps _ m2=>RL ps m2)) I7
    ⟨_,d7,m7,_,ok7,rs7,q7,fun b m8 H8 q8 e8 ok8=>⟨m8,e8,ok8,q8⟩⟩) fun b s8 hq0=>?_
   obtain⟨H8,I8,m8,e8,ok8,q8⟩:=hq0;have e68:=e7.trans e8
   have hD8:H8 s₂.heap.objs.size=some (.lst ys):=(e68.z _ (.inr rfl)).trans hDy
   cases b with
   | false =>
    rw[if_neg Bool.false_ne_true]at q8;exact over I8 hD8 (RPs.ext e68 _ _ racc) (jF eX hD hkD e68) ok8 (rs7.ext e8) q8
   | true =>
    rw[if_pos rfl]at q8;rw[if_pos rfl];have nz:¬ Z s₂.heap.objs.size:=fun z=>(ok1.z _ z).2 hD
    have ic:=Z3 (Y:=aP X scope cl HP.objs.size NC s₂ H2 pins fp) (tg:=tg) (iter:=iter) (ifs:=ifs) (scope:=scope) (pos:=pos) hc (fun _ _ z=>z) (hi2 cl _ s₂ H2 pins fp) (hg2 cl _ s₂ H2 pins fp) (ht2 cl _ s₂ H2 pins fp) (he cl _ s₂ H2 pins fp) I8 nz hD8 (RPs.ext e68 _ _ racc) ok8 (rs7.ext e8) q8
    refine aM ic fun xv9 s9 h9=>aM h9 fun it9 s10 h10=>codeAny_mono h10 ?_;rintro r s11 ⟨hr,σ',H',ys',acc',d',m',I11,hD11,racc11,e11,ok11,rs11,q11⟩;exact⟨hr,over I11 hD11 racc11 (Qi (jF eX hD hkD e68) hD hkD e11) ok11 rs11 q11⟩
  ·have e:i=xs.length:=by omega
   subst e;rw[List.drop_length]at lp5;refine aM (T.done (aP X scope cl HP.objs.size NC s₂ H2 pins fp) rfl rfl rfl hc _ [] s4 σ' H' (fun _ _=>False) I5 stat st5 y2) fun r s5 hq0=>?_;obtain⟨hr,I6⟩:=hq0;subst hr;have IX:=Fo I2 f2 I6 leC (Heap.SameBut.refl _ _)
   have nz:¬ Z s₂.heap.objs.size:=fun z=>(ok1.z _ z).2 hD
   refine fin s5 HP.objs.size s₂.heap.objs.size H' m' acc lp5 (e1.trans eX) (xG ok5) ?_ ⟨_,I6.loc.choose_spec.1⟩ IX ⟨I6.free,Nat.ne_of_gt (Nat.lt_of_lt_of_le I2.lt leC),Nat.le_trans I2.sz leC,fun x c e=>?_,fun p hp=>?_⟩
   ·simp only[RD,RP];exact⟨_,ys,rfl,⟨(ok5.z _ (.inr rfl)).1,nz⟩,.inl (.inl hDy),RPs.tr (fun _ _ q=>q) (fun a vs q1 q2=>⟨⟨q1.1,fun z=>q1.2 (.inl z)⟩,q2⟩) _ _ racc⟩
   ·obtain⟨v,q⟩:=I2.cell x c e;exact Nat.ne_of_lt (Nat.lt_of_lt_of_le q.lt leC)
   ·exact Nat.ne_of_lt (Nat.lt_of_lt_of_le (Heap.lt_size (I2.pin p hp).1) leC)
 exact codeAny_compStart_list (loop _ rfl) (T.self _ 0 _ _ _ st4 (loop _ rfl))
theorem Xi(src:List (Option Nat))(hc:X.calm=true)(hi:PI X tg iter (LI X.K fi))
  (hg:∀ cl C s2 H2 pins fp,PG (aP X scope cl C NC s2 H2 pins fp) tg (LG X.K g)) (ht:∀ cl C s2 H2 pins fp,PF (aP X scope cl C NC s2 H2 pins fp) ifs (LT X.K t)) (hi2:∀ cl C s2 H2 pins fp,PI (aP X scope cl C NC s2 H2 pins fp) tg2 iter2 (LI X.K fi2)) (hg2:∀ cl C s2 H2 pins fp,PG (aP X scope cl C NC s2 H2 pins fp) tg2 (LG X.K g2)) (ht2:∀ cl C s2 H2 pins fp,PF (aP X scope cl C NC s2 H2 pins fp) ifs2 (LT X.K t2))
  (he:∀ cl C s2 H2 pins fp,PE (aP X scope cl C NC s2 H2 pins fp) elt (LE X.K f)) (hs2:∀ cl C x,foldedSetIterable iter2 (compEnvC scope cl C X.env) x=pure x)
  (hkind:scope.kind=.function) (hcell:∀ y∈scope.names,y.2≠.cell) (hnames:∀ y∈scope.names,y.2=.local->scope.names.lookup y.1=some .local)
  (hfree:∀ x,(x,NameKind.free)∈scope.names->X.env.kindOf x=some .cell\/X.env.kindOf x=some .free) (hsrc:jK X scope NC src)
  (hs:∀ x,foldedSetIterable iter X.env x=pure x:=by intro _;rfl) :
  PE X (.ListComp elt [⟨tg,iter,ifs,0⟩,⟨tg2,iter2,ifs2,0⟩] scope pos) (LE X.K (uE src fi g t fi2 g2 t2 f)):=by
 intro pins s σ H Q I h;obtain⟨Z,d,m,R,ok,rs,h,k⟩:=h;rw[eval_ListComp];refine K5 src hc hi hg ht hi2 hg2 ht2 he hs2 hkind hcell hnames hfree hsrc hs (use:=none) (QQ:=EP X pins σ Q) (RL:=fun ps m2=>R (.dat (.list ps)) m2) I ok rs h ?_;intro s5 C D H' m' ps q e ok' rd ⟨mm,hns⟩ I5 off;exact⟨mm,hns,fun h' hs'=>⟨.ref D,H',off.inv I5 hs',rfl,k _ m' _ H' q e ok' rd⟩⟩
theorem S8{k n:Nat}{fa:Addr}{fd:FuncData}{ps:List Str}{sp:DC}{x:Str}{p:Pos}(F:FnOk X.prog X.w X.K X.mg X.base aV k fa fd ps (LSp X.K n sp))(hr:Room k X.A)(hm:X.mg x=some (.ref fa))(hk:PySem.W.keepIn X.K (.ref fa)=true)
  (hb:Binds X.K fd ps []) (hx:X.xe=fun _ _=>False) (hg:Gl X x:=by rfl) (hdb:(x==("__debug__" : Str))=false:=by decide):PE X (.Call (.Name x p) [] [] pos) (LE X.K (bB n sp aF)) :=
 PE.imp (Z0 F hr hg hm hk hb .nil (Ox (X:=X)) hdb) fun s H Q h=>by
  obtain⟨Z,d,m,R,ok,rs,⟨hl,q⟩,k⟩:=h;exact⟨Z,[],m,R,ok,by simp[RDs],hl,q,fun d' m' v' H' h1 h2 h3 h4=>k d' m' v' H' h1 h2 h3 h4⟩
theorem Vu(NC:List Str)(src:List (Option Nat))(hc:X.calm=true)(hi:PI X tg iter (LI X.K fi))
  (hg:∀ cl C s2 H2 pins fp,PG (aP X scope cl C NC s2 H2 pins fp) tg (LG X.K g)) (ht:∀ cl C s2 H2 pins fp,PF (aP X scope cl C NC s2 H2 pins fp) ifs (LT X.K t))
  (hi2:∀ cl C s2 H2 pins fp,PI (aP X scope cl C NC s2 H2 pins fp) tg2 iter2 (LI X.K fi2)) (hg2:∀ cl C s2 H2 pins fp,PG (aP X scope cl C NC s2 H2 pins fp) tg2 (LG X.K g2)) (ht2:∀ cl C s2 H2 pins fp,PF (aP X scope cl C NC s2 H2 pins fp) ifs2 (LT X.K t2))
  (he:∀ cl C s2 H2 pins fp,PE (aP X scope cl C NC s2 H2 pins fp) elt (LE X.K f))
  (hkind:scope.kind=.function:=by rfl) (hB:chkB scope X.env=true:=by rfl) (hS:chkS X.N scope X.env NC src=true:=by rfl)
  (hs2:∀ cl C x,foldedSetIterable iter2 (compEnvC scope cl C X.env) x=pure x:=by intro _ _ _;rfl)
  (hs:∀ x,foldedSetIterable iter X.env x=pure x:=by intro _;rfl):PE X (.ListComp elt [⟨tg,iter,ifs,0⟩,⟨tg2,iter2,ifs2,0⟩] scope pos) (LE X.K (uE src fi g t fi2 g2 t2 f)) :=
 Xi (NC:=NC) src hc hi hg ht hi2 hg2 ht2 he hs2 hkind (chkB.ok hB).1 (chkB.ok hB).2.1 (chkB.ok hB).2.2 (chkS.ok hS) hs
end
end DL
namespace DL
open PySem PySem.Spec PyProof.Rows L2
section
variable {prog:Program}{w:World}{A:Around}{E:Value->Shared->Prop}{s:Shared}
theorem Ip{it tq:Addr}{i:Nat}{its:Array Value}{x:Value}{Q:Value->Shared->Prop}(hit:s.heap.IsTupleIter it tq i)(ht:s.heap.IsTuple tq its)(hx:its[i]?=some x)
  (hQ:∀ h',h'.IsTupleIter it tq (i+1)->Heap.SameBut it s.heap h'->Q x {s with heap:=h'}):wpAny (model prog w) A (Builtin.SmallTypes.nextOf (.ref it)) Q E s:=by
 obtain⟨o,ho,hc,hd⟩:=id hit;obtain⟨ol,hol,_,nl,hdl⟩:=ht;unfold Builtin.SmallTypes.nextOf;refine wpAny_bind (wpAny_callSpecial?_slot (name:=Str.ofString "__next__") hit.typeIs F.slot_tuple_iterator_next (wpAny_call_entry F.slot_tuple_iterator_next hit.typeIs F.entry_tuple_iterator_next ?_ (F.args_tuple_iterator_next_1 _)));show wpAny _ _ (field (.ref it) 0>>=_) _ _ _;refine wpAny_bind (wpAny_field ho hd (x:=.ref tq) rfl ?_)
 show wpAny _ _ (if (Value.ref tq==Value.none)=true then _ else _) _ _ s
 rw[if_neg (show ¬ ((Value.ref tq==Value.none)=true) from Bool.false_ne_true)]
 show wpAny _ _ (field (.ref it) 1>>=_) _ _ _;refine wpAny_bind (wpAny_field ho hd (x:=.int i 0) rfl ?_)
 show wpAny _ _ (seqItems? (.ref tq)>>=_) _ _ s
 refine wpAny_bind (wpAny_seqItems hol hdl ?_);simp only[Int.toNat_natCast,hx];refine wpAny_bind (wpAny_setField ho hd (by simp) (wpAny_pure ⟨_,rfl,wpAny_pure (hQ _ ?_ (Heap.SameBut.update ..))⟩))
 refine⟨_,Heap.get?_update_self _ ho (Obj.isFreed_of_fields (Obj.data_mapFields hd _)),(Obj.cls_mapFields ..).trans hc,?_⟩;rw[Obj.data_mapFields hd]<;>simp[rawInt]
theorem Ru{it tq:Addr}{i:Nat}{its:Array Value}{Q:Value->Shared->Prop}(hh:A.handled=none)(hit:s.heap.IsTupleIter it tq i)(ht:s.heap.IsTuple tq its)(hx:its[i]?=none)
  (hE:∀ h' e,Heap.ExtBut it s.heap h'->(∃ o,h'.get? e=some o/\o.cls=.type "StopIteration")->E (.ref e) {s with heap:=h'}):wpAny (model prog w) A (Builtin.SmallTypes.nextOf (.ref it)) Q E s:=by
 obtain⟨o,ho,hc,hd⟩:=id hit;obtain⟨ol,hol,_,nl,hdl⟩:=ht;unfold Builtin.SmallTypes.nextOf;refine wpAny_bind (wpAny_callSpecial?_slot (name:=Str.ofString "__next__") hit.typeIs F.slot_tuple_iterator_next (wpAny_call_entry F.slot_tuple_iterator_next hit.typeIs F.entry_tuple_iterator_next ?_ (F.args_tuple_iterator_next_1 _)));show wpAny _ _ (field (.ref it) 0>>=_) _ _ _;refine wpAny_bind (wpAny_field ho hd (x:=.ref tq) rfl ?_)
 show wpAny _ _ (if (Value.ref tq==Value.none)=true then _ else _) _ _ s
 rw[if_neg (show ¬ ((Value.ref tq==Value.none)=true) from Bool.false_ne_true)]
 show wpAny _ _ (field (.ref it) 1>>=_) _ _ _;refine wpAny_bind (wpAny_field ho hd (x:=.int i 0) rfl ?_)
 show wpAny _ _ (seqItems? (.ref tq)>>=_) _ _ s
 refine wpAny_bind (wpAny_seqItems hol hdl ?_);simp only[Int.toNat_natCast,hx];refine wpAny_bind (wpAny_rule (wpAny_bind (wpAny_setField ho hd (by simp) ?_)));show wpAny _ _ (newExc (.type "StopIteration") []>>=_) _ _ _
 refine wpAny_bind ?_;simp only[newExc,newTuple];refine wpAny_bind (wpAny_newObj_type ?_ (by size_fits))
 refine wpAny_bind (m:=firstArgMember _ _) (wpAny_of_eq (a:=Value.none) (by first | rfl | (simp only[firstArgMember];rfl)) ?_);refine wpAny_newObj_type ?_ (by size_fits)
 simp only[raiseNew];refine wpAny_bind (wpAny_handled ?_)
 (first | rw[show A.in1.handled=none from hh] | rw[hh]);refine wpAny_bind (wpAny_pure (wpAny_throw ?_))
 exact hE _ _ (((Heap.SameBut.update ..).extBut.push _).push _) ⟨_,Heap.get?_push_size _ rfl,rfl⟩
end
end DL
namespace DL
open PySem PySem.Spec PyProof.Rows L2
section
variable {X:Cx}{pins:List (Addr×Obj)}{σ:L2.St}{H:Hp}{s:Shared}{h':Heap}
theorem Mr{t':Nat}{ch:List Addr}(I:Inv X pins σ H s)(k:∀ b o,b∉ch->s.heap.get? b=some o->h'.get? b=some o)(hf:∀ b∈ch,dD X pins H b):Inv X pins σ H {s with heap:=h',toks:=t'}:=by
 have nit:∀ b u,H b=some u->b∉ch:=fun b u e z=>by rw[(hf b z).1]at e;cases e
 refine I.step (g':=s.gens) (d':=s.drawn) (ch:=ch) (fun b hb=>?_) (fun b o _ _ hc e _=>k b o hc e) (fun b o _ _ hc e _=>⟨o.slots,k b o hc e⟩) (fun _ _ _ _ n=>n) (fun b o hc e=>⟨o,k b o hc e⟩) (fun _ _ e=>e) (fun _ _ _ e=>e) (fun b ps e=>⟨#[],by rw[e];simp⟩) (fun m hm=>?_) (fun b u e=>?_) I.bare
 ·obtain⟨_,f1,_,f3,f4,f5⟩:=hf b hb;exact⟨f3,f1,f4,f5⟩
 ·obtain⟨o,es,ep,ho,r⟩:=hm;exact⟨o,es,ep,k _ o (fun z=>(hf _ z).2.1 rfl) ho,r⟩
 ·refine(I.hok b u e).stay (fun c v hc q=>k c v ?_ q) (fun _ q=>q) (fun _ _ q=>q) fun _ _ _ q=>q;rcases hc with z | z
  ·rw[z];exact nit b u e
  ·exact nit c _ z
end
theorem Xc(n a1 a2:Nat)(h1:a1<n)(h2:a2<n):ZipApart (n+4) (n+2) (n+3) n (n+1) a1 a2:=by
 constructor<;>exact fun e=>absurd (show(_:Nat)=_ from e) (by omega)
theorem x5:bootBuiltins "zip"=some (.type "zip"):=by decide +kernel
end DL
namespace DL
open PySem PySem.Spec PyProof.Rows L2
section
variable {X:Cx}{a e o:Expr}{es:List Expr}{f g:DE}{ga:DA}{pos p p1 p2:Pos}
theorem Dt:∀ {zs:List Str} {us:List Value},Vals (zs.map V.str) us->StrsAre us zs
 | [],_,.nil=>.nil
 | z::zs,_,.cons ⟨t,e⟩ r=>by
  rw[e];exact .cons z t (Dt r)
theorem Dx:∀ {zs:List Str} {us:List Value},StrsAre us zs->Vals (zs.map V.str) us
 | _,_,.nil=>.nil
 | _,_,.cons z t r=>.cons ⟨t,rfl⟩ (Dx r)
theorem Ba:bootBuiltins "sorted"=some (.builtin "sorted"):=by decide +kernel
theorem Ja:bootBuiltins "all"=some (.builtin "all"):=by decide +kernel
@[simp] def rB:DC
 | [.dat (.list ps)],m,Q=>∃ bs:List Bool,ps=bs.map .bool/\Q (.dat (.bool (bs.all id))) m
 | _,_,_=>False
theorem Az{K:PySem.W.Frag}{Z:Addr->Prop}{m:Mu}{H:Hp}:∀ {bs:List Bool} {vs:List V},RPs K Z m H (bs.map PyData.bool) vs->vs=bs.map V.bl
 | [],vs,h=>by simpa[RPs] using h
 | z::zs,vs,h=>by
  simp only[List.map_cons,RPs]at h;obtain⟨v,r,rfl,h1,h2⟩:=h;simp only[RP]at h1;subst h1;rw[Az h2];rfl
theorem yN:∀ {bs:List Bool} {us:List Value},Vals (bs.map V.bl) us->us=bs.map Value.bool
 | [],_,.nil=>rfl
 | b::bs,_,.cons r t=>by
  cases r
  rw[yN t];rfl
theorem J5(bs:List Bool):(List.range bs.length).all (fun i=>(bs[i]?).getD true)=bs.all id:=by
 rw[Bool.eq_iff_iff,List.all_eq_true,List.all_eq_true]
 constructor
 ·intro h b hb;obtain⟨i,hi,rfl⟩:=List.mem_iff_getElem.mp hb;have:=h i (List.mem_range.mpr hi)
  simpa[List.getElem?_eq_getElem hi] using this
 ·intro h i hi;have hi':=List.mem_range.mp hi
  rw[List.getElem?_eq_getElem hi'];exact h _ (List.getElem_mem hi')
theorem Od(hc:X.calm=true):CallD X (.builtin "all") rB:=by
 intro pins s σ H Z m xs ds us R Q I ok rv rd h k;unfold rB at h
 split at h
 ·obtain⟨v,rfl,r1⟩:=rd.one;obtain⟨bs,rfl,hh⟩:=h;simp only[RD,RP]at r1;obtain⟨a,vs,rfl,_,h1,h2⟩:=r1
  cases Az h2
  obtain⟨u,rfl,ru⟩:=eS rv
  cases ru
  obtain⟨its,r',pl,hz⟩:=I.list h1
  cases yN r'
  have ne:a≠s.heap.objs.size:=by
   obtain⟨o,ho,_⟩:=pl.isList;exact Nat.ne_of_lt (Heap.lt_size ho)
  refine call_all_walk (wpAny_pyIter_list pl.isList ?_);refine⟨s.heap.objs.size,_,_,_,_,_,fun i=>(bs[i]?).getD true,rfl,Walks.list (A:=X.A.in1) (show X.A.in1.handled=none from I.ok.hd hc) s.heap.objs.size a ne (bs.map Value.bool).toArray,⟨⟨_,Heap.get?_push_size _ rfl,rfl,rfl⟩,pl.isList.at fun o e=>Heap.get?_push_of_some _ e⟩,?_,?_⟩
  ·intro i v s' Q' E' hv hQ;have hv':(bs.map Value.bool)[i]?=some v:=by simpa using hv
   rw[List.getElem?_map]at hv'
   cases eb:bs[i]? with
   | none=>rw[eb]at hv';cases hv'
   | some b =>
    have hQ':Q' ((bs[i]?).getD true) s':=hQ
    rw[eb]at hv' hQ'
    cases hv'
    exact wpAny_truthy_bool hQ'
  ·intro h' tk kp;have e:((bs.map Value.bool).toArray.size)=bs.length:=by simp
   rw[e,J5];refine⟨.bl _,H,I.kept fun b o q=>kp b o ?_ (Heap.get?_push_of_some _ q),rfl,k _ m _ H hh Ext.refl ok .ofBl⟩;intro hb;have:b=s.heap.objs.size:=by simpa using hb
   exact absurd (Heap.lt_size q) (by rw[this];exact Nat.lt_irrefl _)
 ·exact h.elim
theorem Yw(x:Str)(l u:Option (Int×Tok)):(slicePicked x l u none).length<=x.length:=by
 unfold slicePicked Builtin.Str.strSliceIndices sliceRange;simp only[List.length_map,List.length_range,Option.map_none,Option.getD_none];have h1:(1:Int) > 0:=by decide
 simp only[h1,if_true]
 cases l<;>cases u<;>simp only[Option.map_none,Option.map_some]<;>repeat' split<;>omega
theorem xX{α β:Type}(f:α->Option β):∀ xs:List α,(xs.filterMap f).length<=xs.length
 | []=>Nat.le_refl _
 | x::xs=>by
  rw[List.filterMap_cons];have:=xX f xs
  cases f x with
  | none=>exact Nat.le_succ_of_le this
  | some y=>exact Nat.succ_le_succ this
def K4:V->Option Int->Option Int->Hp->VK->Prop:=fun x lo hi H Q=>∃ z:Str,x=.str z/\z.length<=sizeLine/\∀ y:Str,y.length<=z.length->Q (.str y) H
theorem Iz{v:Value}{lo:Option Int}(h:IsPart v lo):∃ l,v=partValue l:=by
 cases h with
 | none=>exact⟨none,rfl⟩
 | int i t=>exact⟨some (i,t),rfl⟩
theorem N0:SlR X K4:=by
 intro pins s σ H x v vl vu lo hi sl Q I rx hs pl pu h;obtain⟨z,rfl,hz,q⟩:=h;obtain⟨t,rfl⟩:=rx;obtain⟨l,rfl⟩:=Iz pl;obtain⟨u,rfl⟩:=Iz pu;refine⟨"str",_,PySem.F.slot_str_getitem.lookup,typeIs_str s z t,?_⟩;refine wpAny_getItem_str_slice (l:=l) (u:=u) (st:=none) hs rfl ?_;unfold sliceMade
 split
 ·exact⟨.str z,H,I,⟨_,rfl⟩,q z (Nat.le_refl _)⟩
 ·have hl:(⟨((slicePicked z l u none).filterMap (z.cps[·]?)).toArray⟩:Str).length<=z.length:=by
   show((slicePicked z l u none).filterMap (z.cps[·]?)).toArray.size<=z.length
   rw[List.size_toArray];exact Nat.le_trans (xX _ _) (Yw z l u)
  exact⟨Nat.le_trans hl hz,.str _,H,I.tok _,⟨_,rfl⟩,q _ hl⟩
@[simp] def qZ(fo g:DE):DE:=fun d m Q=>fo d m fun o m1=>∃ c,o=.cel c/\(∃ ys,m1 c=some (.l ys))/\g d m1 fun x m2=>∃ xs p,x=.dat p/\m2 c=some (.l xs)/\xs.length<sizeLine/\Q (.dat .none) (aS m2 c (.l (xs++[p])))
theorem W6{apos cpos:Pos}(ho:PE X o (LE X.K f))(he:PE X e (LE X.K g))(hbase:attributeBase o "append" X.env (eval o X.env)=eval o X.env:=by rfl)
  (hfew:((backTo cpos (starEach [e] X.env)).all (fun x=>!x.1)&&(backToKw cpos (keywordEach [] X.env)).all (fun x=>x.1.isSome)&&decide ([e].length+([]:List Keyword).length+(if ([]:List Keyword).isEmpty then 0 else 1)<30))=true:=by rfl)
  (hline:(apos.endLine==cpos.line)=true:=by rfl) (hs:starEach [e] X.env=(false,eval e X.env)::starEach [] X.env:=by rfl):PE X (.Call (.Attribute o "append" apos) [e] [] cpos) (LE X.K (qZ f g)) :=
 PE.imp (Pm (T:="list") (id:="list.append") (name:="append") PySem.F.plainAttrs_list PySem.F.slot_list_append PySem.F.type_list_append xH ho (kH he lP hs) hbase hfew hline hs rfl) fun s H Q h=>by
  obtain⟨Z,d,m,R,ok,rs,h,k⟩:=h;refine⟨Z,d,m,_,ok,rs,h,fun x m1 v H1 ⟨c,ex,⟨xs0,hx0⟩,q⟩ e1 ok1 rd=>?_⟩;subst ex;obtain⟨rfl,hc⟩:=rd;obtain⟨vs0,g0,_⟩:=ok1.l hx0;refine⟨.inl ⟨rfl,vs0,.inl (.inl g0)⟩,Z,d,m1,_,ok1,rs.ext e1,q,fun y m2 w H2 ⟨xs,pp,ey,hm,hz,q2⟩ e2 ok2 rd2=>?_⟩;subst ey;obtain⟨vs,g1,g2⟩:=ok2.l hm;refine⟨c,vs,w,rfl,rfl,g1,by rw[g2.length];exact hz,?_⟩
  refine k _ _ _ _ q2 (e1.trans (e2.trans (Ext.put ok2 hm g1))) (ok2.put hm g1 (show RPs _ _ _ _ _ _ from g2.append ?_)) (by simp only[RD,RP])
  simp only[RPs];exact⟨w,[],rfl,rd2,rfl⟩
@[simp] def mY(f:DE)(lo hi:DO):DE:=fun d m Q=>f d m fun x m1=>lo d m1 fun l m2=>hi d m2 fun u m3 =>
 (∃ xs,x=.dat (.tuple xs)/\Q (.dat (.tuple (cM xs l u))) m3)\/(∃ xs,x=.dat (.list xs)/\Q (.dat (.list (cM xs l u))) m3)\/(∃ z:Str,x=.dat (.str z)/\z.length<=sizeLine/\∀ y:Str,y.length<=z.length->Q (.dat (.str y)) m3)
theorem T9{lo hi:Option Expr}{tl th:DO}(ha:PE X a (LE X.K f))(hl:PO X lo (LO X.K tl))(hu:PO X hi (LO X.K th)):PE X (.Subscript a (.Slice lo hi none p2) pos) (LE X.K (mY f tl th)) :=
 PE.imp (Ln (Kc.or (Kr.or (Nd.or N0))) ha hl hu) fun s H Q h=>by
  obtain⟨Z,d,m,R,ok,rs,h,k⟩:=h;refine⟨Z,d,m,_,ok,rs,h,fun x m1 v H1 q e1 ok1 rx=>⟨Z,d,m1,_,ok1,rs.ext e1,q,fun l m2 H2 q2 e2 ok2=>⟨Z,d,m2,_,ok2,(rs.ext e1).ext e2,q2,fun u m3 H3 q3 e3 ok3=>?_⟩⟩⟩;have e13:=e1.trans (e2.trans e3)
  have rx3:=rx.ext (e2.trans e3)
  rcases q3 with⟨xs,rfl,q4⟩ | ⟨xs,rfl,q4⟩ | ⟨z,rfl,hz,q4⟩
  ·simp only[RD,RP]at rx3;obtain⟨a,vs,rfl,h1,h2⟩:=rx3
   by_cases hw:HT.sIx vs.length 0 l=0/\HT.sIx vs.length vs.length u=vs.length
   ·refine .inr (.inl ⟨a,vs,rfl,h1,hw,k _ m3 _ H3 q4 e13 ok3 ?_⟩);rw[h2.length]at hw;rw[Ii xs hw];simp only[RD,RP];exact⟨a,vs,rfl,h1,h2⟩
   ·refine .inl ⟨a,vs,rfl,h1,hw,fun p hp=>?_⟩;have sm:Same H3 (aI H3 p (.tup (fH vs l u))):=bX hp
    refine k _ m3 _ _ q4 (e13.trans (ok3.ext sm)) (ok3.grow sm) ?_;simp only[RD,RP];exact⟨p,_,rfl,.inl (.inl bQ),RPs.ext (ok3.ext sm) _ _ h2.cut⟩
  ·simp only[RD,RP]at rx3;obtain⟨a,vs,rfl,h0,h1,h2⟩:=rx3;refine .inr (.inr (.inl ⟨a,vs,rfl,h1,fun p hp=>?_⟩));have sm:Same H3 (aI H3 p (.lst (fH vs l u))):=bX hp
   refine k _ m3 _ _ q4 (e13.trans (ok3.ext sm)) (ok3.grow sm) ?_;simp only[RD,RP];exact⟨p,_,rfl,dJ ok3 hp,.inl (.inl bQ),RPs.ext (ok3.ext sm) _ _ h2.cut⟩
  ·cases rx3.str
   exact .inr (.inr (.inr ⟨z,rfl,hz,fun y hy=>k _ m3 _ H3 (q4 y hy) e13 ok3 .ofStr⟩))
end
end DL
namespace DL
open PySem PySem.Spec PyProof.Rows L2
def dF{κ:Type}[DecidableEq κ](kvs:List (κ×PyData))(k:κ):Option PyData:=(kvs.find? fun kv=>decide (kv.1=k)).map (·.2)
def fN{κ:Type}[DecidableEq κ](kvs:List (κ×PyData))(k:κ)(p:PyData):List (κ×PyData) :=
 if (kvs.any fun kv=>decide (kv.1=k))=true then kvs.map (fun kv=>if kv.1=k then (kv.1,p) else kv) else kvs++[(k,p)]
section
variable {κ:Type}[DecidableEq κ]{K:PySem.W.Frag}{Z:Addr->Prop}{m:Mu}{H:Hp}
theorem RKV.length:∀ {kvs:List (κ×PyData)} {vs:List (κ×V)},RKV K Z m H kvs vs->vs.length=kvs.length
 | [],_,h=>by cases (show _=[] from h);rfl
 | _::_,_,⟨v,r,h1,_,h3⟩=>by subst h1;rw[List.length_cons,List.length_cons,RKV.length h3]
theorem RKV.val{k:κ}{p:PyData}:∀ {kvs:List (κ×PyData)} {vs:List (κ×V)},RKV K Z m H kvs vs->dF kvs k=some p->∃ v,bV vs k=some v/\RP K Z m H p v
 | [],_,_,e=>by simp[dF]at e
 | (j,q)::xs,_,⟨v,r,h1,h2,h3⟩,e=>by
  subst h1;unfold dF at e;unfold bV
  by_cases c:j=k
  ·simp[List.find?_cons,c]at e ⊢;exact e▸h2
  ·simp[List.find?_cons,c]at e ⊢;have:=RKV.val (k:=k) (p:=p) h3 (by unfold dF;simpa using e)
   unfold bV at this;simpa using this
theorem RKV.any{k:κ}:∀ {kvs:List (κ×PyData)} {vs:List (κ×V)},RKV K Z m H kvs vs->(vs.any fun kv=>decide (kv.1=k))=(kvs.any fun kv=>decide (kv.1=k))
 | [],_,h=>by cases (show _=[] from h);rfl
 | _::_,_,⟨v,r,h1,_,h3⟩=>by subst h1;rw[List.any_cons,List.any_cons,RKV.any h3]
theorem RKV.repl{k:κ}{p:PyData}{v:V}(hp:RP K Z m H p v):∀ {kvs:List (κ×PyData)} {vs:List (κ×V)},RKV K Z m H kvs vs->RKV K Z m H (kvs.map fun kv=>if kv.1=k then (kv.1,p) else kv) (vs.map fun kv=>if kv.1=k then (kv.1,v) else kv)
 | [],_,h=>by cases (show _=[] from h);exact(rfl:([]:List (κ×V))=[])
 | (j,q)::xs,_,⟨w,r,h1,h2,h3⟩=>by
  subst h1;rw[List.map_cons,List.map_cons]
  by_cases c:j=k
  ·rw[if_pos c,if_pos c];exact⟨v,_,rfl,hp,RKV.repl hp h3⟩
  ·rw[if_neg c,if_neg c];exact⟨w,_,rfl,h2,RKV.repl hp h3⟩
theorem RKV.snoc{k:κ}{p:PyData}{v:V}(hp:RP K Z m H p v):∀ {kvs:List (κ×PyData)} {vs:List (κ×V)},RKV K Z m H kvs vs->RKV K Z m H (kvs++[(k,p)]) (vs++[(k,v)])
 | [],_,h=>by cases (show _=[] from h);exact⟨v,[],rfl,hp,rfl⟩
 | _::_,_,⟨w,r,h1,h2,h3⟩=>by subst h1;exact⟨w,_,rfl,h2,RKV.snoc hp h3⟩
theorem RKV.put{k:κ}{p:PyData}{v:V}{kvs:List (κ×PyData)}{vs:List (κ×V)}(h:RKV K Z m H kvs vs)(hp:RP K Z m H p v):RKV K Z m H (fN kvs k p) (bP vs k v):=by
 unfold fN bP;rw[h.any]
 split
 ·exact h.repl hp
 ·exact h.snoc hp
end
@[simp] def jR:D->Option aH
 | .dat (.str z)=>some (.inr z)
 | .dat (.int i)=>some (.inl i)
 | _=>none
theorem RD.key{K:PySem.W.Frag}{Z:Addr->Prop}{m:Mu}{H:Hp}{x:D}{v:V}{k:aH}(h:RD K Z m H x v)(e:jR x=some k):v=kV k:=by
 unfold jR at e
 split at e
 ·cases e;cases h.str;rfl
 ·cases e;cases h.int;rfl
 ·cases e
section
variable {X:Cx}{o i e:Expr}{fo fi f:DE}{pos tpos:Pos}
@[simp] def qJ(fo fi f:DE):DS:=fun E d m=>f d m fun x m1=>fo d m1 fun o m2=>fi d m2 fun y m3=>∃ c k kvs p,o=.cel c/\jR y=some k/\x=.dat p/\m3 c=some (.d kvs)/\kvs.length<sizeLine/\E.nx d (aS m3 c (.d (fN kvs k p)))
theorem Vk(hu:X.A.units+100<cLine)(he:PE X e (LE X.K f))(ho:PE X o (LE X.K fo))(hi:PE X i (LE X.K fi))(hs:swapsWith e (some (.Subscript o i tpos)) pos.line X.env=pure false:=by rfl) :
  PS X (.Assign [.Subscript o i tpos] e pos) (LS X.K (qJ fo fi f)):=PS.imp (Oy (by omega) ho hi he hs) fun E s H h=>by
 obtain⟨Z,d,m,R,ok,rs,h,k,_⟩:=h;refine⟨Z,d,m,_,ok,rs,h,fun x m1 v H1 q e1 ok1 r1=>⟨Z,d,m1,_,ok1,rs.ext e1,q,fun o m2 w H2 q2 e2 ok2 r2=>⟨Z,d,m2,_,ok2,(rs.ext e1).ext e2,q2,fun y m3 z H3 q3 e3 ok3 r3=>?_⟩⟩⟩;obtain⟨c,ky,kvs,p,rfl,hk,rfl,hm,hl,q⟩:=q3
 cases r3.key hk
 obtain⟨rfl,_⟩:=r2.ext e3;obtain⟨vs,g1,g2⟩:=ok3.d hm;have r1':=r1.ext (e2.trans e3)
 refine⟨c,_,rfl,.inl ⟨vs,ky,g1,rfl,by rw[g2.length];exact hl,rfl⟩,?_⟩
 have e4:Ext X.K Z m3 H3 (aS m3 c (.d (fN kvs ky p))) (aI H3 c (.dK (bP vs ky v))):=Ext.put ok3 hm g1
 exact k d _ s _ q (e1.trans (e2.trans (e3.trans e4))) (ok3.put hm g1 (show RKV _ _ _ _ _ _ from g2.put r1')) ((rs.ext e1).ext (e2.trans (e3.trans e4)))
@[simp] def fL(fo fi:DE):DE:=fun d m Q=>fo d m fun o m1=>fi d m1 fun y m2=>∃ c k kvs p,o=.cel c/\jR y=some k/\m2 c=some (.d kvs)/\dF kvs k=some p/\Q (.dat p) m2
theorem Rm(hu:X.A.units+100<cLine)(ho:PE X o (LE X.K fo))(hi:PE X i (LE X.K fi))(hs:iG i:=by exact fun _ _=>rfl):PE X (.Subscript o i pos) (LE X.K (fL fo fi)) :=
 PE.imp (Ov (by omega) ho hi hs) fun s H Q h=>by
  obtain⟨Z,d,m,R,ok,rs,h,k⟩:=h;refine⟨Z,d,m,_,ok,rs,h,fun o m1 v H1 q e1 ok1 r1=>⟨Z,d,m1,_,ok1,rs.ext e1,q,fun y m2 w H2 q2 e2 ok2 r2=>?_⟩⟩;obtain⟨c,ky,kvs,p,rfl,hk,hm,hv,q⟩:=q2
  cases r2.key hk
  obtain⟨rfl,_⟩:=r1.ext e2;obtain⟨vs,g1,g2⟩:=ok2.d hm;obtain⟨v,hv',rv⟩:=g2.val hv;exact⟨c,v,rfl,.inl ⟨vs,ky,.inl g1,rfl,hv'.symm⟩,k _ m2 _ H2 q (e1.trans e2) ok2 rv⟩
end
end DL
namespace DL
open PySem PySem.Spec PyProof.Rows L2
def KEnt(w:World):List DictEntry->List (Str×V)->Prop
 | [],[]=>True
 | e::es,(z,v)::kvs=>e.hash=PyData.keyHash w.params z/\(∃ t,e.key=.str z t)/\RelV v e.val/\KEnt w es kvs
 | _,_=>False
def KDt(K:PySem.W.Frag)(w:World)(a:Addr)(kvs:List (Str×V)):Prop :=
 ∃ (o:Obj) (es:Array DictEntry) (ep:Nat),K.lookup a=some o/\o.cls=.type "dict"/\o.dict=none/\o.slots=#[]/\o.data=.dict es ep/\KEnt w es.toList kvs/\(kvs.map (·.1)).Nodup/\(a==sysModules)=false
def KD(K:PySem.W.Frag)(w:World)(a:Addr)(kvs:List (Str×PyData)):Prop:=∃ vs:List (Str×V),KDt K w a vs/\∀ (Z:Addr->Prop) (m:Mu) (H:Hp),RKV K Z m H kvs vs
def kM{α:Type}(kvs:List (Str×α)):List (aH×α):=kvs.map fun kv=>(.inr kv.1,kv.2)
theorem KEnt.out{P:Program}{w:World}:∀ {es:List DictEntry} {kvs:List (Str×V)},KEnt w es kvs->∃ vs:List (Str×Value),KV (kM kvs) (kM vs)/\Pairs (bD P w) es (kM vs)/\(∀ e∈es,∃ k,(bD P w).is k e.key=true/\e.hash=(bD P w).hash k)/\vs.map (·.1)=kvs.map (·.1)
 | [],[],_=>⟨[],.nil,.nil,by simp,rfl⟩
 | e::es,(z,v)::kvs,⟨h1,⟨t,h2⟩,h3,h4⟩=>by
  obtain⟨vs,q1,q2,q3,q4⟩:=KEnt.out (P:=P) h4;have hk:(bD P w).is (.inr z) e.key=true:=by
   rw[h2];exact decide_eq_true (rfl:z=z)
  refine⟨(z,e.val)::vs,.cons ⟨rfl,h3⟩ q1,.cons hk rfl q2,fun x hx=>?_,by simp[q4]⟩
  rcases List.mem_cons.mp hx with rfl | hx
  ·exact⟨_,hk,h1⟩
  ·exact q3 x hx
 | [],_::_,h=>h.elim
 | _::_,[],h=>h.elim
theorem KDt.dictOf{K:PySem.W.Frag}{P:Program}{w:World}{a:Addr}{kvs:List (Str×V)}{h:Heap}(q:KDt K w a kvs)(hK:K.In h):∃ vs:List (aH×Value),KV (kM kvs) vs/\h.DictOf (bD P w) a vs:=by
 obtain⟨o,es,ep,h1,h2,h3,h4,h5,h6,h7,_⟩:=q;obtain⟨vs,q1,q2,q3,q4⟩:=KEnt.out (P:=P) h6;refine⟨_,q1,o,es,ep,hK _ _ h1,⟨h2,h3,h4⟩,h5,fun e he=>q3 e (by simpa using he),q2,?_⟩
 have e:(kM vs).map (·.1)=(kvs.map (·.1)).map Sum.inr:=by
  rw[<- q4];simp[kM,Function.comp_def]
 rw[e];exact List.Pairwise.map _ (fun a b hab h=>hab (Sum.inr.inj h)) h7
theorem Pa{z:Str}:∀ kvs:List (Str×V),bV (kM kvs) (.inr z)=bV kvs z
 | []=>rfl
 | (y,v)::kvs=>by
  have ih:=Pa (z:=z) kvs
  unfold bV kM at *
  by_cases c:y=z
  ·simp[List.find?_cons,c]
  ·simp only[List.map_cons,List.find?_cons,c,decide_false,Sum.inr.injEq];exact ih
theorem RKV.val_none{κ:Type}[DecidableEq κ]{K:PySem.W.Frag}{Z:Addr->Prop}{m:Mu}{H:Hp}{k:κ}:∀ {kvs:List (κ×PyData)} {vs:List (κ×V)},RKV K Z m H kvs vs->dF kvs k=none->bV vs k=none
 | [],_,h,_=>by cases (show _=[] from h);rfl
 | (j,q)::xs,_,⟨v,r,h1,h2,h3⟩,e=>by
  subst h1;unfold dF at e;unfold bV
  by_cases c:j=k
  ·simp[List.find?_cons,c]at e
  ·simp[List.find?_cons,c]at e ⊢;have:=RKV.val_none (k:=k) h3 (by unfold dF;simpa using e)
   unfold bV at this;simpa using this
theorem eW{K:PySem.W.Frag}{Z:Addr->Prop}{m:Mu}{H:Hp}{a:Addr}{is:List Int}(h:SqT K H a (is.map V.int)):RP K Z m H (.tuple (is.map PyData.int)) (.ref a):=by
 simp only[RP];exact⟨a,_,rfl,h,Cs is⟩
section
variable {X:Cx}{i e g:Expr}{fi f fg:DE}{p pos apos cpos:Pos}
@[simp] def kX(kvs:List (Str×PyData))(fi:DE):DE:=fun d m Q=>fi d m fun y m1=>∃ (z:Str) (q:PyData),y=.dat (.str z)/\dF kvs z=some q/\Q (.dat q) m1
theorem y9{x:Str}{c:Addr}{kvs:List (Str×PyData)}(hg:Gl X x)(hm:X.mg x=some (.ref c))(hk:KD X.K X.w c kvs)(hi:PE X i (LE X.K fi))(hd:(x==("__debug__" : Str))=false:=by decide)(hs:iG i:=by exact fun _ _=>rfl) :
  PE X (.Subscript (.Name x p) i pos) (LE X.K (kX kvs fi)):=by
 intro pins s σ H Q I h;obtain⟨Z,d,m,R,ok,rs,h,k⟩:=h;obtain⟨vs,kd,rk⟩:=hk;refine Cu PySem.F.slot_dict_getitem.lookup hs (aM (yS (v:=.ref c) hg hm rfl hd pins s σ H (fun x H1=>x=.ref c/\H1=H) I ⟨rfl,rfl⟩) fun u s1 ⟨x,H1,I1,rx,ex,eH⟩=>?_);subst ex;subst eH;obtain rfl:u=Value.ref c:=rx;refine aM (hi pins s1 σ _ (fun v H2=>∃ (z:Str) (w:V),v=.str z/\bV vs z=some w/\Q w H2) I1 ⟨Z,d,m,_,ok,rs,h,fun y m1 v H1 ⟨z,q,ey,hv,hq⟩ e1 ok1 r1=>?_⟩) fun iv s2 ⟨y,H2,I2,ry,z,w,ey,hw,q2⟩=>?_
 ·subst ey
  cases r1.str
  obtain⟨w,hw,rw'⟩:=(rk Z m1 H1).val hv;exact⟨z,w,rfl,hw,k _ m1 _ H1 hq e1 ok1 rw'⟩
 ·subst ey;obtain⟨ws,rel,dd⟩:=kd.dictOf (P:=X.prog) I2.kIn;obtain⟨w',hw',rw'⟩:=RelO.some_of (v:=w) (o:=valueAt ws (.inr z)) (by rw[<- hw,<- Pa];exact rel.val _)
  exact⟨dd.typeIs,wpAny_getItem_of (qC (k:=.inr z) ry) dd.mapOf hw' ⟨w,H2,I2.tok _,rw',q2⟩⟩
end
end DL
namespace DL
open PySem PySem.Spec PyProof.Rows L2
theorem uC:plainId "dict.update.loop"=true:=by decide +kernel
theorem Mj:entryFor table "dict.update.loop"=some Builtin.«dict.update.loop»:=entryFor_of_fast (by kernel_rfl)
section
variable {prog:Program}{w:World}{κ:Type}[DecidableEq κ]{knd:KeyKind prog w κ}{A:Around}{E:Value->Shared->Prop}{s:Shared}
def uD(knd:KeyKind prog w κ)(h:Heap):List Value->List (κ×Value)->Prop
 | [],[]=>True
 | x::xs,(k,v)::r=>(∃ b key,x=.ref b/\h.IsTuple b #[key,v]/\knd.is k key=true)/\uD knd h xs r
 | _,_=>False
def tK(acc:List (κ×Value))(r:List (κ×Value)):List (κ×Value):=r.foldl (fun acc kv=>stored acc kv.1 kv.2) acc
theorem L5(acc:List (κ×Value))(k:κ)(v:Value):(stored acc k v).length<=acc.length+1:=by
 unfold stored
 split
 ·simp
 ·simp
end
end DL
namespace DL
open PySem PySem.Spec PyProof.Rows L2
@[simp] def sC:List D->Option (List aH)
 | []=>some []
 | x::xs=>match jR x,sC xs with
  | some k,some ks=>some (k::ks)
  | _,_=>none
theorem RDs.keys{K:PySem.W.Frag}{Z:Addr->Prop}{m:Mu}{H:Hp}:∀ {xs:List D} {vs:List V} {ks:List aH},RDs K Z m H xs vs->sC xs=some ks->vs=ks.map kV
 | [],vs,ks,h,e=>by
  cases e
  exact h
 | x::xs,vs,ks,h,e=>by
  obtain⟨v,r,rfl,h1,h2⟩:=h;unfold sC at e
  cases e1:jR x with
  | none=>rw[e1]at e;cases e
  | some k =>
   cases e2:sC xs with
   | none=>rw[e1,e2]at e;cases e
   | some ks' =>
    rw[e1,e2]at e
    cases e
    rw[h1.key e1,RDs.keys h2 e2];rfl
section
variable {X:Cx}{o i e:Expr}{es:List Expr}{fo f:DE}{fa:DA}{pos tpos ipos:Pos}{j:Nat}
@[simp] def Dn:DE:=fun _ m Q=>∀ a,m a=none->Q (.cel a) (aS m a (.t []))
theorem j9:PE X (.Dict [] [] pos) (LE X.K Dn):=by
 intro pins s σ H Q I h;obtain⟨Z,d,m,R,ok,rs,h,k⟩:=h;have hp:H s.heap.objs.size=none:=I.hok.fresh (Nat.le_refl _)
 have hk:X.K.lookup s.heap.objs.size=none:=by
  cases e:X.K.lookup s.heap.objs.size with
  | none=>rfl
  | some o=>exact absurd (Heap.lt_size (I.kIn _ o e)) (Nat.lt_irrefl _)
 refine wpAny_Dict_empty ⟨.ref s.heap.objs.size,_,I.laid (a:=s.heap.objs.size) (o:=.dT []) (t':=s.toks) (fun _ _ q=>Heap.get?_push_of_some _ q) (Nat.le_refl _) (Qr s.heap I.big),rfl,?_⟩;exact k _ _ _ _ (h _ (dJ ok hp).1) (Ext.cell ok hp hk) (ok.cell hp hk (show RKV _ _ _ _ _ _ from rfl)) ⟨rfl,by rw[aZ];rfl⟩
@[simp] def Fw(fo:DE)(fa:DA)(f:DE):DS:=fun E d m=>f d m fun x m1=>fo d m1 fun o m2=>fa d m2 fun ys m3=>∃ c ks kvs p,o=.cel c/\sC ys=some ks/\x=.dat p/\m3 c=some (.t kvs)/\kvs.length<sizeLine/\ks.length<=sizeLine/\E.nx d (aS m3 c (.t (fN kvs ks p)))
theorem Rc(hu:X.A.units+100<cLine)(he:PE X e (LE X.K f))(ho:PE X o (LE X.K fo))(ha:PA X es (LA X.K fa))(hs:swapsWith e (some (.Subscript o (.Tuple es j ipos) tpos)) pos.line X.env=pure false:=by rfl) :
  PS X (.Assign [.Subscript o (.Tuple es j ipos) tpos] e pos) (LS X.K (Fw fo fa f)):=PS.imp (Oy (by omega) ho (Ic ha) he hs) fun E s H h=>by
 obtain⟨Z,d,m,R,ok,rs,h,k,_⟩:=h;refine⟨Z,d,m,_,ok,rs,h,fun x m1 v H1 q e1 ok1 r1=>⟨Z,d,m1,_,ok1,rs.ext e1,q,fun o m2 w H2 q2 e2 ok2 r2=>⟨Z,d,m2,_,ok2,(rs.ext e1).ext e2,q2,fun ys m3 zs H3 q3 e3 ok3 r3=>?_⟩⟩⟩;obtain⟨c,ks,kvs,p,rfl,hk,rfl,hm,hl,hz,q⟩:=q3
 cases r3.keys hk
 refine⟨by simpa using hz,fun b hb=>?_⟩
 have sm:Same H3 (aI H3 b (.tup (ks.map kV))):=bX hb
 have e4:=ok3.ext sm
 have ok4:=ok3.grow sm
 obtain⟨rfl,_⟩:=r2.ext e3;obtain⟨vs,g1,g2⟩:=ok4.t hm;have r1':=r1.ext (e2.trans (e3.trans e4))
 refine⟨c,_,rfl,.inr ⟨vs,ks,b,g1,rfl,bQ,by rw[g2.length];exact hl,rfl⟩,?_⟩
 have e5:Ext X.K Z m3 (aI H3 b (.tup (ks.map kV))) (aS m3 c (.t (fN kvs ks p))) (aI (aI H3 b (.tup (ks.map kV))) c (.dT (bP vs ks v))):=Ext.put ok4 hm g1
 exact k d _ s _ q (e1.trans (e2.trans (e3.trans (e4.trans e5)))) (ok4.put hm g1 (show RKV _ _ _ _ _ _ from g2.put r1')) ((rs.ext e1).ext (e2.trans (e3.trans (e4.trans e5))))
end
end DL
namespace DL
open PySem PySem.Spec PyProof.Rows L2
def qT:aH->PyData
 | .inl i=>.int i
 | .inr z=>.str z
theorem Gs{X:Cx}{pins:List (Addr×Obj)}{σ:L2.St}{H:Hp}{s:Shared}{Z:Addr->Prop}{m:Mu}(I:Inv X pins σ H s):∀ {kvs:List (aH×PyData)} {vs:List V} {us:List Value},RPs X.K Z m H (kvs.map fun kv=>PyData.tuple [qT kv.1,kv.2]) vs->Vals vs us ->
  ∃ ws:List (aH×V),∃ xs:List (aH×Value),RKV X.K Z m H kvs ws/\KV ws xs/\uD (bD X.prog X.w) s.heap us xs/\xs.length=kvs.length
 | [],vs,us,h,r=>by
  simp only[List.map_nil,RPs]at h;subst h
  cases r
  exact⟨[],[],rfl,.nil,trivial,rfl⟩
 | (k,p)::kvs,vs,us,h,r=>by
  simp only[List.map_cons,RPs]at h;obtain⟨v,vs',rfl,h1,h2⟩:=h
  cases r with
  | cons r1 r2 =>
   obtain⟨ws,xs,q1,q2,q3,q4⟩:=Gs I h2 r2;simp only[RP]at h1;obtain⟨a,ps,rfl,hs,hp⟩:=h1;obtain⟨its,rv,it,_⟩:=I.tuple hs;simp only[RPs]at hp;obtain⟨v1,r',rfl,g1,v2,r'',rfl,g2,rfl⟩:=hp
   cases rv with
   | cons w1 rv =>
    cases rv with
    | cons w2 rv =>
     cases rv
     have ev:v1=kV k:=by
      cases k with
      | inl i =>
       simp only[qT,RP]at g1;exact g1
      | inr z =>
       simp only[qT,RP]at g1;exact g1
     subst ev;refine⟨(k,v2)::ws,(k,_)::xs,⟨_,_,rfl,g2,q1⟩,.cons ⟨rfl,w2⟩ q2,⟨⟨a,_,r1,it,qC w1⟩,q3⟩,by simp[q4]⟩
def eZ(acc:List (aH×PyData))(r:List (aH×PyData)):List (aH×PyData):=r.foldl (fun acc kv=>fN acc kv.1 kv.2) acc
def pB(acc:List (aH×V))(r:List (aH×V)):List (aH×V):=r.foldl (fun acc kv=>bP acc kv.1 kv.2) acc
theorem RKV.puts{K:PySem.W.Frag}{Z:Addr->Prop}{m:Mu}{H:Hp}:∀ {r:List (aH×PyData)} {ws:List (aH×V)} {acc:List (aH×PyData)} {aw:List (aH×V)},RKV K Z m H acc aw->RKV K Z m H r ws->RKV K Z m H (eZ acc r) (pB aw ws)
 | [],ws,acc,aw,ha,hr=>by
  cases (show ws=[] from hr)
  exact ha
 | (k,p)::r,vs,acc,aw,ha,h=>by
  obtain⟨v,ws,rfl,h1,h2⟩:=h;exact RKV.puts (r:=r) (ws:=ws) (acc:=fN acc k p) (aw:=bP aw k v) (ha.put h1) h2
theorem KV.puts{ws:List (aH×V)}{xs:List (aH×Value)}(t:KV ws xs):∀ {aw:List (aH×V)} {ax:List (aH×Value)},KV aw ax->KV (pB aw ws) (tK ax xs):=by
 unfold KV at t
 induction t with
 | nil=>exact fun ha=>ha
 | @cons p q ps qs h t ih =>
  intro aw ax ha;obtain⟨e,h⟩:=h;have:=ih (KV.put ha p.1 h)
  show KV (pB (bP aw p.1 p.2) ps) (tK (stored ax q.1 q.2) qs)
  rw[<- e];exact this
theorem Nz:∀ (r acc:List (aH×PyData)),(eZ acc r).length<=acc.length+r.length
 | [],acc=>by simp[eZ]
 | kv::r,acc=>by
  have:=Nz r (fN acc kv.1 kv.2)
  have h2:(fN acc kv.1 kv.2).length<=acc.length+1:=by
   unfold fN
   split
   ·rw[List.length_map];omega
   ·simp
  unfold eZ at *;simp only[List.foldl_cons,List.length_cons];omega
end DL
namespace DL
open PySem PySem.Spec PyProof.Rows L2
def KTEnt(K:PySem.W.Frag)(w:World):List DictEntry->List (List Str×Addr×V)->Prop
 | [],[]=>True
 | e::es,(zs,a,v)::xs=>e.hash=reduceHash (Builtin.Tuple.tupleHashOf (zs.map (PyData.keyHash w.params)))/\e.key=.ref a/\RelV v e.val/\KT K a zs/\KTEnt K w es xs
 | _,_=>False
def KTDt(K:PySem.W.Frag)(w:World)(c:Addr)(xs:List (List Str×Addr×V)):Prop :=
 ∃ (o:Obj) (es:Array DictEntry) (ep:Nat),K.lookup c=some o/\o.cls=.type "dict"/\o.dict=none/\o.slots=#[]/\o.data=.dict es ep/\KTEnt K w es.toList xs/\(xs.map (·.1)).Nodup/\(c==sysModules)=false
def uS(K:PySem.W.Frag)(w:World)(c:Addr)(kvs:List (List Str×PyData)):Prop:=∃ xs:List (List Str×Addr×V),KTDt K w c xs/\∀ (Z:Addr->Prop) (m:Mu) (H:Hp),RKV K Z m H kvs (xs.map fun x=>(x.1,x.2.2))
theorem Y8(zs:List Str):(zs.map (Sum.inr:Str->aH)).map kV=zs.map V.str:=by
 rw[List.map_map];rfl
section
variable {X:Cx}{pins:List (Addr×Obj)}{σ:L2.St}{H:Hp}{s:Shared}
theorem My{a:Addr}{zs:List Str}(I:Inv X pins σ H s)(h:SqT X.K H a (zs.map V.str)):(tupleKind (bD X.prog X.w)).is s.heap (zs.map Sum.inr) a:=by
 obtain⟨its,r,⟨o,h1,h2,n,h3⟩,_⟩:=I.tuple h;rw[<- Y8]at r;exact⟨o,its.toArray,n,h1,h2,h3,by simpa using uG r⟩
theorem KTEnt.out(I:Inv X pins σ H s):∀ {es:List DictEntry} {xs:List (List Str×Addr×V)},KTEnt X.K X.w es xs->∃ ys:List (List aH×Addr×Value),es=ys.map (entryOfKey (tupleKind (bD X.prog X.w)))/\(∀ y∈ys,(tupleKind (bD X.prog X.w)).is s.heap y.1 y.2.1)/\ys.map (·.1)=xs.map (fun x=>x.1.map Sum.inr) /\
  ∀ zs:List Str,RelO (bV (xs.map fun x=>(x.1,x.2.2)) zs) ((atKey ys (zs.map Sum.inr)).map (·.2))
 | [],[],_=>⟨[],rfl,by simp,rfl,fun _=>True.intro⟩
 | e::es,(zs,a,v)::xs,⟨h1,h2,h3,h4,h5⟩=>by
  obtain⟨ys,q1,q2,q3,q4⟩:=KTEnt.out I h5;refine⟨(zs.map Sum.inr,a,e.val)::ys,?_,fun y hy=>?_,by simp[q3],fun z=>?_⟩
  ·rw[List.map_cons,<- q1]
   congr 1
   obtain⟨eh,ek,ev⟩:=e;simp only at h1 h2;subst h1 h2;unfold entryOfKey
   congr 1
   show _=reduceHash (Builtin.Tuple.tupleHashOf ((zs.map Sum.inr).map (bD X.prog X.w).hash))
   rw[List.map_map];rfl
  ·rcases List.mem_cons.mp hy with rfl | hy
   ·exact My I h4.sq
   ·exact q2 y hy
  ·by_cases c:zs=z
   ·subst c;unfold bV atKey;simp only[List.map_cons,List.find?_cons,decide_true,Option.map_some];exact h3
   ·have c':¬ zs.map (Sum.inr:Str->aH)=z.map Sum.inr:=fun h=>c ((List.map_inj_right (fun _ _ q=>Sum.inr.inj q)).mp h)
    have:=q4 z
    unfold bV atKey at this ⊢;simp only[List.map_cons,List.find?_cons,decide_eq_false c,decide_eq_false c'];exact this
 | [],_::_,h=>h.elim
 | _::_,[],h=>h.elim
theorem KTDt.out{c:Addr}{xs:List (List Str×Addr×V)}(I:Inv X pins σ H s)(q:KTDt X.K X.w c xs):(c==sysModules)=false/\∃ ys:List (List aH×Addr×Value),s.heap.DictOfH (tupleKind (bD X.prog X.w)) c ys /\
  ∀ zs:List Str,RelO (bV (xs.map fun x=>(x.1,x.2.2)) zs) ((atKey ys (zs.map Sum.inr)).map (·.2)):=by
 obtain⟨o,es,ep,h1,h2,h3,h4,h5,h6,h7,h8⟩:=q;obtain⟨ys,q1,q2,q3,q4⟩:=KTEnt.out I h6;refine⟨h8,ys,⟨o,es,ep,I.kIn _ _ h1,⟨h2,h3,h4⟩,h5,q1,q2,?_⟩,q4⟩;rw[q3];have e:xs.map (fun x=>x.1.map (Sum.inr:Str->aH))=(xs.map (·.1)).map (fun z=>z.map Sum.inr):=by simp
 rw[e];exact List.Pairwise.map _ (fun a b hab h=>hab ((List.map_inj_right (fun _ _ q=>Sum.inr.inj q)).mp h)) h7
end
theorem KT.rp{K:PySem.W.Frag}{a:Addr}{zs:List Str}{Z:Addr->Prop}{m:Mu}{H:Hp}(h:KT K a zs):RP K Z m H (.tuple (zs.map PyData.str)) (.ref a):=by
 simp only[RP];exact⟨a,_,rfl,h.sq,rK zs⟩
section
variable {X:Cx}{e g:Expr}{fi fg:DE}{p apos cpos:Pos}
@[simp] def vQ(kvs:List (List Str×PyData))(fi fg:DE):DE:=fun d m Q=>fi d m fun y m1=>∃ zs:List Str,y=.dat (.tuple (zs.map .str))/\fg d m1 fun x m2=>Q (match dF kvs zs with | some q=>.dat q | none=>x) m2
theorem AG{x:Str}{c:Addr}{kvs:List (List Str×PyData)}(hu:X.A.units+100<cLine)(hg:Gl X x)(hm:X.mg x=some (.ref c))(hk:uS X.K X.w c kvs)(he:PE X e (LE X.K fi))(hf:PE X g (LE X.K fg))(hd:(x==("__debug__" : Str))=false:=by decide)
  (hbase:attributeBase (.Name x p) "get" X.env (eval (.Name x p) X.env)=eval (.Name x p) X.env:=by rfl)
  (hfew:((backTo cpos (starEach [e,g] X.env)).all (fun x=>!x.1)&&(backToKw cpos (keywordEach [] X.env)).all (fun x=>x.1.isSome)&&decide (([e,g]:List Expr).length+([]:List Keyword).length+(if ([]:List Keyword).isEmpty then 0 else 1)<30))=true:=by rfl)
  (hline:(apos.endLine==cpos.line)=true:=by rfl) (hs:backTo cpos (starEach [e,g] X.env)=[(false,eval e X.env),(false,eval g X.env)]:=by rfl) :
  PE X (.Call (.Attribute (.Name x p) "get" apos) [e,g] [] cpos) (LE X.K (vQ kvs fi fg)):=by
 intro pins s σ H Q I h;obtain⟨Z,d,m,R,ok,rs,h,k⟩:=h;obtain⟨xs,kd,rk⟩:=hk;refine wpAny_Call_method hbase hfew hline PySem.F.plainAttrs_dict PySem.F.slot_dict_get PySem.F.type_dict_get (aM (yS (v:=.ref c) hg hm rfl hd pins s σ H (fun x H1=>x=.ref c/\H1=H) I ⟨rfl,rfl⟩) fun u s1 ⟨x,H1,I1,rx,ex,eH⟩=>?_);subst ex;subst eH;obtain rfl:u=Value.ref c:=rx;obtain⟨_,ws1,dd1,_⟩:=kd.out I1;refine⟨dd1.typeIs,fun b q=>?_,?_⟩
 ·cases q
  obtain⟨ob,_,_,h1,h2,_⟩:=dd1;exact⟨ob,h1,h2.2.1⟩
 rw[hs];refine Calls.callWith_builtin rfl (Calls.evalArgs_plain (Calls.spliced_cons (aM (he pins s1 σ _ (fun v H2=>∃ (zs:List Str) (b:Addr),v=.ref b/\LE X.K fg σ H2 fun v2 H3=>SqT X.K H3 b (zs.map V.str)/\Q ((bV (xs.map fun x=>(x.1,x.2.2)) zs).getD v2) H3) I1 ⟨Z,d,m,_,ok,rs,h,fun y m1 v H1 ⟨zs,ey,hq⟩ e1 ok1 r1=>?_⟩) fun iv s2 ⟨y,H2,I2,ry,zs,b,ey,q2⟩ =>
  Calls.spliced_cons (aM (hf pins s2 σ H2 _ I2 q2) fun fv s3 ⟨v2,H3,I3,rz,sq,q3⟩=>Calls.spliced_nil ?_))))
 ·subst ey;have r1':=r1
  simp only[RD,RP]at r1';obtain⟨b,vs,rfl,_,_⟩:=r1';refine⟨zs,b,rfl,Z,d,m1,_,ok1,rs.ext e1,hq,fun x m2 v2 H2 hq2 e2 ok2 r2=>⟨?_,?_⟩⟩
  ·have r3:=r1.ext e2
   simp only[RD,RP]at r3;obtain⟨b',vs',e',h1,h2⟩:=r3
   cases e'
   cases nZ h2
   exact h1
  ·cases hv:dF kvs zs with
   | none =>
    rw[hv]at hq2;rw[(rk Z m2 H2).val_none hv];exact k _ m2 _ H2 hq2 (e1.trans e2) ok2 r2
   | some q =>
    rw[hv]at hq2;obtain⟨w,hw,rw'⟩:=(rk Z m2 H2).val hv;rw[hw];exact k _ m2 _ H2 hq2 (e1.trans e2) ok2 rw'
 ·subst ey
  cases (show iv=Value.ref b from ry)
  obtain⟨sy,ys,dd,rel⟩:=kd.out I3;exact call_meetsIn PySem.F.slot_dict_get dd.typeIs PySem.F.entry_dict_get (PySem.F.args_dict_get_3 _ _ _) (meetsH_dict_get_default (tupleKind (bD X.prog X.w)) c b sy fv) ⟨tupleKind_room_in1 (by omega),zs.map Sum.inr,ys,My I3 sq,dd,⟨_,H3,I3.tok _,(rel zs).getD rz,q3⟩⟩
end
end DL
namespace DL
open PySem PySem.Spec PyProof.Rows L2
section
variable {X:Cx}{a:Expr}{f:DE}{pos p2:Pos}
theorem Jk{v:Value}{lo:Option Int}(h:IsPart v lo):∃ l:Option (Int×Tok),v=partValue l/\lo=l.map (·.1):=by
 cases h with
 | none=>exact⟨none,rfl,rfl⟩
 | int i t=>exact⟨some (i,t),rfl,rfl⟩
theorem U7(z:Str)(lo hi:Option Int):(Txt.slice z lo hi).length<=z.length:=by
 unfold Txt.slice
 split
 ·exact Nat.le_refl _
 ·show((Builtin.Str.strSliceIndices lo hi 1 z.length).filterMap (z.cps[·]?)).toArray.size<=z.length
  rw[List.size_toArray];exact Nat.le_trans (xX _ _) (sliceIndices_le lo hi z.length)
def Zi:V->Option Int->Option Int->Hp->VK->Prop:=fun x lo hi H Q=>∃ z:Str,x=.str z/\z.length<=sizeLine/\Q (.str (Txt.slice z lo hi)) H
theorem AB:SlR X Zi:=by
 intro pins s σ H x v vl vu lo hi sl Q I rx hs pl pu h;obtain⟨z,rfl,hz,q⟩:=h;obtain⟨t,rfl⟩:=rx;obtain⟨l,rfl,rfl⟩:=Jk pl;obtain⟨u,rfl,rfl⟩:=Jk pu;refine⟨"str",_,PySem.F.slot_str_getitem.lookup,typeIs_str s z t,?_⟩;refine wpAny_getItem_str_slice (l:=l) (u:=u) (st:=none) hs rfl ?_;have hl:=U7 z (l.map (·.1)) (u.map (·.1))
 unfold Txt.slice at q hl;unfold sliceMade
 split
 ·rename_i c;have c2:((1:Int)==1&&(Builtin.Str.strSliceIndices (l.map (·.1)) (u.map (·.1)) 1 z.length).length==z.length)=true:=c
  rw[if_pos c2]at q;exact⟨.str z,H,I,⟨_,rfl⟩,q⟩
 ·rename_i c;have c2:¬ ((1:Int)==1&&(Builtin.Str.strSliceIndices (l.map (·.1)) (u.map (·.1)) 1 z.length).length==z.length)=true:=c
  rw[if_neg c2]at q hl;exact⟨Nat.le_trans hl hz,.str _,H,I.tok _,⟨_,rfl⟩,q⟩
end
end DL
namespace DL
open PySem PySem.Spec PyProof.Rows L2
def Itl(K:PySem.W.Frag)(t1 t2:Addr)(n:Nat):It :=
 ⟨fun i H=>i<n/\∃ xs ys,SqL K H t1 xs/\SqT K H t2 ys/\n=min xs.length ys.length,fun i H v H'=>∃ p x y,v=.ref p/\H p=none/\H'=aI H p (.tup [x,y])/\∀ xs ys,SqL K H t1 xs->SqT K H t2 ys->xs[i]?=some x/\ys[i]?=some y,
  fun i H=>i=n/\∃ xs ys,SqL K H t1 xs/\SqT K H t2 ys/\n=min xs.length ys.length⟩
end DL
namespace DL
open PySem PySem.Spec PyProof.Rows L2
section
variable {K:PySem.W.Frag}{Z:Addr->Prop}{m m':Mu}{H:Hp}
def bY(m:Mu)(a:Addr):Mu:=fun b=>if b=a then none else m b
theorem oD{a b:Addr}(h:m b=none):bY m a b=none:=by unfold bY;split<;>first | rfl | exact h
end
section
variable {X:Cx}{a:Expr}{f:DE}{pos p2:Pos}
@[simp] def Du(f:DE)(lo hi:DO):DE:=fun d m Q=>f d m fun x m1=>lo d m1 fun l m2=>hi d m2 fun u m3 =>
 (∃ xs,x=.dat (.tuple xs)/\Q (.dat (.tuple (cM xs l u))) m3)\/(∃ xs,x=.dat (.list xs)/\Q (.dat (.list (cM xs l u))) m3)\/(∃ z:Str,x=.dat (.str z)/\z.length<=sizeLine/\Q (.dat (.str (Txt.slice z l u))) m3) \/
 (∃ c xs,x=.cel c/\m3 c=some (.l xs)/\Q (.dat (.list (cM xs l u))) m3)
theorem Qx{lo hi:Option Expr}{tl th:DO}(ha:PE X a (LE X.K f))(hl:PO X lo (LO X.K tl))(hu:PO X hi (LO X.K th)):PE X (.Subscript a (.Slice lo hi none p2) pos) (LE X.K (Du f tl th)) :=
 PE.imp (Ln (Kc.or (Kr.or (Nd.or AB))) ha hl hu) fun s H Q h=>by
  obtain⟨Z,d,m,R,ok,rs,h,k⟩:=h;refine⟨Z,d,m,_,ok,rs,h,fun x m1 v H1 q e1 ok1 rx=>⟨Z,d,m1,_,ok1,rs.ext e1,q,fun l m2 H2 q2 e2 ok2=>⟨Z,d,m2,_,ok2,(rs.ext e1).ext e2,q2,fun u m3 H3 q3 e3 ok3=>?_⟩⟩⟩;have e13:=e1.trans (e2.trans e3)
  have rx3:=rx.ext (e2.trans e3)
  rcases q3 with⟨xs,rfl,q4⟩ | ⟨xs,rfl,q4⟩ | ⟨z,rfl,hz,q4⟩ | ⟨c,xs,rfl,hm,q4⟩
  ·simp only[RD,RP]at rx3;obtain⟨a,vs,rfl,h1,h2⟩:=rx3
   by_cases hw:HT.sIx vs.length 0 l=0/\HT.sIx vs.length vs.length u=vs.length
   ·refine .inr (.inl ⟨a,vs,rfl,h1,hw,k _ m3 _ H3 q4 e13 ok3 ?_⟩);rw[h2.length]at hw;rw[Ii xs hw];simp only[RD,RP];exact⟨a,vs,rfl,h1,h2⟩
   ·refine .inl ⟨a,vs,rfl,h1,hw,fun p hp=>?_⟩;have sm:Same H3 (aI H3 p (.tup (fH vs l u))):=bX hp
    refine k _ m3 _ _ q4 (e13.trans (ok3.ext sm)) (ok3.grow sm) ?_;simp only[RD,RP];exact⟨p,_,rfl,.inl (.inl bQ),RPs.ext (ok3.ext sm) _ _ h2.cut⟩
  ·simp only[RD,RP]at rx3;obtain⟨a,vs,rfl,h0,h1,h2⟩:=rx3;refine .inr (.inr (.inl ⟨a,vs,rfl,h1,fun p hp=>?_⟩));have sm:Same H3 (aI H3 p (.lst (fH vs l u))):=bX hp
   refine k _ m3 _ _ q4 (e13.trans (ok3.ext sm)) (ok3.grow sm) ?_;simp only[RD,RP];exact⟨p,_,rfl,dJ ok3 hp,.inl (.inl bQ),RPs.ext (ok3.ext sm) _ _ h2.cut⟩
  ·cases rx3.str
   exact .inr (.inr (.inr ⟨z,rfl,hz,k _ m3 _ H3 q4 e13 ok3 .ofStr⟩))
  ·obtain⟨rfl,_⟩:=rx3;obtain⟨vs,h1,h2⟩:=ok3.l hm;refine .inr (.inr (.inl ⟨c,vs,rfl,.inl (.inl h1),fun p hp=>?_⟩));have sm:Same H3 (aI H3 p (.lst (fH vs l u))):=bX hp
   refine k _ m3 _ _ q4 (e13.trans (ok3.ext sm)) (ok3.grow sm) ?_;simp only[RD,RP];exact⟨p,_,rfl,dJ ok3 hp,.inl (.inl bQ),RPs.ext (ok3.ext sm) _ _ h2.cut⟩
end
end DL
namespace DL
open PySem PySem.Spec PyProof.Rows L2
theorem AD:typeLookup (.type "list") "keys"=pure none:=by rw[typeLookup_type,builtinLookup_eq_fast];kernel_rfl
section
variable {prog:Program}{w:World}{A:Around}{E:Value->Shared->Prop}{s:Shared}
theorem u0{a:Addr}{o:Obj}{xs:Array Value}{k:Nat}{Q:Option Value->Shared->Prop}
  (hx:s.heap.get? a=some o) (hc:o.cls=.type "list") (hdat:o.data=.seq xs k) (hd:o.dict=none) (hA:A.handled=none)
  (h:∀ h' tk,(∀ b ob,s.heap.get? b=some ob->h'.get? b=some ob)->Q none {s with heap:=h',toks:=tk}) :
  wpAny (model prog w) A (getAttr? (.ref a) "keys") Q E s:=by
 obtain⟨c,dct,dat,sl⟩:=o;simp only at hc hdat hd;subst hc hdat hd;obtain⟨hp,g,d,tk,os⟩:=s;have hT:∀ tk',(⟨hp,g,d,tk',os⟩:Shared).TypeIs (.ref a) "list":=fun _=>⟨_,hx,rfl⟩
 have f1:=sub_AttributeError
 have f3:=F.slot_list_getattribute.lookup
 have f4:=F.slot_list_getattribute.bind (.ref a)
 have f5:=am_list_getattr_none
 have hsz:(Str.ofString "keys").length+100<=sizeLine:=by rw[sizeLine_eq];decide
 have hname:(["__module__","__name__","__qualname__","__doc__","__annotations__"]:List Str).contains (Str.ofString "keys")=false:=by decide
 unfold getAttr? getAttrBy? getAttrBy
 repeat (any_goals (first | assumption | exact hT _ | ((with_reducible show wpAny _ _ (call (Value.builtin "list.__getattribute__") _ _) _ _ _);refine call_meets F.slot_list_getattribute (hT _) am_entry_list_getattribute (F.args_list_getattribute_2 _ _) (meets_getattribute_miss_list a xs k sl (Str.ofString "keys") _ AD hname hsz) ⟨hx,hA,fun h' tk' e hx'=>?_⟩) | wp_step))
 obtain⟨t',u',he⟩:=hx'.there;show wpAny _ _ (getattributeRaised _ _ _ _ _ _ _) _ _ _
 unfold getattributeRaised
 repeat (any_goals (first | assumption | wp_step))
 exact h h' tk' hx'.keeps
end
section
variable {prog:Program}{w:World}{κ:Type}[DecidableEq κ]{knd:KeyKind prog w κ}{A:Around}{E:Value->Shared->Prop}{s:Shared}
theorem He{R:Result->Shared->Prop}{hb:Heap}{d it tq:Addr}{items:Array Value}(hh:A.handled=none)(hd:hb.get? d=none)(hi:hb.get? it=none)(hne:d≠it)(ht:hb.IsList tq items) :
  ∀ (rest:List (κ×Value)) (i:Nat) (s:Shared) (acc:List (κ×Value)) (tk0:Tok),(∀ b o,hb.get? b=some o->s.heap.get? b=some o)->s.heap.IsListIter it tq i->s.heap.DictOf knd d acc->uD knd hb (items.toList.drop i) rest->acc.length+rest.length<=sizeLine ->
  (∀ h' tk,(∀ b o,hb.get? b=some o->h'.get? b=some o)->h'.DictOf knd d (tK acc rest)->R (.ok (.ret .none)) {s with heap:=h',toks:=tk}) ->
  codeAny (model prog w) A (.builtin "dict.update.loop" ⟨[.ref d,.ref it,.int i tk0,.none],[]⟩) R s
 | [],i,s,acc,tk0,keeps,hit,hdo,hp,hsz,hR=>by
  have hx:items[i]?=none:=by
   cases e:items.toList.drop i with
   | nil =>
    have:=List.drop_eq_nil_iff.mp e
    rw[Array.getElem?_eq_none_iff];simpa using this
   | cons x xs=>rw[e]at hp;exact hp.elim
  have ht':s.heap.IsList tq items:=by
   obtain⟨o,ho,r⟩:=ht;exact⟨o,keeps _ _ ho,r⟩
  refine codeAny_builtin Mj ?_;rw[Around.under_plainId uC _];show wpAny _ A.in1 (pyNext (.ref it)>>=_) _ _ s
  refine wpAny_bind (wpAny_pyNext_list_end hh hit ht' hx fun h' hs=>?_);show wpAny _ A.in1 (Builtin.Dict.addKeywords d []>>=_) _ _ _
  refine wpAny_bind (wpAny_pure (wpAny_pure ?_));refine hR h' s.toks (fun b o e=>hs b o (fun q=>by rw[q,hi]at e;cases e) (keeps b o e)) (hdo.extBut hs hne)
 | (k,v)::rest,i,s,acc,tk0,keeps,hit,hdo,hp,hsz,hR=>by
  cases e:items.toList.drop i with
  | nil=>rw[e]at hp;exact hp.elim
  | cons x xs =>
   rw[e]at hp;obtain⟨⟨b,key,rfl,hb2,hk⟩,hp2⟩:=hp;have hx:items[i]?=some (.ref b):=by
    have:=congrArg List.head? e
    rw[List.head?_drop]at this;simpa using this
   have e2:items.toList.drop (i+1)=xs:=by
    have:=congrArg List.tail e
    rw[List.tail_drop]at this;simpa using this
   have ht':s.heap.IsList tq items:=by
    obtain⟨o,ho,r⟩:=ht;exact⟨o,keeps _ _ ho,r⟩
   refine codeAny_builtin Mj ?_;rw[Around.under_plainId uC _];show wpAny _ A.in1 (pyNext (.ref it)>>=_) _ _ s
   refine wpAny_bind (wpAny_pyNext_list_item hit ht' hx fun h1 hit1 hs1=>?_);have k1:∀ b o,hb.get? b=some o->h1.get? b=some o:=fun b o e=>hs1.extBut b o (fun q=>by rw[q,hi]at e;cases e) (keeps b o e)
   have ht1:({s with heap:=h1}:Shared).heap.IsTuple b #[key,v]:=by
    obtain⟨o,ho,r⟩:=hb2;exact⟨o,k1 _ _ ho,r⟩
   have hdo1:({s with heap:=h1}:Shared).heap.DictOf knd d acc:=hdo.sameBut hs1 hne
   obtain⟨o,ho,hoc,no,hod⟩:=id ht1;refine wpAny_bind (wpAny_holding (wpAny_bind (wpAny_tryCatch ?_)));unfold Builtin.Dict.pairItems;refine wpAny_bind (wpAny_typeOf ht1.typeIs ?_);rw[if_pos (by decide)]
   refine wpAny_bind (wpAny_seqItems ho hod (wpAny_pure ?_));show wpAny _ A.in1 (holding [key,v] (dictSet d key v)) _ _ _
   refine wpAny_holding (wpAny_dictSet_pairs (hsz:=by simp at hsz;omega) hk hdo1 fun h2 hdo2 hs2=>?_)
   refine wpAny_pure ⟨plainId_quiet uC _,?_⟩;have ih:=He (R:=R) hh hd hi hne ht rest (i+1) {s with heap:=h2,toks:=s.toks+1} (stored acc k v) 0
    (fun b o e=>hs2.extBut b o (fun q=>by rw[q,hd]at e;cases e) (k1 b o e)) (hit1.extBut hs2.extBut (Ne.symm hne)) hdo2 (by rw[e2];exact hp2)
    (by have:=L5 acc k v;simp at hsz;omega) (fun h' tk q1 q2=>hR h' tk q1 q2)
   exact ih
theorem P6{Q:Value->Shared->Prop}{tq:Addr}{o:Obj}{items:Array Value}{n:Nat}{kvs:List (κ×Value)}(hh:A.handled=none)(ho:s.heap.get? tq=some o)(hc:o.cls=.type "list")(hdn:o.dict=none)(hdat:o.data=.seq items n)
  (hp:uD knd s.heap items.toList kvs) (hsz:kvs.length<=sizeLine)
  (hQ:∀ h' tk,(∀ b o,s.heap.get? b=some o->h'.get? b=some o)->h'.DictOf knd s.heap.objs.size (tK [] kvs)->Q (.ref s.heap.objs.size) {s with heap:=h',toks:=tk}) :
  wpAny (model prog w) A (call (.type "dict") [.ref tq]) Q E s:=by
 refine callType_codes (Q₁:=fun obj s₁=>obj=.ref s.heap.objs.size/\s₁={s with heap:=s.heap.push {cls:=.type "dict",data:=.dict #[]}}) F.kt_called_dict (F.kt_typeCall_dict_1 _) F.entry_dict_init (kt_code_dict_new _ ⟨rfl,rfl⟩) ?_;rintro obj s₁ ⟨rfl,rfl⟩;have hnew:(s.heap.push {cls:=.type "dict",data:=.dict #[]}).DictOf knd s.heap.objs.size []:=Heap.DictOf.new s.heap
 refine⟨hnew.typeIs,F.args_dict_init_2 _ _,?_⟩;unfold Builtin.«dict.__init__»;refine wpAny_bind ?_;unfold Builtin.Dict.selfAndRest;refine wpAny_bind (wpAny_notOrdered_dict hnew.typeIs ?_);show wpAny _ _ (pure (s.heap.objs.size,[Value.ref tq])) _ _ _
 refine wpAny_pure ?_;show wpAny _ _ (Builtin.Dict.updateFrom "dict.__init__" s.heap.objs.size (.ref tq) [] .none) _ _ _
 unfold Builtin.Dict.updateFrom;have ho1:(s.heap.push {cls:=.type "dict",data:=.dict #[]}).get? tq=some o:=Heap.get?_push_of_some _ ho
 refine wpAny_bind (wpAny_typeOf (T:="list") ⟨_,ho1,hc⟩ ?_);rw[if_pos (by decide)]
 refine wpAny_bind (u0 ho1 hc hdat hdn hh fun h1 tk1 k1=>?_);rw[if_pos (show(none:Option Value).isNone=true from rfl)]
 have g0:s.heap.get? s.heap.objs.size=none:=by
  cases e:s.heap.get? s.heap.objs.size with
  | none=>rfl
  | some ob=>exact absurd (Heap.lt_size e) (Nat.lt_irrefl _)
 have g1:s.heap.get? h1.objs.size=none:=by
  cases e:s.heap.get? h1.objs.size with
  | none=>rfl
  | some ob=>exact absurd (Heap.lt_size (k1 _ _ (Heap.get?_push_of_some _ e))) (Nat.lt_irrefl _)
 have hd1:h1.DictOf knd s.heap.objs.size []:=by
  obtain⟨ob,es,ep,q,r⟩:=hnew;exact⟨ob,es,ep,k1 _ _ q,r⟩
 have hne:s.heap.objs.size≠h1.objs.size:=by
  obtain⟨ob,es,ep,q,r⟩:=hd1;exact Nat.ne_of_lt (Heap.lt_size q)
 have ht:s.heap.IsList tq items:=⟨o,ho,hc,n,hdat⟩
 refine wpAny_bind (wpAny_rule (wpAny_bind (wpAny_pyIter_list (l:=tq) (items:=items) ⟨o,k1 _ _ ho1,hc,n,hdat⟩ ?_)));refine wpAny_pure ⟨plainId_quiet uC _,?_⟩;refine He (A:=A.in1) (knd:=knd) (hb:=s.heap) (show A.in1.handled=none from hh) g0 g1 hne ht kvs 0 {s with heap:=h1.push {cls:=.type "list_iterator",data:=.fields #[.ref tq,.int 0 0]},toks:=tk1} [] 0 (fun b ob e=>Heap.get?_push_of_some _ (k1 _ _ (Heap.get?_push_of_some _ e))) ⟨_,Heap.get?_push_size _ rfl,rfl,rfl⟩ (hd1.push _) (by simpa using hp) (by simpa using hsz) fun h' tk q1 q2=>?_
 exact⟨rfl,hQ h' tk q1 q2⟩
end
section
variable {X:Cx}{e:Expr}{f:DE}{pos p:Pos}
@[simp] def xV(f:DE):DE:=fun d m Q=>f d m fun x m1=>∃ kvs:List (aH×PyData),x=.dat (.list (kvs.map fun kv=>.tuple [qT kv.1,kv.2]))/\kvs.length<=sizeLine/\∀ a,m1 a=none->Q (.cel a) (aS m1 a (.d (eZ [] kvs)))
theorem BB(hc:X.calm=true)(hg:Gl X "dict")(hm:X.mg "dict"=none)(he:PE X e (LE X.K f))(hs:starEach [e] X.env=[(false,eval e X.env)]:=by rfl):PE X (.Call (.Name "dict" p) [e] [] pos) (LE X.K (xV f)):=by
 intro pins s σ H Q I h;obtain⟨Z,d,m,R,ok,rs,h,k⟩:=h;have hA:=kH (X:=X) he lP (by rw[hs];rfl) pos pins s σ H (fun vs H1=>∃ (v:V) (kvs:List (aH×PyData)) (m1:Mu),vs=[v]/\RD X.K Z m1 H1 (.dat (.list (kvs.map fun kv=>.tuple [qT kv.1,kv.2]))) v/\kvs.length<=sizeLine/\(∀ a,m1 a=none->R (.cel a) (aS m1 a (.d (eZ [] kvs))))/\Ext X.K Z m H m1 H1/\Ok X.K Z m1 H1) I ⟨Z,d,m,_,ok,rs,h,fun x m1 v H1 ⟨kvs,ex,hn,q⟩ e1 ok1 rd=>by
  subst ex;exact⟨v,kvs,m1,rfl,rd,hn,q,e1,ok1⟩⟩
 refine Call_ (jJ I hg hm boot_dict (PyProof.Rows.callWith_type1 (aM hA fun us s1 ⟨vs,H1,I1,r1,q1⟩=>?_) hs rfl));obtain⟨v,kvs,m1,ev,rd,hn,q,e1,ok1⟩:=q1;subst ev;simp only[RD,RP]at rd;obtain⟨a,ps,rfl,_,hsq,hp⟩:=rd;obtain⟨u,rfl,hu⟩:=eS r1
 cases (show u=Value.ref a from hu)
 obtain⟨its,rv,⟨o,n,ho,hoc,hdn,hod⟩,_⟩:=I1.list hsq;obtain⟨ws,xs,q1,q2,q3,q4⟩:=Gs (Z:=Z) (m:=m1) I1 hp rv;have hp0:H1 s1.heap.objs.size=none:=I1.hok.fresh (Nat.le_refl _)
 have hk0:X.K.lookup s1.heap.objs.size=none:=by
  cases e:X.K.lookup s1.heap.objs.size with
  | none=>rfl
  | some o=>exact absurd (Heap.lt_size (I1.kIn _ o e)) (Nat.lt_irrefl _)
 refine P6 (knd:=bD X.prog X.w) (I1.ok.hd hc) ho hoc hdn hod (by simpa using q3) (by rw[q4];exact hn) fun h' tk kp dd=>?_
 have rk:RKV X.K Z m1 H1 (eZ [] kvs) (pB [] ws):=RKV.puts (show RKV _ _ _ _ _ _ from rfl) q1
 have ob:ObjOk X.prog X.w (aI H1 s1.heap.objs.size (.dK (pB [] ws))) h' s1.heap.objs.size (.dK (pB [] ws)):=by
  refine⟨?_,beq_eq_false_iff_ne.mpr (Ne.symm (Nat.ne_of_lt I1.big)),_,KV.puts q2 .nil,dd⟩;rw[rk.length];exact Nat.le_trans (Nz kvs []) (by simpa using hn)
 exact⟨.ref s1.heap.objs.size,_,I1.laid (t':=tk) kp (Nat.le_refl _) ob,rfl,k _ _ _ _ (q _ (dJ ok1 hp0).1) (e1.trans (Ext.cell ok1 hp0 hk0)) (ok1.cell hp0 hk0 (show RKV _ _ _ _ _ _ from rk)) ⟨rfl,by rw[aZ];rfl⟩⟩
end
end DL
namespace DL
open PySem PySem.Spec PyProof.Rows L2
section
variable {X:Cx}{pins:List (Addr×Obj)}{σ:L2.St}
def PairsH(H:Hp)(xs ys:List V)(ps:List Addr):Prop:=∀ (j:Nat) (p:Addr),ps[j]?=some p->∃ x y,xs[j]?=some x/\ys[j]?=some y/\H p=some (.tup [x,y])
theorem PairsH.same{H H':Hp}{xs ys:List V}{ps:List Addr}(h:PairsH H xs ys ps)(e:Same H H'):PairsH H' xs ys ps:=fun j p q=>let ⟨x,y,h1,h2,h3⟩:=h j p q;⟨x,y,h1,h2,e _ _ h3⟩
theorem PairsH.snoc{H:Hp}{xs ys:List V}{ps:List Addr}{a:Addr}{x y:V}(h:PairsH H xs ys ps)(hx:xs[ps.length]?=some x)(hy:ys[ps.length]?=some y)(ha:H a=some (.tup [x,y])):PairsH H xs ys (ps++[a]):=fun j p q=>by
 rcases Nat.lt_or_ge j ps.length with c | c
 ·rw[List.getElem?_append_left c]at q;exact h j p q
 ·rw[List.getElem?_append_right c]at q;have:j-ps.length=0:=by
   rcases Nat.eq_zero_or_pos (j-ps.length) with z | z
   ·exact z
   ·rw[List.getElem?_eq_none (by simp;omega)]at q;cases q
  rw[this]at q
  cases q
  have e:j=ps.length:=by omega
  subst e;exact⟨x,y,hx,hy,ha⟩
end
end DL
namespace DL
open PySem PySem.Spec PyProof.Rows L2
section
variable {X:Cx}{o e:Expr}{f g:DE}
theorem RPs.eraseIdx{K:PySem.W.Frag}{Z:Addr->Prop}{m:Mu}{H:Hp}{xs:List PyData}{vs:List V}(h:RPs K Z m H xs vs)(i:Nat):RPs K Z m H (xs.eraseIdx i) (vs.eraseIdx i):=by
 rw[List.eraseIdx_eq_take_drop_succ,List.eraseIdx_eq_take_drop_succ];exact(h.take _).append (h.drop _)
end
end DL
namespace DL
open PySem PySem.Spec PyProof.Rows L2
section
variable {K:PySem.W.Frag}{Z:Addr->Prop}{m m1:Mu}{H H1:Hp}
theorem Ok.off{a:Addr}(ok:Ok K Z m H):Ok K Z (bY m a) H :=
 ⟨fun b c h=>by
  unfold bY at h
  split at h
  ·cases h
  ·obtain⟨o,h1,h2⟩:=ok.g b c h;exact⟨o,h1,h2.lift fun p v q=>RP.tr (fun _ _ q=>q) (fun b ws q1 q2=>⟨⟨oD q1.1,q1.2⟩,q2⟩) p v q⟩,fun b hz=>⟨oD (ok.z b hz).1,(ok.z b hz).2⟩⟩
theorem Ext.off{a:Addr}(e:Ext K Z m H m1 H1)(h:m a=none):Ext K Z m H (bY m1 a) H1 :=
 ⟨e.t,fun b vs h1 h2=>let ⟨q1,q2⟩:=e.l b vs h1 h2;⟨oD q1,q2⟩,e.z,fun b hb=>by
  unfold bY
  split
  ·rename_i q;rw[q,h]at hb;cases hb
  ·exact e.c b hb,e.fz,fun b hb=>by
  unfold bY
  split
  ·rename_i q;rw[q,h]at hb;cases hb
  ·exact e.fm b hb⟩
end
end DL
namespace DL
open PySem PySem.Spec PyProof.Rows L2
section
variable {X:Cx}{pos:Pos}
@[simp] def tZ:List (DE×DE)->aU->Mu->(List (aH×PyData)->Mu->Prop)->Prop
 | [],_,m,Q=>Q [] m
 | (fk,fv)::r,d,m,Q=>fk d m fun x m1=>∃ k,jR x=some k/\fv d m1 fun y m2=>∃ p,y=.dat p/\tZ r d m2 fun kvs m3=>Q ((k,p)::kvs) m3
theorem Hl{K:PySem.W.Frag}{Z:Addr->Prop}:∀ {ps:List (DE×DE)} {d:aU} {m:Mu} {s:L2.St} {H:Hp} {R:List (aH×PyData)->Mu->Prop} {Q:List (V×V)->Hp->Prop},Ok K Z m H->RS K Z m H d s->tZ ps d m R ->
  (∀ kvs m' vs H',R kvs m'->Ext K Z m H m' H'->Ok K Z m' H'->RKV K Z m' H' kvs vs->Q (vs.map fun kv=>(kV kv.1,kv.2)) H')->sS (ps.map fun z=>(LE K z.1,LE K z.2)) s H Q
 | [],d,m,s,H,R,Q,ok,rs,h,k=>k [] m [] H h Ext.refl ok rfl
 | (fk,fv)::r,d,m,s,H,R,Q,ok,rs,h,k=>by
  refine⟨Z,d,m,_,ok,rs,h,fun x m1 v H1 q e1 ok1 r1=>?_⟩;obtain⟨ky,hk,q⟩:=q
  cases r1.key hk
  refine⟨Z,d,m1,_,ok1,rs.ext e1,q,fun y m2 w H2 q2 e2 ok2 r2=>?_⟩;obtain⟨p,rfl,q2⟩:=q2;refine Hl ok2 ((rs.ext e1).ext e2) q2 fun kvs m3 vs H3 q3 e3 ok3 rk=>?_;exact k ((ky,p)::kvs) m3 ((ky,w)::vs) H3 q3 (e1.trans (e2.trans e3)) ok3 ⟨w,vs,rfl,RP.ext e3 _ _ r2,rk⟩
@[simp] def iJ(ps:List (DE×DE)):DE:=fun d m Q=>∀ p,m p=none->tZ ps d (aS m p (.d [])) fun kvs m2=>m2 p=some (.d [])/\kvs.length<=15/\Q (.cel p) (aS m2 p (.d (eZ [] kvs)))
def PD(X:Cx)(pos:Pos)(keys:List (Option Expr))(values:List Expr)(ps:List (DE×DE)):Prop:=vR X pos keys values (ps.map fun z=>(LE X.K z.1,LE X.K z.2))
theorem x4:PD X pos [] [] []:=J6
theorem Sj{k v:Expr}{ks:List (Option Expr)}{vs:List Expr}{fk fv:DE}{ps:List (DE×DE)}(hk:PE X k (LE X.K fk))(hv:PE X v (LE X.K fv))(hr:PD X pos ks vs ps):PD X pos (some k::ks) (v::vs) ((fk,fv)::ps):=Vp hk hv hr
theorem BV{keys:List (Option Expr)}{values:List Expr}{ps:List (DE×DE)}(h:PD X pos keys values ps)(hall:keys.all (·.isSome)=true:=by rfl)(hl:keys.length=values.length:=by rfl)(h0:keys≠[]:=by exact List.cons_ne_nil _ _)
  (h15:keys.length<=15:=by decide):PE X (.Dict keys values pos) (LE X.K (iJ ps)):=by
 intro pins s σ H Q I q;obtain⟨Z,d,m,R,ok,rs,hd,k⟩:=q;have hn:=I.hok.fresh (Nat.le_refl s.heap.objs.size)
 have hk:X.K.lookup s.heap.objs.size=none:=by
  cases e:X.K.lookup s.heap.objs.size with
  | none=>rfl
  | some o=>exact absurd (Heap.lt_size (I.kIn _ o e)) (Nat.lt_irrefl _)
 have e0:=Ext.cell (c:=.d []) (o:=.dK []) ok hn hk
 have I1:=I.laid (a:=s.heap.objs.size) (o:=.dK []) (h':=s.heap.push {cls:=.type "dict",data:=.dict #[]}) (t':=s.toks) (fun _ _ q=>Heap.get?_push_of_some _ q) (Nat.le_refl _) (BJ s.heap I.big)
 have run:sS (ps.map fun z=>(LE X.K z.1,LE X.K z.2)) σ (aI H s.heap.objs.size (.dK [])) fun ps H2=>H2 s.heap.objs.size=some (.dK [])/\∃ kvs:List (aH×V),ps=kvs.map (fun kv=>(kV kv.1,kv.2))/\kvs.length<=15/\Q (.ref s.heap.objs.size) (aI H2 s.heap.objs.size (.dK (kP [] kvs))):=by
  refine Hl (ok.cell (c:=.d []) (o:=.dK []) hn hk (show RKV (κ:=aH) X.K Z m H [] [] from rfl)) (rs.ext e0) (hd _ (dJ ok hn).1) fun kvs m2 vs H2 q2 e2 ok2 rk=>?_
  obtain⟨hm,hlen,q⟩:=q2;obtain⟨ws,g1,g2⟩:=ok2.d hm
  cases (show ws=[] from g2)
  exact⟨g1,vs,rfl,by rw[rk.length];exact hlen,k _ _ _ _ q (e0.trans (e2.trans (Ext.put ok2 hm g1))) (ok2.put hm g1 (show RKV _ _ _ _ _ _ from RKV.puts (acc:=[]) (aw:=[]) rfl rk)) ⟨rfl,by rw[aZ];rfl⟩⟩
 refine wpAny_Dict_walk (knd:=bD X.prog X.w) hall hl h0 h15 (aM (h pins _ σ _ _ I1 run) fun ws s2 ⟨ps,H2,I2,rel,e,kvs,ep,lk,q2⟩=>?_);subst ep;obtain⟨rs,c,rk⟩:=Hq (P:=X.prog) (w:=X.w) rel;obtain⟨z,hd,vs0,r0,dd⟩:=uV I2.hok e
 cases r0
 refine⟨rs,c,dd,fun h' dd' hs=>⟨.ref s.heap.objs.size,_,?_,rfl,q2⟩⟩;have hz:(kP [] kvs).length<=sizeLine:=by
  have h1:=Fi kvs []
  rw[List.length_nil]at h1;rw[sizeLine_eq];omega
 have he:∃ q,h'.get? s.heap.objs.size=some q:=let ⟨q,_,_,hq,_⟩:=dd';⟨q,hq⟩
 exact iZ I2 (by rw[e];exact True.intro) hs he (Dy hz hd (rk.merge .nil) dd')
variable {o e:Expr}{f g:DE}
@[simp] def wG(fo g:DE):DE:=fun d m Q=>fo d m fun o m1=>∃ c,o=.cel c/\(∃ kvs,m1 c=some (.d kvs))/\g d m1 fun x m2=>∃ kvs more b,x=.cel b/\c≠b/\m2 c=some (.d kvs)/\m2 b=some (.d more)/\kvs.length+more.length<=sizeLine/\Q (.dat .none) (aS m2 c (.d (eZ kvs more)))
theorem t8{apos cpos:Pos}(ho:PE X o (LE X.K f))(he:PE X e (LE X.K g))(M:M1 X o "update" apos e cpos:=by exact⟨by rfl,by rfl,by rfl,by rfl⟩):PE X (.Call (.Attribute o "update" apos) [e] [] cpos) (LE X.K (wG f g)):=by
 intro pins s σ H Q I h;obtain⟨Z,d,m,R,ok,rs,h,k⟩:=h;refine wpAny_Call_method M.base M.few M.line PySem.F.plainAttrs_dict PySem.F.slot_dict_update PySem.F.type_dict_update (aM (ho pins s σ H (fun x H1=>∃ c m1 kvs,x=.ref c/\m1 c=some (.d kvs)/\(g d m1 fun x m2=>∃ kvs more b,x=.cel b/\c≠b/\m2 c=some (.d kvs)/\m2 b=some (.d more)/\kvs.length+more.length<=sizeLine/\R (.dat .none) (aS m2 c (.d (eZ kvs more))))/\Ext X.K Z m H m1 H1/\Ok X.K Z m1 H1) I
  ⟨Z,d,m,_,ok,rs,h,fun x m1 v H1 ⟨c,ex,⟨kvs,hm⟩,q⟩ e1 ok1 rd=>by subst ex;obtain⟨rfl,_⟩:=rd;exact⟨c,m1,kvs,rfl,hm,q,e1,ok1⟩⟩) fun u s1 ⟨x,H1,I1,rx,c,m1,kvs,ex,hm,q,e1,ok1⟩=>?_)
 subst ex;obtain rfl:u=Value.ref c:=rx;obtain⟨vs,g1,g2⟩:=ok1.d hm;obtain⟨t1,t2,_⟩:=Vd I1 (.inl ⟨vs,.inl g1⟩);refine⟨t1,t2,?_⟩;rw[M.trees];refine Calls.callWith_builtin rfl (Calls.evalArgs_plain (Calls.spliced_cons (aM (he pins s1 σ H1 (fun y H2=>∃ b m2 kvs more,y=.ref b/\c≠b/\m2 c=some (.d kvs)/\m2 b=some (.d more)/\kvs.length+more.length<=sizeLine/\R (.dat .none) (aS m2 c (.d (eZ kvs more)))/\Ext X.K Z m1 H1 m2 H2/\Ok X.K Z m2 H2) I1
  ⟨Z,d,m1,_,ok1,rs.ext e1,q,fun y m2 w H2 ⟨kvs,more,b,ey,hcb,h1,h2,hz,q2⟩ e2 ok2 rd=>by subst ey;obtain⟨rfl,_⟩:=rd;exact⟨b,m2,kvs,more,rfl,hcb,h1,h2,hz,q2,e2,ok2⟩⟩) fun iv s2 ⟨y,H2,I2,ry,b,m2,kvs,more,ey,hcb,h1,h2,hz,q2,e2,ok2⟩=>Calls.spliced_nil ?_)))
 subst ey;obtain rfl:iv=Value.ref b:=ry;obtain⟨ws,g3,g4⟩:=ok2.d h1;obtain⟨us,g5,g6⟩:=ok2.d h2;obtain⟨z1,hd1,vs1,rel1,dd1⟩:=uV I2.hok g3;obtain⟨z2,hd2,vs2,rel2,dd2⟩:=uV I2.hok g5;have lz:vs1.length+vs2.length<=sizeLine:=by rw[<- rel1.length,<- rel2.length,g4.length,g6.length];exact hz
 refine call_meetsIn PySem.F.slot_dict_update dd1.typeIs PySem.F.entry_dict_update (PySem.F.args_dict_update_2 _ _) (meets_dict_update (bD X.prog X.w) c b hcb hd2) ⟨vs1,vs2,dd1,dd2,lz,fun h' dd' _ hs=>⟨.non,aI H2 c (.dK (kP ws us)),?_,rfl,?_⟩⟩
 ·have he:∃ q,h'.get? c=some q:=let ⟨q,_,_,hq,_⟩:=dd';⟨q,hq⟩
  have hz':(kP ws us).length<=sizeLine:=by
   have:=Fi us ws
   rw[g4.length,g6.length]at this;omega
  exact iZ (t':=s2.toks) I2 (by rw[g3];exact True.intro) hs he (Dy hz' hd1 (rel2.merge rel1) dd')
 ·have e3:Ext X.K Z m2 H2 (aS m2 c (.d (eZ kvs more))) (aI H2 c (.dK (kP ws us))):=Ext.put ok2 h1 g3
  exact k _ _ _ _ q2 (e1.trans (e2.trans e3)) (ok2.put h1 g3 (show RKV _ _ _ _ _ _ from RKV.puts g4 g6)) (by simp only[RD,RP])
end
end DL
namespace DL
open PySem PySem.Spec PyProof.Rows L2
section
variable {X:Cx}{a b c:Expr}{f g h:DE}{pos:Pos}
@[simp] def xA(r r':D2)(f g h:DE):DE:=fun d m Q=>f d m fun x m1=>g d m1 fun y m2=>r x y m2 fun z m3=>∃ k,z=.dat (.bool k)/\(if k=true then h d m3 fun w m4=>r' y w m4 Q else Q (.dat (.bool false)) m3)
theorem Td{op op':CmpOp}{r r':D2}(ho:cP X (compareOp op) r)(ho':cP X (compareOp op') r')(ha:PE X a (LE X.K f))(hb:PE X b (LE X.K g))(hc:PE X c (LE X.K h))
  (hm:lastMarks [op,op'] [b,c]=false:=by with_unfolding_all rfl):PE X (.Compare a [op,op'] [b,c] pos) (LE X.K (xA r r' f g h)):=by
 intro pins s σ H Q I hh;obtain⟨Z,d,m,R,ok,rs,hf,k⟩:=hh;refine Compare_chain (aM (ha pins s σ H (fun x H1=>∃ (dx:D) (m1:Mu),RD X.K Z m1 H1 dx x/\(g d m1 fun y m2=>r dx y m2 fun z m3=>∃ k,z=.dat (.bool k)/\(if k=true then h d m3 fun w m4=>r' y w m4 R else R (.dat (.bool false)) m3))/\Ext X.K Z m H m1 H1/\Ok X.K Z m1 H1) I
  ⟨Z,d,m,_,ok,rs,hf,fun x m1 v H1 q e1 ok1 rd=>⟨x,m1,rd,q,e1,ok1⟩⟩) fun v s1 ⟨x,H1,I1,r1,dx,m1,rd,q,e1,ok1⟩=>chain_link (aM (hb pins s1 σ H1 (fun y H2=>∃ (dy:D) (m2:Mu),RD X.K Z m2 H2 dy y/\(r dx dy m2 fun z m3=>∃ k,z=.dat (.bool k)/\(if k=true then h d m3 fun w m4=>r' dy w m4 R else R (.dat (.bool false)) m3))/\Ext X.K Z m1 H1 m2 H2/\Ok X.K Z m2 H2) I1
  ⟨Z,d,m1,_,ok1,rs.ext e1,q,fun y m2 w H2 q2 e2 ok2 rd2=>⟨y,m2,rd2,q2,e2,ok2⟩⟩) fun u s2 ⟨y,H2,I2,r2,dy,m2,rd2,q2,e2,ok2⟩ =>
  aM (ho pins s2 σ H2 Z m2 x y dx dy v u _ (fun z H3=>∃ (kk:Bool) (m3:Mu),z=.bl kk/\(if kk=true then h d m3 fun w m4=>r' dy w m4 R else R (.dat (.bool false)) m3)/\Ext X.K Z m2 H2 m3 H3/\Ok X.K Z m3 H3) I2 ok2 r1 r2 (rd.ext e2) rd2 q2 (fun z m3 v3 H3 ⟨kk,ez,q3⟩ e3 ok3 rd3=>by subst ez;exact⟨kk,m3,by simpa only[RD,RP] using rd3,q3,e3,ok3⟩))
   fun cv s3 ⟨z,H3,I3,r3,kk,m3,ez,q3,e3,ok3⟩=>?_)) hm
 subst ez
 cases r3
 refine wpAny_truthy_bool ?_
 cases kk with
 | false=>exact ite_ff ⟨.bl false,H3,I3,rfl,k _ m3 _ H3 (by simpa using q3) (e1.trans (e2.trans e3)) ok3 .ofBl⟩
 | true =>
  refine ite_tt (chain_last (aM (hc pins s3 σ H3 (fun w H4=>∃ (dw:D) (m4:Mu),RD X.K Z m4 H4 dw w/\r' dy dw m4 R/\Ext X.K Z m3 H3 m4 H4/\Ok X.K Z m4 H4) I3 ⟨Z,d,m3,_,ok3,((rs.ext e1).ext e2).ext e3,by simpa using q3,fun w m4 v4 H4 q4 e4 ok4 rd4=>⟨w,m4,rd4,q4,e4,ok4⟩⟩)
   fun w' s4 ⟨z',H4,I4,r4,dw,m4,rd4,q4,e4,ok4⟩=>?_))
  exact ho' pins s4 σ H4 Z m4 y z' dy dw u w' R Q I4 ok4 r2 r4 (rd2.ext (e3.trans e4)) rd4 q4 fun d' m' v' H' h1 h2 h3 h4=>k d' m' v' H' h1 (e1.trans (e2.trans (e3.trans (e4.trans h2)))) h3 h4
end
end DL
namespace DL
open PySem PySem.Spec PyProof.Rows L2
section
variable {P:Program}{w:World}{A:Around}{E:Value->Shared->Prop}{s:Shared}{it d:Addr}{i ep:Nat}{es:Array DictEntry}{od:Obj}
theorem Qd{Q:Value->Shared->Prop}(hd:(d==sysModules)=false)(hod:s.heap.get? d=some od)(hx:od.ExactDict)(hdd:od.data=.dict es ep)
  (hQ:Q (.ref s.heap.objs.size) {s with heap:=s.heap.push {cls:=.type "dict_keyiterator",data:=.fields #[.ref d,.int 0 0,.int es.size 0,.int ep 0]}}):wpAny (model P w) A (pyIter (.ref d)) Q E s:=by
 have hT:s.TypeIs (.ref d) "dict":=⟨od,hod,hx.1⟩
 refine wpAny_pyIter_slot hT PySem.F.slot_dict_iter (wpAny_call_entry PySem.F.slot_dict_iter hT PySem.F.entry_dict_iter ?_ (PySem.F.args_dict_iter_1 _));unfold Builtin.«dict.__iter__» Builtin.Dict.dictSlotNone;refine wpAny_bind (wpAny_bind (wpAny_notOrdered_dict hT (show wpAny _ _ (pure (Value.ref d)) _ _ s from wpAny_pure ?_)))
 show wpAny _ _ (Builtin.Dict.showsAll d>>=_) _ _ s
 unfold Builtin.Dict.showsAll;rw[hd,if_neg (by decide)]
 refine wpAny_bind (wpAny_pure (wpAny_bind (wpAny_dictEntries hod hdd (wpAny_bind (wpAny_dictEpoch hod hdd (wpAny_bind (wpAny_newObj_type (wpAny_pure ⟨_,rfl,"dict_keyiterator",_,⟨_,Heap.get?_push_size _ rfl,rfl⟩,PySem.F.slot_dict_keyiterator_next.lookup,?_⟩))))))));simpa[rawInt] using hQ
theorem Kf:Builtin.Dict_items.ownsTuple "dict_keyiterator"=false:=by decide
theorem D4{Q:Option Value->Shared->Prop}(st:s.heap.IsKeyIter it d i es.size ep)(hod:s.heap.get? d=some od)(hdd:od.data=.dict es ep)(hi:i<es.size)
  (hQ:∀ h',h'.IsKeyIter it d (i+1) es.size ep->Heap.SameBut it s.heap h'->Q (some es[i].key) {s with heap:=h'}):wpAny (model P w) A (pyNext (.ref it)) Q E s:=by
 obtain⟨o,ho,hc,hf⟩:=id st;have ty:=st.typeIs
 unfold pyNext;refine wpAny_bind (wpAny_attempt (wpAny_callSpecial?_slot (name:=Str.ofString "__next__") ty PySem.F.slot_dict_keyiterator_next (wpAny_call_entry PySem.F.slot_dict_keyiterator_next ty PySem.F.entry_dict_keyiterator_next ?_ (PySem.F.args_dict_keyiterator_next_1 _))));refine wpAny_bind (wpAny_pure (wpAny_bind (wpAny_bind ?_)))
 first
  | refine wpAny_bind (wpAny_typeNameOfWhole_keyiter ty (wpAny_pure (wpAny_bind (wpAny_fieldsOf ho hf ?_))))
  | refine wpAny_bind (wpAny_typeNameOf_keyiter ty (wpAny_pure (wpAny_bind (wpAny_fieldsOf ho hf ?_))))
 rw[Kf,if_neg (by decide)]
 show wpAny _ _ (if (Value.ref d==Value.none)=true then _ else _) _ _ s
 rw[if_neg (by exact Bool.false_ne_true)]
 refine wpAny_bind (wpAny_pure (wpAny_bind (wpAny_dictEntries hod hdd ?_)));rw[if_neg (by simp)]
 refine wpAny_bind (wpAny_pure (wpAny_bind (wpAny_dictEpoch hod hdd ?_)));rw[if_neg (by simp)]
 refine wpAny_pure ?_;simp only[show ¬ ((i:Int)<0) from by omega,if_false,Int.toNat_natCast,Array.getElem?_eq_getElem hi]
 refine wpAny_bind ?_
 first
  | refine wpAny_bind (wpAny_typeNameOfWhole_keyiter ty (wpAny_pure (wpAny_bind (wpAny_isOneOf_keyiter ty ?_))))
  | refine wpAny_bind (wpAny_typeNameOf_keyiter ty (wpAny_pure (wpAny_bind (wpAny_isOneOf_keyiter ty ?_))))
 show wpAny _ _ (setField (.ref it) 1 (rawInt ((i:Int)+1))>>=_) _ _ s
 obtain⟨h',eh⟩:∃ h',h'=s.heap.update it (Obj.mapFields (·.setIfInBounds 1 (rawInt ((i:Int)+1)))):=⟨_,rfl⟩;have st':h'.IsKeyIter it d (i+1) es.size ep:=by
  subst eh;exact⟨_,Heap.get?_update_self _ ho (Obj.isFreed_of_fields (Obj.data_mapFields hf _)),(Obj.cls_mapFields ..).trans hc,by rw[Obj.data_mapFields hf];simp[rawInt]⟩
 have sb:Heap.SameBut it s.heap h':=by subst eh;exact Heap.SameBut.update ..
 refine wpAny_bind (wpAny_setField ho hf (by simp) ?_)
 rw[<- eh];refine wpAny_bind (wpAny_holding (wpAny_bind (wpAny_isOneOf_keyiter (s:={s with heap:=h'}) st'.typeIs ?_)));show wpAny _ _ (pure es[i].key) _ _ _
 exact wpAny_pure (wpAny_pure ⟨_,rfl,wpAny_pure (hQ h' st' sb)⟩)
theorem F6{Q:Option Value->Shared->Prop}(hh:A.handled=none)(st:s.heap.IsKeyIter it d i es.size ep)(hod:s.heap.get? d=some od)(hdd:od.data=.dict es ep)(hi:es.size<=i)
  (hQ:∀ h',Heap.ExtBut it s.heap h'->Q none {s with heap:=h'}):wpAny (model P w) A (pyNext (.ref it)) Q E s:=by
 obtain⟨o,ho,hc,hf⟩:=id st;have ty:=st.typeIs
 unfold pyNext;refine wpAny_bind (wpAny_attempt (wpAny_callSpecial?_slot (name:=Str.ofString "__next__") ty PySem.F.slot_dict_keyiterator_next (wpAny_call_entry PySem.F.slot_dict_keyiterator_next ty PySem.F.entry_dict_keyiterator_next ?_ (PySem.F.args_dict_keyiterator_next_1 _))));refine wpAny_bind (wpAny_pure (wpAny_bind (wpAny_bind ?_)))
 first
  | refine wpAny_bind (wpAny_typeNameOfWhole_keyiter ty (wpAny_pure (wpAny_bind (wpAny_fieldsOf ho hf ?_))))
  | refine wpAny_bind (wpAny_typeNameOf_keyiter ty (wpAny_pure (wpAny_bind (wpAny_fieldsOf ho hf ?_))))
 rw[Kf,if_neg (by decide)]
 show wpAny _ _ (if (Value.ref d==Value.none)=true then _ else _) _ _ s
 rw[if_neg (by exact Bool.false_ne_true)]
 refine wpAny_bind (wpAny_pure (wpAny_bind (wpAny_dictEntries hod hdd ?_)));rw[if_neg (by simp)]
 refine wpAny_bind (wpAny_pure (wpAny_bind (wpAny_dictEpoch hod hdd ?_)));rw[if_neg (by simp)]
 refine wpAny_pure ?_;simp only[show ¬ ((i:Int)<0) from by omega,if_false,Int.toNat_natCast,Array.getElem?_eq_none hi]
 refine wpAny_bind ?_
 first
  | refine wpAny_bind (wpAny_typeNameOfWhole_keyiter ty (wpAny_pure ?_))
  | refine wpAny_bind (wpAny_typeNameOf_keyiter ty (wpAny_pure ?_))
 show wpAny _ _ (setField (.ref it) 0 .none>>=_) _ _ s
 refine wpAny_bind (wpAny_setField ho hf (by simp) ?_)
 show wpAny _ _ (newExc (.type "StopIteration") []>>=_) _ _ _
 refine wpAny_bind ?_;simp only[newExc,newTuple];refine wpAny_bind (wpAny_newObj_type ?_ (by size_fits))
 refine wpAny_bind (m:=firstArgMember _ _) (wpAny_of_eq (a:=Value.none) (by first | rfl | (simp only[firstArgMember];rfl)) (wpAny_newObj_type ?_ (by size_fits)))
 simp only[raiseNew];refine wpAny_bind (wpAny_handled ?_);rw[show A.in1.handled=none from hh]
 refine wpAny_bind (wpAny_pure (wpAny_throw ?_));refine wpAny_bind (wpAny_isInstance (T:="StopIteration") (b:=true) ⟨_,Heap.get?_push_size _ rfl,rfl⟩ isSubtype_stop (wpAny_pure (hQ _ ?_)));exact((Heap.SameBut.update ..).extBut.push _).push _
end
theorem Paired.at{α β:Type}{r:α->β->Prop}:∀ {xs:List α} {ys:List β} {i:Nat} {x:α},Paired r xs ys->xs[i]?=some x->∃ y,ys[i]?=some y/\r x y
 | _,_,_,_,.nil,e=>by simp at e
 | _,_,0,x,.cons h _,e=>by
  simp at e;subst e;exact⟨_,rfl,h⟩
 | _,_,i+1,x,.cons _ h,e=>by
  obtain⟨y,h1,h2⟩:=Paired.at (i:=i) h (by simpa using e)
  exact⟨y,by simpa using h1,h2⟩
theorem Paired.len{α β:Type}{r:α->β->Prop}:∀ {xs:List α} {ys:List β},Paired r xs ys->xs.length=ys.length
 | _,_,.nil=>rfl
 | _,_,.cons _ h=>by rw[List.length_cons,List.length_cons,Paired.len h]
section
variable {X:Cx}{a:Expr}{tg:Expr}{f:DE}
theorem Cz{K:PySem.W.Frag}{Z:Addr->Prop}{m:Mu}{H:Hp}:∀ ks:List aH,RPs K Z m H (ks.map bO) (ks.map kV)
 | []=>by simp[RPs]
 | .inl i::r=>by
  simp only[List.map_cons,RPs];exact⟨_,_,rfl,by simp only[bO,RP];rfl,Cz r⟩
 | .inr z::r=>by
  simp only[List.map_cons,RPs];exact⟨_,_,rfl,by simp only[bO,RP];rfl,Cz r⟩
theorem RKV.keyAt{κ:Type}{K:PySem.W.Frag}{Z:Addr->Prop}{m:Mu}{H:Hp}:∀ {kvs:List (κ×PyData)} {vs:List (κ×V)},RKV K Z m H kvs vs->vs.map (·.1)=kvs.map (·.1)
 | [],_,h=>by cases (show _=[] from h);rfl
 | _::_,_,⟨v,r,h1,_,h3⟩=>by
  subst h1;rw[List.map_cons,List.map_cons,RKV.keyAt h3]
end
section
variable {X:Cx}{o:Expr}{es:List Expr}{fo:DE}{fa:DA}{pos ipos:Pos}{j:Nat}
theorem Ok.ft{K:PySem.W.Frag}{Z:Addr->Prop}{m:Mu}{H:Hp}{a:Addr}{xs:List (List aH×PyData)}(ok:Ok K Z m H)(h:m a=some (.ft xs)):∃ ob vs,H a=some (.frz ob (.dT vs))/\RKV K Z m H xs vs:=by
 obtain⟨o,h1,h2⟩:=ok.g a _ h
 cases o with
 | frz ob u=>cases u<;>first | exact⟨_,_,h1,h2⟩ | exact h2.elim
 | _=>exact h2.elim
end
end DL
namespace DL
open PySem PySem.Spec PyProof.Rows L2
def Jb(kas:List (aH×Addr)):List (aH×V):=kas.map fun x=>(x.1,V.ref x.2)
theorem Ok.dl{K:PySem.W.Frag}{Z:Addr->Prop}{m:Mu}{H:Hp}{a:Addr}{kas:List (aH×Addr)}(ok:Ok K Z m H)(h:m a=some (.dl kas)):H a=some (.dK (Jb kas)):=by
 obtain⟨o,h1,h2⟩:=ok.g a _ h
 cases o<;>first | (cases (show _=Jb kas from h2);exact h1) | exact h2.elim
end DL
namespace DL
open PySem PySem.Spec PyProof.Rows L2
def A6(n lo st:Nat):Nat:=if lo<n then (n-lo-1) / st+1 else 0
def fK(n lo st:Nat):List Nat:=(List.range (A6 n lo st)).map fun k=>lo+k*st
theorem Vals.at{xs:List V}{us:List Value}:∀ {i:Nat} {x:V},Vals xs us->xs[i]?=some x->∃ u,us[i]?=some u/\RelV x u:=fun h e=>h.get e
end DL
namespace DL
open PySem PySem.Spec PyProof.Rows L2
theorem E7(t:SetTable)(n:Nat):(t.orStandIn n).led=t.led:=by
 unfold SetTable.orStandIn
 split<;>rfl
theorem M6(t:SetTable)(es:Array (Int×Value))(h:Int)(x:Value):(layNew t es h x).2.1.led=t.led:=by
 unfold layNew
 split
 ·exact E7 _ _
 ·rfl
theorem j4(t:SetTable)(es:Array (Int×Value))(n:Nat):(relayAll t es n).2.1.led=t.led/\(t.plain=false->(relayAll t es n).2.1.plain=false):=by
 unfold relayAll
 split
 ·rename_i t' order e;unfold SetTable.relaid SetTable.laid at e
  cases q:SetTable.layClean (SetTable.sizeAbove n-1) (es.map (·.1)) with
  | none=>rw[q]at e;cases e
  | some owner =>
   rw[q]at e;have e:=Option.some.inj e
   have e1:=congrArg Prod.fst e
   dsimp only at e1;dsimp only
   split
   ·exact⟨by rw[<- e1],fun hp=>by rw[<- e1];exact hp⟩
   ·exact⟨rfl,fun _=>rfl⟩
 ·exact⟨rfl,fun _=>rfl⟩
def TSet(P:Program)(w:World)(h:Heap)(a:Addr)(zs:List Str):Prop :=
 ∃ o es ep t,h.get? a=some o/\o.ExactSet/\o.data=.set es ep t/\ElemsOf (bD P w) es.toList/\(∃ vs,StrsAre (es.toList.map (·.2)) vs/\vs.Perm zs)/\zs.Nodup/\es.size<scanBound/\t.fits es.size=true/\t.led=!w.params.followText "set-order"/\(zs≠[]->t.plain=false)
theorem Co{l l':List Value}(p:l'.Perm l):∀ {vs:List Str},StrsAre l vs->∃ vs',StrsAre l' vs'/\vs'.Perm vs:=fun {vs} h=>by
 have all:∀ v,v∈l'->∃ x t,v=.str x t:=fun v hv=>h.all v (p.mem_iff.mp hv)
 refine⟨l'.map strOf,strsAre_map l' all,?_⟩;rw[<- h.strs];exact p.map strOf
theorem StrsAre.snoc:∀ {l:List Value} {vs:List Str} (z:Str) (tk:Tok),StrsAre l vs->StrsAre (l++[.str z tk]) (vs++[z])
 | _,_,z,tk,.nil=>.cons z tk .nil
 | _,_,z,tk,.cons x t h=>.cons x t (StrsAre.snoc z tk h)
section
variable {P:Program}{w:World}{A:Around}{E:Value->Shared->Prop}{s:Shared}{a:Addr}{zs:List Str}{z:Str}{tk:Tok}
theorem Bn(z:Str)(tk:Tok):(bD P w).is (.inr z) (.str z tk)=true:=Np z tk
theorem TSet.len{h:Heap}(T:TSet P w h a zs):∃ o es ep t,h.get? a=some o/\o.data=.set es ep t/\es.size=zs.length:=by
 obtain⟨o,es,ep,t,h1,_,h3,_,⟨vs,h5,h6⟩,_⟩:=T;refine⟨o,es,ep,t,h1,h3,?_⟩;have q1:=congrArg List.length h5.strs
 have q2:=h6.length_eq
 simp at q1;omega
theorem Jr{es1:Array (Int×Value)}{t2:SetTable}{o:Obj}{es:Array (Int×Value)}{ep:Nat}{t:SetTable}{zs':List Str}{wasDummy:Bool}{R:Option Bool->Shared->Prop}{g:Bool->Sem Unit}(hg:∀ (b:Bool) (s₁:Shared) (Q':Unit->Shared->Prop),Q' () s₁->wpAny (model P w) A (g b) Q' E s₁)
  (ho:s.heap.get? a=some o) (hex:o.ExactSet) (hd:o.data=.set es ep t) (hel:ElemsOf (bD P w) es1.toList) (hvs:∃ vs,StrsAre (es1.toList.map (·.2)) vs/\vs.Perm zs') (nd:zs'.Nodup) (hb:es1.size<scanBound) (hf:t2.fits es1.size=true) (hl:t2.led=!w.params.followText "set-order") (hp:t2.plain=false)
  (h:∀ h',Heap.SameBut a s.heap h'->TSet P w h' a zs'->R (some true) {s with heap:=h'}) :
  wpAny (model P w) A (do
    storeSet a es1 t2
    if (!wasDummy&&t2.tooFull)=true then do
      g (relayAll t2 es1 (SetTable.grown es1.size)).2.2
      storeSet a (relayAll t2 es1 (SetTable.grown es1.size)).1 (relayAll t2 es1 (SetTable.grown es1.size)).2.1
      pure (some true)
     else pure (some true)) R E s:=by
 have put:∀ (hh:Heap) (o:Obj) (es:Array (Int×Value)) (ep:Nat) (t:SetTable) (es':Array (Int×Value)) (t':SetTable),hh.get? a=some o->o.data=.set es ep t->(hh.update a (Obj.putSet es' t')).get? a=some {o with data:=.set es' (ep+1) t'}:=fun hh o es ep t es' t' e1 e2=>by
  have:=Heap.get?_update_self (Obj.putSet es' t') e1 (by rw[putSet_of es' t' e2];rfl)
  rw[putSet_of es' t' e2]at this;exact this
 refine wpAny_bind (wpAny_storeSet_of ho hd ?_ (fits_of_scanBound hb));have o1:=put s.heap o es ep t es1 t2 ho hd
 have sb1:=Heap.SameBut.update s.heap a (Obj.putSet es1 t2)
 split
 ·have rp:=relayAll_perm t2 es1 (SetTable.grown es1.size)
  have rf:=relayAll_fits t2 es1 (SetTable.grown es1.size)
  obtain⟨rl,rq⟩:=j4 t2 es1 (SetTable.grown es1.size)
  generalize relayAll t2 es1 (SetTable.grown es1.size)=Rl at rp rf rl rq ⊢
  obtain⟨es2,t3,gv⟩:=Rl;dsimp only at rp rf rl rq ⊢;have sz2:es2.size=es1.size:=by rw[<- Array.length_toList,rp.length_eq,Array.length_toList]
  refine wpAny_bind (hg _ _ _ (wpAny_bind (wpAny_storeSet_of o1 rfl ?_ (fits_of_scanBound (by rw[sz2];exact hb)))))
  obtain⟨vs,v1,v2⟩:=hvs;obtain⟨vs',v3,v4⟩:=Co (rp.map (·.2)) v1;exact wpAny_pure (h _ (sb1.trans (Heap.SameBut.update _ a _)) ⟨_,es2,_,t3,put _ _ _ _ _ es2 t3 o1 rfl,hex,rfl,hel.perm rp,⟨vs',v3,v4.trans v2⟩,nd,by rw[sz2];exact hb,rf,by rw[rl];exact hl,fun _=>rq hp⟩)
 ·exact wpAny_pure (h _ sb1 ⟨_,es1,_,t2,o1,hex,rfl,hel,hvs,nd,hb,hf,hl,fun _=>hp⟩)
theorem BL{es:Array (Int×Value)}{vs zs:List Str}(hv:StrsAre (es.toList.map (·.2)) vs)(hp:vs.Perm zs):(∃ e∈es.toList,(bD P w).is (.inr z) e.2=true)↔z∈zs:=by
 rw[<- hp.mem_iff,<- hv.strs,List.map_map]
 constructor
 ·rintro⟨e,he,q⟩;obtain⟨x,t,ex⟩:=hv.all e.2 (List.mem_map.mpr ⟨e,he,rfl⟩);rw[ex]at q;have q:iL (.inr z) (.str x t)=true:=q
  rcases fY q with⟨i,t',e1,_⟩ | ⟨y,t',e1,e2⟩
  ·cases e1
  ·cases e1
   cases e2
   exact List.mem_map.mpr ⟨e,he,by show strOf e.2=_;rw[ex];rfl⟩
 ·intro h;obtain⟨e,he,q⟩:=List.mem_map.mp h;obtain⟨x,t,ex⟩:=hv.all e.2 (List.mem_map.mpr ⟨e,he,rfl⟩);refine⟨e,he,?_⟩;have q:strOf e.2=z:=q
  rw[ex]at q ⊢;have q:x=z:=q
  subst q;exact Bn x t
theorem Y1{Q:Bool->Shared->Prop}(T:TSet P w s.heap a zs)(hroom:zs.length+1<scanBound)
  (h:∀ b h',Heap.SameBut a s.heap h'->TSet P w h' a (if z∈zs then zs else zs++[z])->Q b {s with heap:=h'}) :
  wpAny (model P w) A (setAddHashed a (.str z tk) ((bD P w).hash (.inr z))) Q E s:=by
 have T0:=T
 obtain⟨o,es,ep,t,ho,hex,hd,hel,⟨vs,hv,hp⟩,nd,hb,hf,hl,hpl⟩:=T;have sz0:es.size=zs.length:=by
  have q1:=congrArg List.length hv.strs
  have q2:=hp.length_eq
  simp at q1;omega
 have hkey:=Bn (P:=P) (w:=w) z tk
 have mem:=BL (P:=P) (w:=w) (z:=z) hv hp
 unfold setAddHashed setAddHashedIn;refine wpAny_holding (wpAny_bind (wpAny_setState_of ho hd hf ?_));dsimp only;rw[byScan_of (x:=.str z tk) rfl hb hel,if_pos rfl];unfold setAddByScan;refine wpAny_bind (wpAny_bind (wpAny_rule (wpAny_bind (wpAny_setScan_of hkey ho hd hf hel ?_))))
 cases hr:List.findIdx? (fun e=>(bD P w).is (.inr z) e.2) es.toList with
 | some j =>
  obtain⟨hj,hpj,_⟩:=List.findIdx?_eq_some_iff_getElem.mp hr;have hz:z∈zs:=mem.mp ⟨_,List.getElem_mem hj,hpj⟩
  have q:=h false s.heap (Heap.SameBut.refl a s.heap) (by rw[if_pos hz];exact T0)
  exact wpAny_pure (wpAny_pure q)
 | none =>
  have hz:z∉zs:=fun hz=>by
   obtain⟨e,he,q⟩:=mem.mpr hz;have:=List.findIdx?_eq_none_iff.mp hr e he
   rw[q]at this
   cases this
  dsimp only;have lp:=layNew_perm t es ((bD P w).hash (.inr z)) (.str z tk)
  have lf:=layNew_fits t es ((bD P w).hash (.inr z)) (.str z tk)
  have ll:=M6 t es ((bD P w).hash (.inr z)) (.str z tk)
  generalize layNew t es ((bD P w).hash (.inr z)) (.str z tk)=L at lp lf ll ⊢
  obtain⟨es1,t1,wasDummy,gave⟩:=L;dsimp only at lp lf ll ⊢;rw[Array.toList_push]at lp;have hel1:ElemsOf (bD P w) es1.toList:=(hel.push hkey rfl).perm lp
  have hb1:es1.size<scanBound:=by
   rw[<- Array.length_toList,lp.length_eq,List.length_append,Array.length_toList,sz0];exact hroom
  have hvs:∃ vs',StrsAre (es1.toList.map (·.2)) vs'/\vs'.Perm (zs++[z]):=by
   have q:=lp.map (·.2)
   rw[List.map_append]at q;obtain⟨vs',v3,v4⟩:=Co q (StrsAre.snoc z tk hv);exact⟨vs',v3,v4.trans (hp.append_right [z])⟩
  have nd1:(zs++[z]).Nodup:=by
   rw[List.nodup_append];refine⟨nd,by simp,fun x hx y hy=>?_⟩
   rw[List.mem_singleton.mp hy];rintro rfl;exact hz hx
  have fin:∀ h',Heap.SameBut a s.heap h'->TSet P w h' a (zs++[z])->Q true {s with heap:=h'}:=fun h' q1 q2=>h true h' q1 (by rw[if_neg hz];exact q2)
  have gw:∀ (b:Bool) (s₁:Shared) (Q':Unit->Shared->Prop),Q' () s₁->wpAny (model P w) A (match b with | true=>rule "set.scan.the-table-gave-way" | false=>pure ()) Q' E s₁ :=
   fun b s₁ Q' hq=>by cases b<;>first | exact wpAny_pure hq | exact wpAny_rule hq
  refine wpAny_bind (gw _ _ _ ?_)
  cases c:t1.plain with
  | true =>
   rw[if_pos rfl];refine wpAny_bind ?_;rw[hashByValue_scannable 8 (x:=.str z tk) rfl];refine wpAny_pure ?_;refine Jr (t2:={t1 with plain:=false}) (fun b s₁ Q' hq=>gw b s₁ Q' hq) ho hex hd hel1 hvs nd1 hb1 (SetTable.fits_plain_off lf) (by show t1.led=_;rw[ll];exact hl) rfl fun h' q1 q2=>?_
   exact wpAny_pure (fin h' q1 q2)
  | false =>
   rw[if_neg Bool.false_ne_true];refine wpAny_bind (wpAny_pure ?_);refine Jr (t2:=t1) (fun b s₁ Q' hq=>gw b s₁ Q' hq) ho hex hd hel1 hvs nd1 hb1 lf (by rw[ll];exact hl) c fun h' q1 q2=>?_
   exact wpAny_pure (fin h' q1 q2)
end
end DL
namespace DL
open PySem PySem.Spec PyProof.Rows L2
def fG(zs:List Str)(z:Str):List Str:=if z∈zs then zs else zs++[z]
def dY(val:Nat->Str)(i:Nat):List Str:=((List.range i).map val).foldl fG []
theorem Q0(val:Nat->Str)(i:Nat):dY val (i+1)=fG (dY val i) (val i):=by
 unfold dY;rw[List.range_succ,List.map_append,List.foldl_append];rfl
section
variable {P:Program}{w:World}{A:Around}{R:Result->Shared->Prop}{I:Addr}{fp wr:List Addr}{G:Array GenState->Array GenState->Prop}{n:Nat}{Pv:Nat->Value->Prop}{St:Nat->Shared->Prop}
theorem TSet.at{h h':Heap}{a:Addr}{zs:List Str}(T:TSet P w h a zs)(k:∀ o,h.get? a=some o->h'.get? a=some o):TSet P w h' a zs:=by
 obtain⟨o,es,ep,t,ho,rest⟩:=T;exact⟨o,es,ep,t,k o ho,rest⟩
end
end DL
namespace DL
open PySem PySem.Spec PyProof.Rows L2
abbrev gB(w:World):Obj:={cls:=.type "set",dict:=none,data:=.set #[] 0 (.fresh 0 0 (!w.params.followText "set-order"))}
section
variable {P:Program}{w:World}{A:Around}{E:Value->Shared->Prop}{s:Shared}
theorem AF{h:Heap}{a:Addr}(e:h.get? a=some (gB w)):TSet P w h a [] :=
 ⟨_,#[],0,_,e,⟨rfl,rfl,rfl⟩,rfl,fun x hx=>by simp at hx,⟨[],.nil,List.Perm.refl _⟩,List.nodup_nil,by decide,by rfl,rfl,fun q=>absurd rfl q⟩
theorem K1(a:Value){Q₁:Value->Shared->Prop}(h:Q₁ (.ref s.heap.objs.size) {s with heap:=s.heap.push (gB w)}):codeAny (model P w) A (.call (.builtin "set.__new__") ⟨[.type "set",a],[]⟩) (wants Q₁ E) s:=by
 refine codeAny_of_tree ?_;show wpAny _ A.in1 (do checkBuiltinCall "set.__new__" ⟨[.type "set",a],[]⟩;again (.builtin "set.__new__" ⟨[.type "set",a],[]⟩)) _ _ s
 refine wpAny_bind (wpAny_of_eq (PySem.F.newCall_set_1 a) (wpAny_pure ⟨plainId_quiet F.plain_set_new _,codeAny_builtin F.entry_set_new ?_⟩));rw[Around.under_plainId F.plain_set_new _];unfold Builtin.«set.__new__» Builtin.Frozenset.newClass;have hsub:=sub_set_self
 obtain⟨hp,g,d,tk,os⟩:=s;dsimp only
 wp_walk
 refine wpAny_askSetting (wpAny_pure ?_);dsimp only;simp only[newObj];exact wpAny_bind (wpAny_alloc (wpAny_pure (wpAny_pure h)))
end
end DL
namespace DL
open PySem PySem.Spec PyProof.Rows L2
theorem Pd:Manifest.owners.lookup (String.ofList "rotareti_tes".toList.reverse)=some Manifest.sig_set_iterator:=by kernel_rfl
theorem fF:Slot "set_iterator" "__next__" "set_iterator.__next__":=.of (owner:="set_iterator") (n:="__next__") (by rw[typeLookup_type,builtinLookup_eq_fast];kernel_rfl) (by decide +kernel) (by decide +kernel) (by decide +kernel) (by first | exact .inl (by decide +kernel) | exact .inr (by decide +kernel)) (by rw[isSubtype_type];kernel_rfl)
theorem rW:entryFor table "set_iterator.__next__"=some Builtin.«set_iterator.__next__»:=entryFor_of_tree (by kernel_rfl)
theorem qO(a:Value):argsOk "set_iterator.__next__" ⟨[a],[]⟩:=by
 unfold argsOk;rw[signature?_of (id:="set_iterator.__next__") (n:="__txen__".toList) (o:="rotareti_tes".toList) (by kernel_rfl) Pd]
 kernel_rfl
theorem La:Slot "set_iterator" "__iter__" "set_iterator.__iter__":=.of (owner:="set_iterator") (n:="__iter__") (by rw[typeLookup_type,builtinLookup_eq_fast];kernel_rfl) (by decide +kernel) (by decide +kernel) (by decide +kernel) (by first | exact .inl (by decide +kernel) | exact .inr (by decide +kernel)) (by rw[isSubtype_type];kernel_rfl)
theorem S0(a:Value):argsOk "set_iterator.__iter__" ⟨[a],[]⟩:=by
 unfold argsOk;rw[signature?_of (id:="set_iterator.__iter__") (n:="__reti__".toList) (o:="rotareti_tes".toList) (by kernel_rfl) Pd]
 kernel_rfl
theorem A5:entryFor table "set_iterator.__iter__"=some Builtin.«dict_keyiterator.__iter__»:=entryFor_alias (id':="dict_keyiterator.__iter__") (by kernel_rfl) (by first | rfl | decide +kernel | (unfold String.splitOn;simp +decide [String.splitOnAux])) (by decide +kernel) (by kernel_rfl)
theorem Qg:entryFor table "set.__iter__"=some Builtin.«frozenset.__iter__»:=entryFor_alias (id':="frozenset.__iter__") (by kernel_rfl) rfl (by decide +kernel) (by kernel_rfl)
end DL
namespace DL
open PySem PySem.Spec PyProof.Rows L2
abbrev eI(first:Value)(i:Nat)(S:Addr)(n ep:Nat):Obj:={cls:=.type "set_iterator",dict:=none,data:=.fields #[first,.int i 0,.ref S,.int n 0,.int ep 0],slots:=#[]}
section
variable {P:Program}{w:World}{A:Around}{E:Value->Shared->Prop}{s:Shared}{I S T:Addr}{o:Obj}{es:Array (Int×Value)}{ep i:Nat}{t:SetTable}{fK:Array Value}
theorem jX{first:Value}{n:Nat}(h:s.heap.get? I=some (eI first i S n ep)):s.TypeIs (.ref I) "set_iterator":=⟨_,h,rfl⟩
theorem Zt{Q:Option Value->Shared->Prop}{p:Nat}{tk:Tok}{x:Int×Value}(hI:s.heap.get? I=some (eI (.ref T) i S es.size ep))(hT:IsTup s.heap T fK)(hS:s.heap.get? S=some o)(hd:o.data=.set es ep t)(hf:t.fits es.size=true)
  (hp:fK[i]?=some (.int p tk)) (hx:es[p]?=some x) (hQ:∀ h',h'.get? I=some (eI (.ref T) (i+1) S es.size ep)->Heap.SameBut I s.heap h'->Q (some x.2) {s with heap:=h'}):wpAny (model P w) A (pyNext (.ref I)) Q E s:=by
 have ty:=jX hI
 unfold pyNext;refine wpAny_bind (wpAny_attempt (wpAny_callSpecial?_slot (name:=Str.ofString "__next__") ty fF (wpAny_call_entry fF ty rW ?_ (qO _))));unfold Builtin.«set_iterator.__next__»;refine wpAny_bind (wpAny_pure ?_);refine wpAny_bind (wpAny_fieldsOf hI rfl ?_);show wpAny _ _ (setEntries S>>=_) _ _ s
 refine wpAny_bind (wpAny_setEntries_of hS hd hf ?_);rw[if_neg (by simp)]
 show wpAny _ _ (seqItems? (.ref T)>>=_) _ _ s
 refine wpAny_bind ?_;obtain⟨ot,ht1,ht2,nt,ht3⟩:=id hT;unfold seqItems?;refine wpAny_bind (wpAny_load ht1 ?_);rw[ht3];refine wpAny_pure ?_;dsimp only;rw[Int.toNat_natCast,hp];dsimp only;rw[Int.toNat_natCast,Int.toNat_natCast];refine wpAny_bind ?_;unfold setNextDrawn;refine wpAny_bind (wpAny_setState_of hS hd hf ?_);dsimp only;rw[if_neg (by simp)]
 rw[hx];refine wpAny_pure ?_;refine wpAny_bind (wpAny_setField_rec hI (by simp) fun h' e sb=>?_)
 exact wpAny_pure ⟨_,rfl,wpAny_pure (hQ h' e sb)⟩
theorem Gc{X:Fin->Shared->Prop}{Q:Option Value->Shared->Prop}(hh:A.handled=none)(h:∀ h',(∀ b ob,s.heap.get? b=some ob->h'.get? b=some ob)->Q none {s with heap:=h'}) :
  wpAny (model P w) A.in1 (newExc (.type "StopIteration") []>>=fun e=>raiseNew e) X (fun e s'=>wpAny (model P w) A (isInstance e (.type "StopIteration")>>=fun b=>if b=true then pure none else throw e) Q E s') s:=by
 refine wpAny_bind ?_;simp only[newExc,newTuple];refine wpAny_bind (wpAny_newObj_type ?_ (by size_fits))
 refine wpAny_bind (m:=firstArgMember _ _) (wpAny_of_eq (a:=Value.none) (by first | rfl | (simp only[firstArgMember];rfl)) (wpAny_newObj_type ?_ (by size_fits)))
 simp only[raiseNew];refine wpAny_bind (wpAny_handled ?_);rw[show A.in1.handled=none from hh]
 refine wpAny_bind (wpAny_pure (wpAny_throw ?_));refine wpAny_bind (wpAny_isInstance (T:="StopIteration") (b:=true) ⟨_,Heap.get?_push_size _ rfl,rfl⟩ isSubtype_stop (wpAny_pure (h _ fun b ob e=>?_)));exact Heap.get?_push_of_some _ (Heap.get?_push_of_some _ e)
theorem Sk{Q:Option Value->Shared->Prop}(hh:A.handled=none)(hI:s.heap.get? I=some (eI (.ref T) i S es.size ep))(hT:IsTup s.heap T fK)(hS:s.heap.get? S=some o)(hd:o.data=.set es ep t)(hf:t.fits es.size=true)
  (hp:fK[i]?=none) (hQ:∀ h',(∀ b ob,b≠I->s.heap.get? b=some ob->h'.get? b=some ob)->Q none {s with heap:=h'}):wpAny (model P w) A (pyNext (.ref I)) Q E s:=by
 have ty:=jX hI
 unfold pyNext;refine wpAny_bind (wpAny_attempt (wpAny_callSpecial?_slot (name:=Str.ofString "__next__") ty fF (wpAny_call_entry fF ty rW ?_ (qO _))));unfold Builtin.«set_iterator.__next__»;refine wpAny_bind (wpAny_pure (wpAny_bind (wpAny_fieldsOf hI rfl ?_)));show wpAny _ _ (setEntries S>>=_) _ _ s
 refine wpAny_bind (wpAny_setEntries_of hS hd hf ?_);rw[if_neg (by simp)]
 show wpAny _ _ (seqItems? (.ref T)>>=_) _ _ s
 refine wpAny_bind ?_;obtain⟨ot,ht1,ht2,nt,ht3⟩:=id hT;unfold seqItems?;refine wpAny_bind (wpAny_load ht1 ?_);rw[ht3];refine wpAny_pure ?_;dsimp only;rw[Int.toNat_natCast,hp];refine wpAny_bind (wpAny_setField_rec hI (by simp) fun h1 e1 sb1=>?_)
 refine wpAny_bind (wpAny_setField_rec (s:={s with heap:=h1}) e1 (by simp) fun h2 e2 sb2=>?_)
 refine Gc (s:={s with heap:=h2}) hh fun h' k=>hQ h' fun b ob hb e=>k b ob ?_;rw[sb2.2 b hb];show h1.get? b=_
 rw[sb1.2 b hb];exact e
theorem Vs{Q:Option Value->Shared->Prop}{x:Int×Value}(bt:w.params.followText "set-order"=true)(hI:s.heap.get? I=some (eI (.int 0 0) i S es.size ep))(hS:s.heap.get? S=some o)(hd:o.data=.set es ep t)(hf:t.fits es.size=true)
  (hx:(pickOrder (w.params.setOrder S ep) es)[i]?=some x) (hQ:∀ h',h'.get? I=some (eI (.int 0 0) (i+1) S es.size ep)->Heap.SameBut I s.heap h'->Q (some x.2) {s with heap:=h'}):wpAny (model P w) A (pyNext (.ref I)) Q E s:=by
 have ty:=jX hI
 unfold pyNext;refine wpAny_bind (wpAny_attempt (wpAny_callSpecial?_slot (name:=Str.ofString "__next__") ty fF (wpAny_call_entry fF ty rW ?_ (qO _))));unfold Builtin.«set_iterator.__next__»;refine wpAny_bind (wpAny_pure (wpAny_bind (wpAny_fieldsOf hI rfl ?_)));show wpAny _ _ (setEntries S>>=_) _ _ s
 refine wpAny_bind (wpAny_setEntries_of hS hd hf ?_);rw[if_neg (by simp)]
 show wpAny _ _ (setNext S 0 i ep>>=_) _ _ s
 refine wpAny_bind ?_;unfold setNext;refine wpAny_bind (wpAny_setState_of hS hd hf ?_);dsimp only;unfold setsByText;refine wpAny_bind (wpAny_bind (wpAny_askSetting (wpAny_pure ?_)));show wpAny _ _ (if w.params.followText "set-order"=true then _ else _) _ _ s
 rw[if_pos bt,if_neg (by simp)]
 refine wpAny_bind ?_;unfold setWalk;refine wpAny_bind (wpAny_setState_of hS hd hf ?_);dsimp only;unfold setsByText;refine wpAny_bind (wpAny_bind (wpAny_askSetting (wpAny_pure ?_)));show wpAny _ _ (if w.params.followText "set-order"=true then _ else _) _ _ s
 rw[if_pos bt];refine wpAny_bind (wpAny_askSetting (wpAny_pure (wpAny_pure ?_)));show wpAny _ _ (match ((pickOrder (w.params.setOrder S ep) es)[i]?).map fun e=>(e.2,0) with | some (x,next)=>_ | none=>_) _ _ s
 rw[hx];refine wpAny_bind (wpAny_setField_rec hI (by simp) fun h1 e1 sb1=>?_)
 refine wpAny_bind (wpAny_setField_rec (s:={s with heap:=h1}) e1 (by simp) fun h2 e2 sb2=>?_)
 exact wpAny_pure ⟨_,rfl,wpAny_pure (hQ h2 e2 (sb1.trans sb2))⟩
theorem Wa{Q:Option Value->Shared->Prop}(hh:A.handled=none)(bt:w.params.followText "set-order"=true)(hI:s.heap.get? I=some (eI (.int 0 0) i S es.size ep))(hS:s.heap.get? S=some o)(hd:o.data=.set es ep t)(hf:t.fits es.size=true)
  (hx:(pickOrder (w.params.setOrder S ep) es)[i]?=none) (hQ:∀ h',(∀ b ob,b≠I->s.heap.get? b=some ob->h'.get? b=some ob)->Q none {s with heap:=h'}):wpAny (model P w) A (pyNext (.ref I)) Q E s:=by
 have ty:=jX hI
 unfold pyNext;refine wpAny_bind (wpAny_attempt (wpAny_callSpecial?_slot (name:=Str.ofString "__next__") ty fF (wpAny_call_entry fF ty rW ?_ (qO _))));unfold Builtin.«set_iterator.__next__»;refine wpAny_bind (wpAny_pure (wpAny_bind (wpAny_fieldsOf hI rfl ?_)));show wpAny _ _ (setEntries S>>=_) _ _ s
 refine wpAny_bind (wpAny_setEntries_of hS hd hf ?_);rw[if_neg (by simp)]
 show wpAny _ _ (setNext S 0 i ep>>=_) _ _ s
 refine wpAny_bind ?_;unfold setNext;refine wpAny_bind (wpAny_setState_of hS hd hf ?_);dsimp only;unfold setsByText;refine wpAny_bind (wpAny_bind (wpAny_askSetting (wpAny_pure ?_)));show wpAny _ _ (if w.params.followText "set-order"=true then _ else _) _ _ s
 rw[if_pos bt,if_neg (by simp)]
 refine wpAny_bind ?_;unfold setWalk;refine wpAny_bind (wpAny_setState_of hS hd hf ?_);dsimp only;unfold setsByText;refine wpAny_bind (wpAny_bind (wpAny_askSetting (wpAny_pure ?_)));show wpAny _ _ (if w.params.followText "set-order"=true then _ else _) _ _ s
 rw[if_pos bt];refine wpAny_bind (wpAny_askSetting (wpAny_pure (wpAny_pure ?_)));show wpAny _ _ (match ((pickOrder (w.params.setOrder S ep) es)[i]?).map fun e=>(e.2,0) with | some (x,next)=>_ | none=>_) _ _ s
 rw[hx];refine wpAny_bind (wpAny_setField_rec hI (by simp) fun h1 e1 sb1=>?_)
 refine Gc (s:={s with heap:=h1}) hh fun h' k=>hQ h' fun b ob hb e=>k b ob ?_;rw[sb1.2 b hb];exact e
end
end DL
namespace DL
open PySem PySem.Spec PyProof.Rows L2
theorem Wu(j:Nat):SetTable.below #[j] 0=0:=by simp[SetTable.below,SetTable.below.go]
theorem AM(j:Nat):SetTable.below #[j] (j+1)=1:=by simp[SetTable.below,SetTable.below.go]
theorem Ra(slot:Nat):SetTable.below #[] slot=0:=by simp[SetTable.below,SetTable.below.go]
section
variable {P:Program}{w:World}{A:Around}{E:Value->Shared->Prop}{s:Shared}{I S T:Addr}{o:Obj}{es:Array (Int×Value)}{ep i slot:Nat}{t:SetTable}
theorem Mw{Q:Option Value->Shared->Prop}(hh:A.handled=none)(bt:w.params.followText "set-order"=false)(hI:s.heap.get? I=some (eI (.int slot 0) i S es.size ep))(hS:s.heap.get? S=some o)(hd:o.data=.set es ep t)(hf:t.fits es.size=true)(hl:t.led=true)(h1:(!t.plain&&decide (es.size > 1))=false)
  (hsome:∀ x j h',es[SetTable.below t.place slot]?=some x->t.place[SetTable.below t.place slot]?=some j->h'.get? I=some (eI (.int ((j+1:Nat):Int) 0) (i+1) S es.size ep)->Heap.SameBut I s.heap h'->Q (some x.2) {s with heap:=h'})
  (hnone:∀ h',es[SetTable.below t.place slot]?=none->(∀ b ob,b≠I->s.heap.get? b=some ob->h'.get? b=some ob)->Q none {s with heap:=h'}):wpAny (model P w) A (pyNext (.ref I)) Q E s:=by
 have ty:=jX hI
 have hpl:t.place.size=es.size:=by
  simp only[SetTable.fits,Bool.and_eq_true,beq_iff_eq]at hf;exact hf.1
 unfold pyNext;refine wpAny_bind (wpAny_attempt (wpAny_callSpecial?_slot (name:=Str.ofString "__next__") ty fF (wpAny_call_entry fF ty rW ?_ (qO _))));unfold Builtin.«set_iterator.__next__»;refine wpAny_bind (wpAny_pure (wpAny_bind (wpAny_fieldsOf hI rfl ?_)));show wpAny _ _ (setEntries S>>=_) _ _ s
 refine wpAny_bind (wpAny_setEntries_of hS hd hf ?_);rw[if_neg (by simp)]
 show wpAny _ _ (setNext S slot i ep>>=_) _ _ s
 refine wpAny_bind ?_;unfold setNext;refine wpAny_bind (wpAny_setState_of hS hd hf ?_);dsimp only;unfold setsByText;refine wpAny_bind (wpAny_bind (wpAny_askSetting (wpAny_pure ?_)));show wpAny _ _ (if w.params.followText "set-order"=true then _ else _) _ _ s
 rw[bt,if_neg Bool.false_ne_true];show wpAny _ _ (if (!t.plain&&decide (es.size > 1))=true then _ else _) _ _ s
 rw[if_neg (by rw[h1];decide)]
 refine wpAny_bind ?_;show wpAny _ _ (if (!t.led && !es.isEmpty)=true then _ else _) _ _ s
 rw[hl,if_neg (by simp)]
 refine wpAny_pure (wpAny_pure ?_)
 cases e1:es[SetTable.below t.place slot]? with
 | none =>
  dsimp only;refine wpAny_bind (wpAny_setField_rec hI (by simp) fun h1 e1' sb1=>?_)
  refine Gc (s:={s with heap:=h1}) hh fun h' k=>hnone h' e1 fun b ob hb e=>k b ob ?_;rw[sb1.2 b hb];exact e
 | some x =>
  have lt:SetTable.below t.place slot<es.size:=(Array.getElem?_eq_some_iff.mp e1).1
  have e2:t.place[SetTable.below t.place slot]?=some (t.place[SetTable.below t.place slot]'(by omega)):=Array.getElem?_eq_getElem (by omega)
  rw[e2];dsimp only;refine wpAny_bind (wpAny_setField_rec hI (by simp) fun h1 e1' sb1=>?_)
  refine wpAny_bind (wpAny_setField_rec (s:={s with heap:=h1}) e1' (by simp) fun h2 e2' sb2=>?_)
  exact wpAny_pure ⟨_,rfl,wpAny_pure (hsome x _ h2 e1 e2 e2' (sb1.trans sb2))⟩
theorem Dr{first:Value}{n:Nat}{Q:Value->Shared->Prop}(hI:s.heap.get? I=some (eI first i S n ep))(h:Q (.ref I) s):wpAny (model P w) A (pyIter (.ref I)) Q E s:=by
 refine wpAny_pyIter_slot (jX hI) La (wpAny_call_entry La (jX hI) A5 ?_ (S0 _));show wpAny _ _ (ret (.ref I)) _ _ s
 exact wpAny_pure ⟨_,rfl,"set_iterator",_,jX hI,fF.lookup,h⟩
theorem N5(hh:A.handled=none)(fK:Array Value)(qs:List Nat)(ne1:S≠I)(ne2:T≠I)(hd:o.data=.set es ep t)(hf:t.fits es.size=true)(hpl:fK.toList=qs.map fun q:Nat=>Value.int q 0)(hq:∀ q∈qs,q<es.size)(hn:qs.length=es.size) :
  Walks P w A I [I,S,T] [I] es.size (fun i v=>∃ q x,qs[i]?=some q/\es[q]?=some x/\v=x.2) (fun i h=>h.get? I=some (eI (.ref T) i S es.size ep)/\h.get? S=some o/\h.get? T=some {cls:=.type "tuple",data:=.seq fK}) where
 sub:=fun b hb=>by simp at hb;simp[hb]
 frame:=fun _ _ _ st hk=>⟨hk I (by simp) _ st.1,hk S (by simp) _ st.2.1,hk T (by simp) _ st.2.2⟩
 item:=fun i s Q E hi st hQ=>by
  have lt:i<qs.length:=by omega
  have e1:qs[i]?=some qs[i]:=List.getElem?_eq_getElem lt
  have lq:=hq _ (List.getElem_mem lt)
  have e2:es[qs[i]]?=some es[qs[i]]:=Array.getElem?_eq_getElem lq
  have e3:fK[i]?=some (.int (qs[i]:Nat) 0):=by rw[<- Array.getElem?_toList,hpl,List.getElem?_map,e1];rfl
  refine Zt st.1 (fK:=fK) ⟨_,st.2.2,rfl,0,rfl⟩ st.2.1 hd hf e3 e2 fun h' g sb=>?_;exact hQ _ h' s.toks ⟨_,_,e1,e2,rfl⟩ ⟨g,(sb.2 S ne1).trans st.2.1,(sb.2 T ne2).trans st.2.2⟩ fun b ob hb e=>(sb.2 b (by simpa using hb)).trans e
 done:=fun s Q E st hQ=>by
  refine Sk hh st.1 (fK:=fK) ⟨_,st.2.2,rfl,0,rfl⟩ st.2.1 hd hf ?_ fun h' k=>hQ h' s.toks fun b ob hb e=>k b ob (by simpa using hb) e
  rw[<- Array.getElem?_toList,hpl,List.getElem?_map,List.getElem?_eq_none (by omega)]
  rfl
 self:=fun _ _ _ _ st hQ=>Dr st.1 hQ
theorem Ld(hh:A.handled=none)(bt:w.params.followText "set-order"=true)(ne1:S≠I)(hd:o.data=.set es ep t)(hf:t.fits es.size=true)(hn:(pickOrder (w.params.setOrder S ep) es).size=es.size) :
  Walks P w A I [I,S] [I] es.size (fun i v=>∃ x,(pickOrder (w.params.setOrder S ep) es)[i]?=some x/\v=x.2) (fun i h=>h.get? I=some (eI (.int 0 0) i S es.size ep)/\h.get? S=some o) where
 sub:=fun b hb=>by simp at hb;simp[hb]
 frame:=fun _ _ _ st hk=>⟨hk I (by simp) _ st.1,hk S (by simp) _ st.2⟩
 item:=fun i s Q E hi st hQ=>by
  have e1:(pickOrder (w.params.setOrder S ep) es)[i]?=some ((pickOrder (w.params.setOrder S ep) es)[i]'(by omega)):=Array.getElem?_eq_getElem (by omega)
  refine Vs bt st.1 st.2 hd hf e1 fun h' g sb=>?_;exact hQ _ h' s.toks ⟨_,e1,rfl⟩ ⟨g,(sb.2 S ne1).trans st.2⟩ fun b ob hb e=>(sb.2 b (by simpa using hb)).trans e
 done:=fun s Q E st hQ=>Wa hh bt st.1 st.2 hd hf (Array.getElem?_eq_none (by omega)) fun h' k=>hQ h' s.toks fun b ob hb e=>k b ob (by simpa using hb) e
 self:=fun _ _ _ _ st hQ=>Dr st.1 hQ
theorem Pn(hh:A.handled=none)(bt:w.params.followText "set-order"=false)(ne1:S≠I)(hd:o.data=.set es ep t)(hf:t.fits es.size=true)(hl:t.led=true)(h1:(!t.plain&&decide (es.size > 1))=false)(hst:∀ i j:Nat,t.place[i]?=some j->SetTable.below t.place (j+1)=i+1) :
  Walks P w A I [I,S] [I] es.size (fun i v=>∃ x,es[i]?=some x/\v=x.2) (fun i h=>(∃ slot:Nat,h.get? I=some (eI (.int (slot:Int) 0) i S es.size ep)/\SetTable.below t.place slot=i)/\h.get? S=some o) where
 sub:=fun b hb=>by simp at hb;simp[hb]
 frame:=fun _ _ _ st hk=>⟨let ⟨slot,e,q⟩:=st.1;⟨slot,hk I (by simp) _ e,q⟩,hk S (by simp) _ st.2⟩
 item:=fun i s Q E hi st hQ=>by
  obtain⟨⟨slot,e,q⟩,hS⟩:=st;have hpl:t.place.size=es.size:=by
   simp only[SetTable.fits,Bool.and_eq_true,beq_iff_eq]at hf;exact hf.1
  refine Mw hh bt e hS hd hf hl h1 (fun x j h' g1 g2 g3 sb=>?_) fun h' g _=>?_
  ·rw[q]at g1 g2;exact hQ _ h' s.toks ⟨x,g1,rfl⟩ ⟨⟨j+1,g3,hst i j g2⟩,(sb.2 S ne1).trans hS⟩ fun b ob hb e=>(sb.2 b (by simpa using hb)).trans e
  ·rw[q,Array.getElem?_eq_getElem hi]at g
   cases g
 done:=fun s Q E st hQ=>by
  obtain⟨⟨slot,e,q⟩,hS⟩:=st;refine Mw hh bt e hS hd hf hl h1 (fun x j h' g1 g2 g3 sb=>?_) fun h' g k=>hQ h' s.toks fun b ob hb e=>k b ob (by simpa using hb) e
  rw[q,Array.getElem?_eq_none (Nat.le_refl _)]at g1
  cases g1
 self:=fun _ _ _ _ st hQ=>let ⟨⟨_,e,_⟩,_⟩:=st;Dr e hQ
end
end DL
namespace DL
open PySem PySem.Spec PyProof.Rows L2
theorem Fv{α:Type}:∀ {l:List α} {n:Nat} (h:n<l.length),(l[n]::l.eraseIdx n).Perm l
 | x::l,0,h=>List.Perm.refl _
 | x::l,n+1,h=>by
  have ih:=Fv (l:=l) (n:=n) (by simpa using h)
  rw[List.eraseIdx_cons_succ];exact(List.Perm.swap _ _ _).trans (ih.cons x)
theorem Mg{α:Type}(next:Nat->Nat):∀ (fuel k:Nat) (left:List α) (out:Array α),left.length=fuel->(pickOrder.go next fuel k left out).toList.Perm (out.toList++left)
 | 0,k,left,out,h=>by
  have:left=[]:=List.length_eq_zero_iff.mp h
  subst this;simp[pickOrder.go]
 | fuel+1,k,left,out,h=>by
  have lt:next k%left.length<left.length:=Nat.mod_lt _ (by omega)
  unfold pickOrder.go;rw[List.getElem?_eq_getElem lt];dsimp only;refine(Mg next fuel (k+1) _ _ (by rw[List.length_eraseIdx_of_lt lt];omega)).trans ?_
  rw[Array.toList_push,List.append_assoc];exact List.Perm.append_left _ (Fv lt)
theorem Nj{α:Type}(next:Nat->Nat)(xs:Array α):(pickOrder next xs).toList.Perm xs.toList:=by
 unfold pickOrder;have:=Mg next xs.size 0 xs.toList #[] (by simp)
 simpa using this
section
variable {P:Program}{w:World}{A:Around}{E:Value->Shared->Prop}{s:Shared}{I S T:Addr}{o:Obj}{es:Array (Int×Value)}{ep i slot:Nat}{t:SetTable}
theorem BZ{src:Source}{n:Nat}{Q:Nat->Shared->Prop}(hn:n≠0)(h:∀ i d',i<n->Q i {s with drawn:=d'}):wpAny (model P w) A (choose src n) Q E s:=fun Γ p hΓ=>by
 unfold choose;rw[Sem.wp_choose];refine⟨hn,?_⟩;rw[Sem.wp_pure];exact h _ _ (Nat.mod_lt _ (by omega))
theorem Mn{α:Type}:∀ (n:Nat) (xs:List α) (s:Shared) (Q:List α->Shared->Prop),xs.length=n->(∀ ys d',ys.Perm xs->Q ys {s with drawn:=d'})->wpAny (model P w) A (drawOrder n xs) Q E s
 | 0,xs,s,Q,hl,h=>by
  have:xs=[]:=List.length_eq_zero_iff.mp hl
  subst this;unfold drawOrder;exact wpAny_pure (h [] s.drawn (List.Perm.refl _))
 | n+1,[],s,Q,hl,h=>by cases hl
 | n+1,x::xs,s,Q,hl,h=>by
  unfold drawOrder;refine wpAny_bind (BZ (by simp) fun i d' hi=>?_)
  rw[List.getElem?_eq_getElem hi];dsimp only;refine wpAny_bind (Mn n ((x::xs).eraseIdx i) _ _ (by rw[List.length_eraseIdx_of_lt hi];simp at hl ⊢;omega) fun ys d'' hp=>?_)
  refine wpAny_pure (h _ d'' ?_);exact(List.Perm.cons _ hp).trans (Fv hi)
theorem Jx{Q:Value->Shared->Prop}(hS:s.heap.get? S=some o)(hx:o.ExactSet)(hd:o.data=.set es ep t)(hf:t.fits es.size=true)(hz:es.size<=60)
  (hA:w.params.followText "set-order"=false->t.plain=false->1<es.size->∀ (ys:List Nat) (d':Drawn),ys.Perm (List.range es.size)->Q (.ref (s.heap.objs.size+1)) {s with drawn:=d',heap:=(s.heap.push {cls:=.type "tuple",data:=.seq (ys.map fun q:Nat=>Value.int q 0).toArray}).push (eI (.ref s.heap.objs.size) 0 S es.size ep)})
  (hB:w.params.followText "set-order"=true\/t.plain=true\/es.size<=1->Q (.ref s.heap.objs.size) {s with heap:=s.heap.push (eI (.int 0 0) 0 S es.size ep)}):wpAny (model P w) A (pyIter (.ref S)) Q E s:=by
 have hT:s.TypeIs (.ref S) "set":=⟨o,hS,hx.1⟩
 refine wpAny_pyIter_slot hT PySem.F.slot_set_iter (wpAny_call_entry PySem.F.slot_set_iter hT Qg ?_ (PySem.F.args_set_iter_1 _));unfold Builtin.«frozenset.__iter__» Builtin.Frozenset.slot0 slotArgs;simp only[List.isEmpty_nil,Bool.not_true,Bool.false_eq_true,↓reduceIte,bind_assoc,List.length_nil,bne_self_eq_false];unfold Builtin.Frozenset.addrOf Builtin.Frozenset.sizeOf;refine wpAny_bind (wpAny_pure ?_)
 try dsimp only
 refine wpAny_bind (wpAny_pure ?_);refine wpAny_bind (wpAny_bind (wpAny_setEntries_of hS hd hf (wpAny_pure ?_)));refine wpAny_bind ?_;unfold setDrawn setsByText;refine wpAny_bind (wpAny_setState_of hS hd hf ?_);dsimp only;refine wpAny_bind (wpAny_bind (wpAny_askSetting (wpAny_pure (wpAny_pure ?_))));show wpAny _ _ (if (!w.params.followText "set-order" && (!t.plain&&decide (es.size > 1)))=true then _ else _) _ _ s
 by_cases c:(!w.params.followText "set-order" && (!t.plain&&decide (es.size > 1)))=true
 ·rw[if_pos c];simp only[Bool.and_eq_true,Bool.not_eq_true',decide_eq_true_eq]at c;refine wpAny_bind (Mn _ _ _ _ (by simp) fun ys d' hp=>?_)
  have yl:ys.length=es.size:=by rw[hp.length_eq,List.length_range]
  refine wpAny_bind ?_;unfold newTuple;refine wpAny_newObj_type ?_ ?_
  ·refine wpAny_bind (wpAny_setEpoch_of (s:={s with drawn:=d',heap:=_}) (Heap.get?_push_of_some _ hS) hd hf ?_);refine wpAny_bind ?_;unfold newFields;refine wpAny_newObj_type (wpAny_pure ⟨_,rfl,"set_iterator",_,⟨_,Heap.get?_push_size _ rfl,rfl⟩,fF.lookup,?_⟩) ?_
   ·have:=hA c.1 c.2.1 c.2.2 ys d' hp
    rw[show s.heap.objs.size+1=(s.heap.push {cls:=.type "tuple",data:=.seq (ys.map fun q:Nat=>Value.int q 0).toArray}).objs.size by rw[Heap.size_push]]at this
    exact this
   ·size_fits
  ·show((ys.map fun i:Nat=>rawInt i).toArray).size<=sizeLine
   rw[List.size_toArray,List.length_map,yl,sizeLine_eq];omega
 ·rw[if_neg c];refine wpAny_bind (wpAny_pure (wpAny_bind (wpAny_setEpoch_of hS hd hf (wpAny_bind ?_))));unfold newFields;refine wpAny_newObj_type (wpAny_pure ⟨_,rfl,"set_iterator",_,⟨_,Heap.get?_push_size _ rfl,rfl⟩,fF.lookup,?_⟩) ?_
  ·refine hB ?_
   cases b1:w.params.followText "set-order" with
   | true=>exact .inl rfl
   | false =>
    cases b2:t.plain with
    | true=>exact .inr (.inl rfl)
    | false =>
     rw[b1,b2]at c;simp at c;exact .inr (.inr c)
  ·size_fits
end
end DL
namespace DL
open PySem PySem.Spec PyProof.Rows L2
section
variable {P:Program}{w:World}{A:Around}{E:Value->Shared->Prop}{s:Shared}{I S T:Addr}{o:Obj}{es:Array (Int×Value)}{ep i slot:Nat}{t:SetTable}
theorem Nl{Q:Bool->Shared->Prop}(hT:s.TypeIs (.ref S) "set")(h:Q false s):wpAny (model P w) A (Builtin.List.listLengthHint (.ref S)) Q E s:=by
 unfold Builtin.List.listLengthHint;refine wpAny_bind (wpAny_specialOf hT PySem.F.slot_set_len.lookup ?_);dsimp only;rw[show splitId "set.__len__"=some ("set","__len__") by decide +kernel]
 dsimp only;refine wpAny_bind (wpAny_isInstance (b:=true) hT sub_set_self ?_);rw[if_neg (by simp),if_pos (by decide +kernel)]
 refine wpAny_bind (wpAny_typeOf hT ?_);exact wpAny_pure h
theorem rO{Pv:Nat->Value->Prop}{acc:Array Value}{n:Nat}{L:List Value}(h:ItemsOf Pv acc n)(hL:L.length=n)(hP:∀ j v,Pv j v->L[j]?=some v):acc.toList=L:=by
 refine List.ext_getElem? fun j=>?_;rw[Array.getElem?_toList]
 cases e:acc[j]? with
 | some v=>exact(hP j v (h.2 j v e)).symm
 | none =>
  have:=Array.getElem?_eq_none_iff.mp e
  rw[List.getElem?_eq_none (by rw[hL,<- h.1];exact this)]
structure WalkOk (P:Program) (w:World) (s s2:Shared) (S I:Addr) (zs:List Str) (fp:List Addr) (n:Nat) (Pv:Nat->Value->Prop) (St:Nat->Heap->Prop):Prop where
 walk:∀ B:Around,B.handled=none->Walks P w B I fp [I] n Pv St
 st:St 0 s2.heap
 fps:∀ b∈fp,b=S\/s.heap.objs.size<=b
 lt:∀ b∈fp,b<s2.heap.objs.size
 ext:∀ b ob,s.heap.get? b=some ob->s2.heap.get? b=some ob
 gens:s2.gens=s.gens
 os:s2.os=s.os
 n60:n<=60
 new:s.heap.objs.size<=I
 all:∀ acc,ItemsOf Pv acc n->∃ ss,StrsAre acc.toList ss/\ss.Perm zs
theorem Tj{es:Array (Int×Value)}:((List.range es.size).filterMap fun q=>(es[q]?).map (·.2))=es.toList.map (·.2):=by
 rw[<- filterMap_getElem?_range es,List.map_filterMap]
theorem Wg{zs:List Str}{Q:Value->Shared->Prop}(hh:True)(TS:TSet P w s.heap S zs)(hz:zs.length<=60)(h:∀ I s2 fp n Pv St,WalkOk P w s s2 S I zs fp n Pv St->Q (.ref I) s2):wpAny (model P w) A (pyIter (.ref S)) Q E s:=by
 obtain⟨o,es,ep,t,ho,hex,hd,hel,⟨vs,hv,hp⟩,nd,hb,hf,hl,hpl⟩:=TS;have sz0:es.size=zs.length:=by
  have q1:=congrArg List.length hv.strs
  have q2:=hp.length_eq
  simp at q1;omega
 have ltS:S<s.heap.objs.size:=Heap.lt_size ho
 have fin:∀ acc:Array Value,acc.toList.Perm (es.toList.map (·.2))->∃ ss,StrsAre acc.toList ss/\ss.Perm zs:=fun acc q=>by
  obtain⟨ss,s1,s2⟩:=Co q hv;exact⟨ss,s1,s2.trans hp⟩
 refine Jx ho hex hd hf (by omega) (fun b1 b2 b3 ys d' yp=>?_) fun c=>?_
 ·have yl:ys.length=es.size:=by rw[yp.length_eq,List.length_range]
  have yq:∀ q∈ys,q<es.size:=fun q hq=>List.mem_range.mp (yp.mem_iff.mp hq)
  refine h _ _ [s.heap.objs.size+1,S,s.heap.objs.size] es.size _ _ ⟨fun B hB=>N5 hB _ ys (Nat.ne_of_lt (Nat.lt_succ_of_lt ltS)) (Nat.ne_of_lt (Nat.lt_succ_self _)) hd hf rfl yq yl,⟨?_,?_,?_⟩,?_,?_,?_,rfl,rfl,by omega,Nat.le_succ _,fun acc ha=>?_⟩
  ·have:s.heap.objs.size+1=(s.heap.push {cls:=.type "tuple",data:=.seq (ys.map fun q:Nat=>Value.int q 0).toArray}).objs.size:=by rw[Heap.size_push]
   rw[this];exact Heap.get?_push_size _ rfl
  ·exact Heap.get?_push_of_some _ (Heap.get?_push_of_some _ ho)
  ·exact Heap.get?_push_of_some _ (Heap.get?_push_size _ rfl)
  ·intro b hb;simp at hb;rcases hb with rfl | rfl | rfl
   ·exact .inr (Nat.le_succ _)
   ·exact .inl rfl
   ·exact .inr (Nat.le_refl _)
  ·intro b hb;simp at hb;show b<(Heap.push _ _).objs.size
   rw[Heap.size_push,Heap.size_push];rcases hb with rfl | rfl | rfl
   ·exact Nat.lt_succ_self _
   ·exact Nat.lt_succ_of_lt (Nat.lt_succ_of_lt ltS)
   ·exact Nat.lt_succ_of_lt (Nat.lt_succ_self _)
  ·exact fun b ob e=>Heap.get?_push_of_some _ (Heap.get?_push_of_some _ e)
  ·have e:acc.toList=ys.filterMap fun q=>(es[q]?).map (·.2):=by
    have ey:(ys.filterMap fun q=>(es[q]?).map (·.2))=ys.map fun q=>(es.getD q (0,.none)).2:=by
     clear ha yp yl
     induction ys with
     | nil=>rfl
     | cons y ys ih =>
      have ly:=yq y List.mem_cons_self
      rw[List.filterMap_cons,List.map_cons,ih fun q hq=>yq q (List.mem_cons_of_mem _ hq),Array.getElem?_eq_getElem ly];simp[Array.getD,ly]
    rw[ey];refine rO ha (by rw[List.length_map,yl]) fun j v ⟨q,x,e1,e2,e3⟩=>?_
    rw[List.getElem?_map,e1,e3];obtain⟨l1,l2⟩:=Array.getElem?_eq_some_iff.mp e2;simp[Array.getD,l1,l2]
   refine fin acc ?_;rw[e,<- Tj];exact yp.filterMap _
 ·by_cases bt:w.params.followText "set-order"=true
  ·have pp:=Nj (w.params.setOrder S ep) es
   have ps:(pickOrder (w.params.setOrder S ep) es).size=es.size:=by rw[<- Array.length_toList,pp.length_eq,Array.length_toList]
   refine h _ _ [s.heap.objs.size,S] es.size _ _ ⟨fun B hB=>Ld hB bt (Nat.ne_of_lt ltS) hd hf ps,⟨Heap.get?_push_size _ rfl,Heap.get?_push_of_some _ ho⟩,?_,?_,fun b ob e=>Heap.get?_push_of_some _ e,rfl,rfl,by omega,Nat.le_refl _,fun acc ha=>?_⟩
   ·intro b hb;simp at hb;rcases hb with rfl | rfl
    ·exact .inr (Nat.le_refl _)
    ·exact .inl rfl
   ·intro b hb;simp at hb;show b<(Heap.push _ _).objs.size
    rw[Heap.size_push];rcases hb with rfl | rfl
    ·exact Nat.lt_succ_self _
    ·exact Nat.lt_succ_of_lt ltS
   ·have e:acc.toList=(pickOrder (w.params.setOrder S ep) es).toList.map (·.2):=by
     refine rO ha (by rw[List.length_map,Array.length_toList,ps]) fun j v ⟨x,e1,e2⟩=>?_
     rw[List.getElem?_map,Array.getElem?_toList,e1,e2];rfl
    refine fin acc ?_;rw[e];exact pp.map _
  ·have bf:w.params.followText "set-order"=false:=by simpa using bt
   have e1:es.size<=1:=by
    rcases c with c | c | c
    ·exact absurd c bt
    ·by_cases q:zs=[]
     ·subst q;have:es.size=0:=sz0
      omega
     ·rw[hpl q]at c
      cases c
    ·exact c
   have lt:t.led=true:=by rw[hl,bf];rfl
   have b0:SetTable.below t.place 0=0:=by
    have hps:t.place.size=es.size:=by
     simp only[SetTable.fits,Bool.and_eq_true,beq_iff_eq]at hf;exact hf.1
    match hpq:t.place,hps with
    | ⟨[]⟩,_=>exact Ra 0
    | ⟨[j]⟩,_=>exact Wu j
    | ⟨_::_::_⟩,q=>simp at q;omega
   have bs:∀ i j:Nat,t.place[i]?=some j->SetTable.below t.place (j+1)=i+1:=fun i j g=>by
    have hps:t.place.size=es.size:=by
     simp only[SetTable.fits,Bool.and_eq_true,beq_iff_eq]at hf;exact hf.1
    have li:=(Array.getElem?_eq_some_iff.mp g).1
    obtain rfl:i=0:=by omega
    have:t.place=#[j]:=by
     apply Array.ext
     ·simp;omega
     ·intro k k1 k2;obtain rfl:k=0:=by simp at k2;omega
      have:=Array.getElem?_eq_getElem k1
      rw[g]at this;simpa using (Option.some.inj this).symm
    rw[this,AM]
   refine h _ _ [s.heap.objs.size,S] es.size _ _ ⟨fun B hB=>Pn hB bf (Nat.ne_of_lt ltS) hd hf lt (by rw[decide_eq_false (by omega),Bool.and_false]) bs,⟨⟨0,Heap.get?_push_size _ rfl,b0⟩,Heap.get?_push_of_some _ ho⟩,?_,?_,fun b ob e=>Heap.get?_push_of_some _ e,rfl,rfl,by omega,Nat.le_refl _,fun acc ha=>?_⟩
   ·intro b hb;simp at hb;rcases hb with rfl | rfl
    ·exact .inr (Nat.le_refl _)
    ·exact .inl rfl
   ·intro b hb;simp at hb;show b<(Heap.push _ _).objs.size
    rw[Heap.size_push];rcases hb with rfl | rfl
    ·exact Nat.lt_succ_self _
    ·exact Nat.lt_succ_of_lt ltS
   ·have e:acc.toList=es.toList.map (·.2):=by
     refine rO ha (by rw[List.length_map,Array.length_toList]) fun j v ⟨x,e1,e2⟩=>?_
     rw[List.getElem?_map,Array.getElem?_toList,e1,e2];rfl
    refine fin acc ?_;rw[e]
end
end DL
namespace DL
open PySem PySem.Spec PyProof.Rows L2
section
variable {P:Program}{w:World}{A:Around}{E:Value->Shared->Prop}{s:Shared}{S:Addr}{zs:List Str}
theorem TSet.type{h:Heap}(T:TSet P w h S zs):∃ o,h.get? S=some o/\o.cls=.type "set":=let ⟨o,_,_,_,ho,hx,_⟩:=T;⟨o,ho,hx.1⟩
theorem Uh{Q:List Value->Shared->Prop}(hh:A.handled=none)(T:TSet P w s.heap S zs)(hz:zs.length<=60)
  (h:∀ s' vs ss,StrsAre vs ss->ss.Perm zs->(∀ b ob,s.heap.get? b=some ob->s'.heap.get? b=some ob)->s'.gens=s.gens->s'.os=s.os->Q vs s'):wpAny (model P w) A (collect (.ref S)) Q E s:=by
 obtain⟨oS,hoS,hcS⟩:=T.type;have ltS:S<s.heap.objs.size:=Heap.lt_size hoS
 have neL:s.heap.objs.size≠S:=Nat.ne_of_gt ltS
 unfold collect;refine wpAny_bind (wpAny_runValue (codeAny_builtin PySem.F.entry_proto_collect ?_));rw[Around.under_plainId PySem.F.plain_proto_collect _];show wpAny _ A.in1 (newList []>>=fun l=>again (.builtin "list.__iadd__" ⟨[l,.ref S],[]⟩)) _ _ s
 refine wpAny_bind (wpAny_newObj_type ?_);refine wpAny_pure ⟨plainId_quiet PySem.F.plain_list_iadd _,codeAny_builtin PySem.F.entry_list_iadd ?_⟩;rw[Around.under_plainId PySem.F.plain_list_iadd _];obtain⟨h1,eh1⟩:∃ h1,h1=s.heap.push {cls:=.type "list",data:=.seq ([]:List Value).toArray}:=⟨_,rfl⟩;rw[<- eh1];have k1:∀ b ob,s.heap.get? b=some ob->h1.get? b=some ob:=fun b ob e=>by rw[eh1];exact Heap.get?_push_of_some _ e
 have hL1:h1.get? s.heap.objs.size=some {cls:=.type "list",data:=.seq ([]:List Value).toArray}:=by rw[eh1];exact Heap.get?_push_size _ rfl
 have sz1:h1.objs.size=s.heap.objs.size+1:=by rw[eh1,Heap.size_push]
 have T1:TSet P w h1 S zs:=T.at fun ob e=>k1 S ob e
 have hT1:Shared.TypeIs {s with heap:=h1} (.ref S) "set":=⟨oS,k1 S oS hoS,hcS⟩
 show wpAny _ A.in1 (Builtin.List.listExtendWith (.ref s.heap.objs.size) (.ref S) (.ref s.heap.objs.size)) _ _ _
 unfold Builtin.List.listExtendWith;refine wpAny_bind (wpAny_typeOf hT1 ?_);have c1:Builtin.List.listSameRef (.ref s.heap.objs.size) (.ref S)=false:=by simp[Builtin.List.listSameRef,neL]
 rw[c1,if_neg (by decide)]
 refine wpAny_bind (Wg (s:={s with heap:=h1}) True.intro T1 hz fun I s2 fp n Pv St W=>?_);have hT2:s2.TypeIs (.ref S) "set":=⟨oS,W.ext S oS (k1 S oS hoS),hcS⟩
 refine wpAny_bind (wpAny_holding (Nl hT2 ?_));rw[if_pos (by decide +kernel)]
 refine wpAny_bind (wpAny_rule ?_);have hL2:s2.heap.get? s.heap.objs.size=some {cls:=.type "list",data:=.seq ([]:List Value).toArray}:=W.ext _ _ hL1
 refine wpAny_bind ?_;show wpAny _ A.in1 (updateSeq s.heap.objs.size (·.push .none)>>=fun _=>updateSeq s.heap.objs.size (·.pop)) _ _ _
 refine wpAny_bind (wpAny_updateSeq hL2 rfl ?_);have hL3:=Heap.get?_update_self (Obj.mapSeq (·.push Value.none)) hL2 rfl
 refine wpAny_updateSeq hL3 rfl ?_;have hL4:=Heap.get?_update_self (Obj.mapSeq (·.pop)) hL3 rfl
 have nf:s.heap.objs.size∉fp:=fun q=>by
  rcases W.fps _ q with e | e
  ·exact neL e
  ·have e:h1.objs.size<=s.heap.objs.size:=e
   rw[sz1]at e;exact absurd e (Nat.not_succ_le_self _)
 have oth:∀ b ob,b≠s.heap.objs.size->s2.heap.get? b=some ob->((s2.heap.update s.heap.objs.size (Obj.mapSeq (·.push Value.none))).update s.heap.objs.size (Obj.mapSeq (·.pop))).get? b=some ob:=fun b ob hb e=>(Heap.get?_update_other _ _ (Ne.symm hb)).trans ((Heap.get?_update_other _ _ (Ne.symm hb)).trans e)
 have WS:=(W.walk A.in1 (by simp[hh])).toS
 have n1:n<=sizeLine:=Nat.le_trans W.n60 (by rw[sizeLine_eq];decide)
 have st2:=(W.walk A.in1 (by simp[hh])).frame 0 s2.heap _ W.st fun b hb ob e=>oth b ob (by rintro rfl;exact nf hb) e
 refine wpAny_pure ⟨plainId_quiet PySem.F.plain_extend_loop _,codeAny_extend_loopS WS n1 _ nf _ n 0 _ _ _ rfl (Nat.zero_le _) st2 hL4 (ItemsOf.nil Pv) fun s' acc' c' hm hS' hacc=>?_⟩;show wpAny _ A (load s.heap.objs.size>>=_) _ _ s'
 refine wpAny_bind (wpAny_load hS' ?_);obtain⟨ss,q1,q2⟩:=W.all acc' hacc;refine wpAny_pure (h s' acc'.toList ss q1 q2 (fun b ob e=>hm.heap b ob ?_ (oth b ob ?_ (W.ext b ob (k1 b ob e)))) (hm.gens.trans W.gens) (hm.os.trans W.os))
 ·intro q;rcases List.mem_cons.mp q with q | q
  ·exact absurd (Heap.lt_size e) (by rw[q];exact Nat.lt_irrefl _)
  ·have q:b=I:=by simpa using q
   have l1:=Heap.lt_size e
   have l2:h1.objs.size<=I:=W.new
   rw[sz1]at l2;rw[q]at l1;exact absurd (Nat.lt_of_lt_of_le l1 (Nat.le_trans (Nat.le_succ _) l2)) (Nat.lt_irrefl _)
 ·intro q;exact absurd (Heap.lt_size e) (by rw[q];exact Nat.lt_irrefl _)
theorem S2{Q:Value->Shared->Prop}(hh:A.handled=none)(T:TSet P w s.heap S zs)(hz:zs.length<=60)
  (h:∀ (s':Shared) (vs:List Value) (ss:List Str) (e:Nat) (L:Addr),StrsAre vs ss->ss.Perm zs->sortedS ss=true->S<L->s'.heap.get? L=some (seqObj "list" vs.toArray e)->(∀ b ob,s.heap.get? b=some ob->s'.heap.get? b=some ob)->s'.gens=s.gens->s'.os=s.os->Q (.ref L) s') :
  wpAny (model P w) A (call (.builtin "sorted") [.ref S]) Q E s:=by
 refine Calls.call_function_entry kind_sorted plain_sorted entry_sorted (args_sorted1 _) ?_;unfold Builtin.«sorted»;refine wpAny_bind (m:=checkCount "sorted" 1 1 _) (wpAny_pure ?_);refine wpAny_bind (Uh (by simp[hh]) T hz fun s1 vs ss hS hp k1 g1 o1=>?_)
 have vl:vs.length<64:=by
  have q1:=congrArg List.length hS.strs
  have q2:=hp.length_eq
  simp at q1;omega
 refine wpAny_bind (wpAny_newList ?_);obtain⟨h2,eh2⟩:∃ h2,h2=s1.heap.push (seqObj "list" vs.toArray 0):=⟨_,rfl⟩;have hoL:h2.get? s1.heap.objs.size=some (seqObj "list" vs.toArray 0):=by rw[eh2];exact Heap.get?_push_size _ rfl
 show wpAny _ _ _ _ _ {s1 with heap:=s1.heap.push (seqObj "list" vs.toArray 0)}
 rw[<- eh2];refine wpAny_bind (wpAny_holding (wpAny_call_entry slot_list_sort ⟨_,hoL,rfl⟩ entry_list_sort (list_sort_treeK strKind_oneLt (s:={s1 with heap:=h2}) hoL hS.keysOf (fun v₁ v₂ rest e=>keyKind_strs (by rw[<- e];exact hS)) vl fun st' a1 a2=>⟨_,rfl,?_⟩) (args_list_sort _)))
 obtain⟨ss',b1,b2,b3⟩:=sorted_out_str hS a1 a2;obtain⟨e,he⟩:=sortedHeap_at (h:=h2) (a:=s1.heap.objs.size) (vs:=vs) (n:=0) (out:=(arrOf st').map (·.2)) hoL;obtain⟨oS,hoS,_⟩:=T.type;have ltS:S<s1.heap.objs.size:=Heap.lt_size (k1 S oS hoS)
 refine wpAny_pure ⟨_,rfl,h _ _ ss' e s1.heap.objs.size b1 (b2.trans hp) b3 ltS (by rw[Array.toArray_toList];exact he) (fun b ob hb=>?_) g1 o1⟩
 have lb:b<s1.heap.objs.size:=Heap.lt_size (k1 b ob hb)
 show(sortedHeap h2 _ _ _).get? b=_
 rw[sortedHeap_old (Nat.ne_of_lt lb) (by rw[eh2,Heap.size_push];exact Nat.lt_succ_of_lt lb),eh2]
 exact Heap.get?_push_of_some _ (k1 b ob hb)
end
end DL
namespace DL
open PySem PySem.Spec PyProof.Rows L2
theorem Rv:bootBuiltins "set"=some (.type "set"):=by decide +kernel
theorem Lu{X:Cx}{pins:List (Addr×Obj)}{σ:L2.St}{H:Hp}{s s':Shared}(I:Inv X pins σ H s)(e1:s'.heap=s.heap)(e2:s'.gens=s.gens)(e3:s'.os=s.os):Inv X pins σ H s':=by
 obtain⟨h,g,d,tk,o⟩:=s;obtain⟨h',g',d',tk',o'⟩:=s';dsimp only at e1 e2 e3;subst e1;subst e2;subst e3;exact⟨I.ok,I.os,I.bare,I.base,I.loc,I.cell,I.free,I.freeC,I.pin,I.hok,I.len⟩
def fS(zs:List Str):List Str:=zs.foldl fG []
theorem We(zs:List Str):dY (fun i=>zs.getD i "") zs.length=fS zs:=by
 unfold dY fS
 congr 1
 refine List.ext_getElem? fun i=>?_;rw[List.getElem?_map]
 by_cases h:i<zs.length
 ·rw[List.getElem?_range h,List.getElem?_eq_getElem h];simp[List.getD_eq_getElem?_getD,List.getElem?_eq_getElem h]
 ·rw[List.getElem?_eq_none (by simpa using h),List.getElem?_eq_none (by omega)]
  rfl
theorem CD{zs:List Str}{x z:Str}:x∈fG zs z↔x∈zs\/x=z:=by
 unfold fG
 split
 ·rename_i h
  constructor
  ·exact .inl
  ·rintro (q | rfl)
   ·exact q
   ·exact h
 ·simp
theorem AX{zs:List Str}{z:Str}(h:zs.Nodup):(fG zs z).Nodup:=by
 unfold fG
 split
 ·exact h
 ·rename_i q;rw[List.nodup_append];refine⟨h,by simp,fun x hx y hy=>?_⟩
  rw[List.mem_singleton.mp hy];rintro rfl;exact q hx
theorem Ib:∀ (zs acc:List Str),acc.Nodup->(zs.foldl fG acc).Nodup/\(∀ x,x∈zs.foldl fG acc↔x∈acc\/x∈zs)/\(zs.foldl fG acc).length<=acc.length+zs.length
 | [],acc,h=>⟨h,by simp,by simp⟩
 | z::zs,acc,h=>by
  obtain⟨h1,h2,h3⟩:=Ib zs (fG acc z) (AX h);refine⟨h1,fun x=>?_,?_⟩
  ·rw[List.foldl_cons,h2,CD,List.mem_cons]
   constructor
   ·rintro ((q | q) | q)
    ·exact .inl q
    ·exact .inr (.inl q)
    ·exact .inr (.inr q)
   ·rintro (q | q | q)
    ·exact .inl (.inl q)
    ·exact .inl (.inr q)
    ·exact .inr q
  ·have:(fG acc z).length<=acc.length+1:=by
    unfold fG
    split<;>simp
   rw[List.foldl_cons,List.length_cons];omega
theorem Ej(zs:List Str):(fS zs).Nodup/\(∀ x,x∈fS zs↔x∈zs)/\(fS zs).length<=zs.length:=by
 obtain⟨h1,h2,h3⟩:=Ib zs [] List.nodup_nil;exact⟨h1,fun x=>by unfold fS;rw[h2];simp,by simpa[fS] using h3⟩
end DL
namespace DL
open PySem PySem.Spec PyProof.Rows L2
section
variable {K:PySem.W.Frag}{Z:Addr->Prop}{m:Mu}{H:Hp}
theorem RD.rw{x:D}{v:V}(h:RD K Z m H x v):RW K Z m H x v:=by
 cases x with
 | dat p=>exact h
 | cel a=>exact h.1
theorem RW.rd{x:D}{v:V}(h:RW K Z m H x v)(hc:∀ a,x=.cel a->(m a).isSome=true):RD K Z m H x v:=by
 cases x with
 | dat p=>exact h
 | cel a=>exact⟨h,hc a rfl⟩
theorem RKW.length{κ:Type}:∀ {fs:List (κ×D)} {vs:List (κ×V)},RKW K Z m H fs vs->vs.length=fs.length
 | [],_,h=>by cases (show _=[] from h);rfl
 | (_,_)::_,_,⟨v,r,h1,_,h3⟩=>by subst h1;rw[List.length_cons,List.length_cons,h3.length]
theorem RKW.look{f:Str}:∀ {fs:List (Str×D)} {vs:List (Str×V)},RKW K Z m H fs vs->(∀ x,fs.lookup f=some x->∃ v,vs.lookup f=some v/\RW K Z m H x v)/\(fs.lookup f=none->vs.lookup f=none)
 | [],_,h=>by cases (show _=[] from h);exact⟨fun x e=>(nomatch e),fun _=>rfl⟩
 | (g,y)::fs,_,⟨v,r,h1,h2,h3⟩=>by
  subst h1;obtain⟨i1,i2⟩:=h3.look (f:=f)
  by_cases e:f=g
  ·have b:(f==g)=true:=beq_iff_eq.mpr e
   simp only[List.lookup,b];exact⟨fun x q=>by cases q;exact⟨v,rfl,h2⟩,fun q=>(nomatch q)⟩
  ·have b:(f==g)=false:=beq_eq_false_iff_ne.mpr e
   simp only[List.lookup,b];exact⟨i1,i2⟩
theorem Ok.o{a:Addr}{N:Str}{fs:List (Str×D)}(ok:Ok K Z m H)(h:m a=some (.o N fs)):∃ C dx vs,H a=some (.ins C dx vs)/\PySem.W.nsIn K mainGlobals N=some (some (.ref C))/\RKW K Z m H fs vs:=by
 obtain⟨o,h1,h2⟩:=ok.g a _ h
 cases o<;>first | exact⟨_,_,_,h1,h2⟩ | exact h2.elim
end
end DL
namespace DL
open PySem PySem.Spec PyProof.Rows L2
section
variable {κ β:Type}[DecidableEq κ]
def cQ(kvs:List (κ×β))(k:κ):Option β:=(kvs.find? fun kv=>decide (kv.1=k)).map (·.2)
def fO(kvs:List (κ×β))(k:κ)(v:β):List (κ×β) :=
 if (kvs.any fun kv=>decide (kv.1=k))=true then kvs.map (fun kv=>if kv.1=k then (kv.1,v) else kv) else kvs++[(k,v)]
theorem hX{p:κ×β}{r:List (κ×β)}{k:κ}(e:p.1=k):cQ (p::r) k=some p.2:=by simp[cQ,List.find?_cons,e]
theorem gR{p:κ×β}{r:List (κ×β)}{k:κ}(e:¬ p.1=k):cQ (p::r) k=cQ r k:=by simp[cQ,List.find?_cons,e]
theorem Ce(k:κ):∀ kvs:List (κ×β),(kvs.any fun kv=>decide (kv.1=k))=(cQ kvs k).isSome
 | []=>rfl
 | p::r=>by
  rw[List.any_cons]
  by_cases e:p.1=k
  ·simp only[hX e,decide_eq_true e,Bool.true_or,Option.isSome_some]
  ·rw[gR e,decide_eq_false e,Bool.false_or];exact Ce k r
theorem Ku(k j:κ)(y:β):∀ kvs:List (κ×β),cQ (kvs.map fun kv=>if kv.1=k then (kv.1,y) else kv) j=(cQ kvs j).map fun x=>if j=k then y else x
 | []=>rfl
 | p::r=>by
  have ih:=Ku k j y r
  rw[List.map_cons]
  by_cases h:p.1=k
  ·rw[if_pos h]
   by_cases e:p.1=j
   ·rw[hX (p:=(p.1,y)) e,hX e,Option.map_some,if_pos (e.symm.trans h)]
   ·rw[gR (p:=(p.1,y)) e,gR e,ih]
  ·rw[if_neg h]
   by_cases e:p.1=j
   ·rw[hX (p:=p) e,hX e,Option.map_some,if_neg (fun z=>h (e.trans z))]
   ·rw[gR (p:=p) e,gR e,ih]
theorem Go(k j:κ)(y:β):∀ kvs:List (κ×β),cQ kvs k=none->cQ (kvs++[(k,y)]) j=if j=k then some y else cQ kvs j
 | [],_=>by
  by_cases e:k=j
  ·rw[if_pos e.symm];exact hX (p:=(k,y)) e
  ·rw[if_neg (fun z=>e z.symm)];exact gR (p:=(k,y)) e
 | p::r,hn=>by
  rw[List.cons_append];have hk:¬ p.1=k:=fun z=>by rw[hX z]at hn;cases hn
  rw[gR hk]at hn;have ih:=Go k j y r hn
  by_cases e:p.1=j
  ·rw[hX e,hX e,if_neg (fun z=>hk (e.trans z))]
  ·rw[gR e,gR e,ih]
theorem Hr(kvs:List (κ×β))(k j:κ)(y:β):cQ (fO kvs k y) j=if j=k then some y else cQ kvs j:=by
 unfold fO
 by_cases a:(kvs.any fun kv=>decide (kv.1=k))=true
 ·rw[if_pos a,Ku];rw[Ce]at a
  by_cases e:j=k
  ·obtain⟨x,hx⟩:=Option.isSome_iff_exists.mp a;rw[if_pos e,e,hx,Option.map_some,if_pos rfl]
  ·rw[if_neg e]
   cases cQ kvs j with
   | none=>rfl
   | some x=>rw[Option.map_some,if_neg e]
 ·rw[if_neg a];refine Go k j y kvs ?_;rw[Ce]at a
  cases q:cQ kvs k with
  | none=>rfl
  | some x=>rw[q]at a;exact(a rfl).elim
theorem Wk(kvs:List (κ×β))(k:κ)(v:β):(fO kvs k v).length<=kvs.length+1:=by
 unfold fO
 split
 ·rw[List.length_map];omega
 ·rw[List.length_append,List.length_cons,List.length_nil];omega
end
section
variable {κ:Type}[DecidableEq κ]{K:PySem.W.Frag}{Z:Addr->Prop}{m:Mu}{H:Hp}
theorem RKW.val{k:κ}:∀ {kvs:List (κ×D)} {vs:List (κ×V)},RKW K Z m H kvs vs->(∀ x,cQ kvs k=some x->∃ v,bV vs k=some v/\RW K Z m H x v)/\(cQ kvs k).isSome=(bV vs k).isSome
 | [],_,h=>by cases (show _=[] from h);exact⟨fun x e=>(nomatch e),rfl⟩
 | (g,y)::fs,_,⟨v,r,h1,h2,h3⟩=>by
  subst h1;obtain⟨i1,i2⟩:=h3.val (k:=k)
  by_cases e:g=k
  ·rw[hX (p:=(g,y)) e,jS (p:=(g,v)) e];exact⟨fun x q=>by cases q;exact⟨v,rfl,h2⟩,rfl⟩
  ·rw[gR (p:=(g,y)) e,kI (p:=(g,v)) e];exact⟨i1,i2⟩
theorem RKW.any{k:κ}:∀ {kvs:List (κ×D)} {vs:List (κ×V)},RKW K Z m H kvs vs->(vs.any fun kv=>decide (kv.1=k))=(kvs.any fun kv=>decide (kv.1=k))
 | [],_,h=>by cases (show _=[] from h);rfl
 | (g,y)::fs,_,⟨v,r,h1,h2,h3⟩=>by subst h1;rw[List.any_cons,List.any_cons,h3.any]
theorem RKW.repl{k:κ}{x:D}{v:V}(hx:RW K Z m H x v):∀ {kvs:List (κ×D)} {vs:List (κ×V)},RKW K Z m H kvs vs->RKW K Z m H (kvs.map fun kv=>if kv.1=k then (kv.1,x) else kv) (vs.map fun kv=>if kv.1=k then (kv.1,v) else kv)
 | [],_,h=>by cases (show _=[] from h);rfl
 | (g,y)::fs,_,⟨w,r,h1,h2,h3⟩=>by
  subst h1;rw[List.map_cons,List.map_cons]
  by_cases e:g=k
  ·rw[if_pos (show((g,y):κ×D).1=k from e),if_pos (show((g,w):κ×V).1=k from e)];exact⟨v,_,rfl,hx,h3.repl hx⟩
  ·rw[if_neg (show ¬ ((g,y):κ×D).1=k from e),if_neg (show ¬ ((g,w):κ×V).1=k from e)];exact⟨w,_,rfl,h2,h3.repl hx⟩
theorem RKW.snoc{k:κ}{x:D}{v:V}(hx:RW K Z m H x v):∀ {kvs:List (κ×D)} {vs:List (κ×V)},RKW K Z m H kvs vs->RKW K Z m H (kvs++[(k,x)]) (vs++[(k,v)])
 | [],_,h=>by cases (show _=[] from h);exact⟨v,[],rfl,hx,rfl⟩
 | (g,y)::fs,_,⟨w,r,h1,h2,h3⟩=>by subst h1;exact⟨w,_,rfl,h2,h3.snoc hx⟩
theorem RKW.put{k:κ}{x:D}{v:V}{kvs:List (κ×D)}{vs:List (κ×V)}(h:RKW K Z m H kvs vs)(hx:RW K Z m H x v):RKW K Z m H (fO kvs k x) (bP vs k v):=by
 unfold fO bP;rw[h.any]
 split
 ·exact h.repl hx
 ·exact h.snoc hx
theorem Ok.n{a:Addr}{kvs:List (List PyData×D)}(ok:Ok K Z m H)(h:m a=some (.n kvs)):∃ vs,H a=some (.dN K vs)/\RKW K Z m H kvs vs:=by
 obtain⟨o,h1,h2⟩:=ok.g a _ h
 cases o<;>first | (obtain⟨rfl,h2⟩:=h2;exact⟨_,h1,h2⟩) | exact h2.elim
mutual
theorem RP.nkv:∀ (p:PyData) (v:V),L2.isK p=true->RP K Z m H p v->NKV K H p v
 | .int _,_,_,h=>by simp only[RP]at h;simp only[NKV];exact h
 | .str _,_,_,h=>by simp only[RP]at h;simp only[NKV];exact h
 | .tuple xs,_,hk,h=>by
  simp only[RP]at h;simp only[NKV];obtain⟨a,vs,e,h1,h2⟩:=h;exact⟨a,vs,e,h1,RPs.nkv xs vs hk h2⟩
 | .none,_,h,_ | .bool _,_,h,_ | .list _,_,h,_ | .dict _,_,h,_=>by simp[L2.isK]at h
theorem RPs.nkv:∀ (ps:List PyData) (vs:List V),L2.isKs ps=true->RPs K Z m H ps vs->NKVs K H ps vs
 | [],_,_,h=>by simp only[RPs]at h;simp only[NKVs];exact h
 | p::ps,_,hk,h=>by
  simp only[L2.isKs,Bool.and_eq_true]at hk;simp only[RPs]at h;simp only[NKVs];obtain⟨v,r,e,h1,h2⟩:=h;exact⟨v,r,e,RP.nkv p v hk.1 h1,RPs.nkv ps r hk.2 h2⟩
end
end
section
variable {X:Cx}{pins:List (Addr×Obj)}{σ:L2.St}{H:Hp}{s:Shared}
mutual
theorem NKV.reads(I:Inv X pins σ H s):∀ (p:PyData) (v:V) (u:Value),NKV X.K H p v->RelV v u->∃ as,Reads s.heap u p as
 | .int i,v,u,h,r=>by simp only[NKV]at h;subst h;obtain⟨t,rfl⟩:=r;exact⟨_,.int i t⟩
 | .str x,v,u,h,r=>by simp only[NKV]at h;subst h;obtain⟨t,rfl⟩:=r;exact⟨_,.str x t⟩
 | .tuple xs,v,u,h,r=>by
  simp only[NKV]at h;obtain⟨a,vs,rfl,h2,h3⟩:=h
  cases r
  obtain⟨its,rv,⟨o,e,c,n,d⟩,_⟩:=I.tuple h2;obtain⟨as,q⟩:=NKVs.reads I xs vs its h3 rv;exact⟨_,.tuple e c d (by simpa using q)⟩
 | .none,_,_,h,_ | .bool _,_,_,h,_ | .list _,_,_,h,_ | .dict _,_,_,h,_=>by simp only[NKV]at h
theorem NKVs.reads(I:Inv X pins σ H s):∀ (xs:List PyData) (vs:List V) (us:List Value),NKVs X.K H xs vs->Vals vs us->∃ as,ReadsAll s.heap us xs as
 | [],vs,us,h,r=>by simp only[NKVs]at h;subst h;cases r;exact⟨_,.nil⟩
 | x::xs,vs,us,h,r=>by
  simp only[NKVs]at h;obtain⟨v,w,rfl,h1,h2⟩:=h
  cases r with
  | cons r1 r2 =>
   obtain⟨as,q1⟩:=NKV.reads I x v _ h1 r1;obtain⟨bs,q2⟩:=NKVs.reads I xs w _ h2 r2;exact⟨_,.cons q1 q2⟩
end
abbrev KN(K:PySem.W.Frag)(H:Hp):List (List PyData×V)->List (List PyData×Addr×Value)->Prop :=
 Paired fun p q=>p.1=q.1/\(L2.isKs p.1=true/\PyData.depthAll p.1<=6/\NKV K H (.tuple p.1) (.ref q.2.1))/\RelV p.2 q.2.2
theorem KN.val{K:PySem.W.Frag}{kvs:List (List PyData×V)}{xs:List (List PyData×Addr×Value)}(r:KN K H kvs xs)(k:List PyData):RelO (bV kvs k) ((atKey xs k).map (·.2)):=by
 induction r with
 | nil=>exact True.intro
 | @cons p q ps qs h t ih =>
  obtain⟨h1,_,h2⟩:=h
  by_cases e:p.1=k
  ·have e':q.1=k:=h1.symm.trans e
   have b:atKey (q::qs) k=some q.2:=by simp[atKey,List.find?_cons,e']
   rw[jS e,b];exact h2
  ·have e':¬ q.1=k:=fun z=>e (h1.trans z)
   have b:atKey (q::qs) k=atKey qs k:=by simp[atKey,List.find?_cons,e']
   rw[kI e,b];exact ih
theorem KN.repl{K:PySem.W.Frag}{kvs:List (List PyData×V)}{xs:List (List PyData×Addr×Value)}(r:KN K H kvs xs)(k:List PyData){y:V}{u:Value}(ry:RelV y u) :
  KN K H (kvs.map fun kv=>if kv.1=k then (kv.1,y) else kv) (xs.map (putAt k u)):=by
 induction r with
 | nil=>exact .nil
 | @cons p q ps qs h t ih =>
  rw[List.map_cons,List.map_cons];refine .cons ?_ ih;obtain⟨h1,h2,h3⟩:=h;unfold putAt
  by_cases e:p.1=k
  ·rw[if_pos e,if_pos (h1.symm.trans e)];exact⟨h1,h2,ry⟩
  ·rw[if_neg e,if_neg (fun z=>e (h1.trans z))];exact⟨h1,h2,h3⟩
theorem KN.put{K:PySem.W.Frag}{kvs:List (List PyData×V)}{xs:List (List PyData×Addr×Value)}(r:KN K H kvs xs)(k:List PyData){b:Addr}{y:V}{u:Value}(hb:L2.isKs k=true/\PyData.depthAll k<=6/\NKV K H (.tuple k) (.ref b))(ry:RelV y u) :
  KN K H (bP kvs k y) (storedH xs k b u):=by
 have e:(kvs.any fun kv=>decide (kv.1=k))=(atKey xs k).isSome:=by
  rw[zB,(r.val k).isSome_eq,Option.isSome_map]
 unfold bP storedH;rw[e]
 by_cases q:(atKey xs k).isSome=true
 ·rw[if_pos q,if_pos q];exact r.repl k ry
 ·rw[if_neg q,if_neg q];exact Paired.snoc r ⟨rfl,hb,ry⟩
theorem oI(I:Inv X pins σ H s){k:List PyData}{b:Addr}(h:L2.isKs k=true/\PyData.depthAll k<=6/\NKV X.K H (.tuple k) (.ref b)):(gY X.prog X.w).is s.heap k b :=
 ⟨h.1,h.2.1,NKV.reads I _ _ _ h.2.2 rfl⟩
theorem sW{a:Addr}{kvs:List (List PyData×V)}(I:Inv X pins σ H s)(e:H a=some (.dN X.K kvs)):kvs.length<=sizeLine/\(a==sysModules)=false/\∃ xs,KN X.K H kvs xs/\s.heap.DictOfH (gY X.prog X.w) a xs:=by
 obtain⟨z,y,xs,r,o,es,ep,h1,h2,h3,h4,h5⟩:=(show ObjOk X.prog X.w H s.heap a (.dN X.K kvs) from I.hok a _ e)
 refine⟨z,y,xs,r,o,es,ep,h1,h2,h3,h4,fun x hx=>?_,h5⟩;have all:∀ {l:List (List PyData×V)} {m:List (List PyData×Addr×Value)},KN X.K H l m->∀ x∈m,(gY X.prog X.w).is s.heap x.1 x.2.1:=by
  intro l m q
  induction q with
  | nil=>intro x hx;exact nomatch hx
  | @cons p q ps qs hq t ih =>
   intro x hx;rcases List.mem_cons.mp hx with e | hx
   ·subst e;exact oI I (by rw[<- hq.1];exact hq.2.1)
   ·exact ih x hx
 exact all r x hx
theorem yT{A:Around}(hu:A.units+100<cLine):(gY X.prog X.w).room A.in1:=by
 show A.in1.units+20<cLine
 rw[Around.in1_units];omega
end
section
variable {X:Cx}{o i e:Expr}{fo fi f:DE}{pos tpos:Pos}
@[simp] def gZ:D->Option (List PyData)
 | .dat (.tuple ks)=>if L2.isKs ks=true/\PyData.depthAll ks<=6 then some ks else none
 | _=>none
theorem Em{y:D}{ks:List PyData}(h:gZ y=some ks):y=.dat (.tuple ks)/\L2.isKs ks=true/\PyData.depthAll ks<=6:=by
 unfold gZ at h
 split at h
 ·split at h
  ·rename_i q;cases h;exact⟨rfl,q⟩
  ·cases h
 ·cases h
theorem G7{P:Program}{w:World}{H:Hp}{K:PySem.W.Frag}(h:Heap)(hb:sysModules<h.objs.size):ObjOk P w H (h.push {cls:=.type "dict",data:=.dict #[]}) h.objs.size (.dN K []) :=
 ⟨Nat.zero_le _,by rw[beq_eq_false_iff_ne];exact(Nat.ne_of_lt hb).symm,[],.nil,_,_,_,Heap.get?_push_size _ rfl,⟨rfl,rfl,rfl⟩,rfl,rfl,List.nodup_nil⟩
@[simp] def sI(fo fi f:DE):DS:=fun E d m=>f d m fun x m1=>fo d m1 fun o m2=>fi d m2 fun y m3=>∃ c ks kvs,o=.cel c/\gZ y=some ks/\m3 c=some (.n kvs)/\kvs.length<sizeLine/\E.nx d (aS m3 c (.n (fO kvs ks x)))
theorem Ww(hu:X.A.units+100<cLine)(he:PE X e (LE X.K f))(ho:PE X o (LE X.K fo))(hi:PE X i (LE X.K fi))(hs:swapsWith e (some (.Subscript o i tpos)) pos.line X.env=pure false:=by rfl) :
  PS X (.Assign [.Subscript o i tpos] e pos) (LS X.K (sI fo fi f)):=by
 intro pins s σ H D I h;obtain⟨Z,d,m,R,ok,rs,h,k,_⟩:=h;refine wpAny_Assign_Subscript (aM (he pins s σ H (fun v H1=>∃ (x:DL.D) (m1:Mu),RD X.K Z m1 H1 x v/\(fo d m1 fun o m2=>fi d m2 fun y m3=>∃ c ks kvs,o=.cel c/\gZ y=some ks/\m3 c=some (.n kvs)/\kvs.length<sizeLine/\R.nx d (aS m3 c (.n (fO kvs ks x))))/\Ext X.K Z m H m1 H1/\Ok X.K Z m1 H1) I
  ⟨Z,d,m,_,ok,rs,h,fun x m1 v H1 q e1 ok1 rd=>⟨x,m1,rd,q,e1,ok1⟩⟩) fun r s1 ⟨v,H1,I1,rv,x,m1,rx,q,e1,ok1⟩=>?_) hs
 refine aM (ho pins s1 σ H1 (fun w H2=>∃ (ox:DL.D) (m2:Mu),RD X.K Z m2 H2 ox w/\(fi d m2 fun y m3=>∃ c ks kvs,ox=.cel c/\gZ y=some ks/\m3 c=some (.n kvs)/\kvs.length<sizeLine/\R.nx d (aS m3 c (.n (fO kvs ks x))))/\Ext X.K Z m1 H1 m2 H2/\Ok X.K Z m2 H2) I1
  ⟨Z,d,m1,_,ok1,rs.ext e1,q,fun o m2 w H2 q2 e2 ok2 r2=>⟨o,m2,r2,q2,e2,ok2⟩⟩) fun u s2 ⟨w,H2,I2,rw2,ox,m2,ro,q2,e2,ok2⟩=>?_
 refine aM (hi pins s2 σ H2 (fun z H3=>∃ (y:DL.D) (m3:Mu),RD X.K Z m3 H3 y z/\(∃ c ks kvs,ox=.cel c/\gZ y=some ks/\m3 c=some (.n kvs)/\kvs.length<sizeLine/\R.nx d (aS m3 c (.n (fO kvs ks x))))/\Ext X.K Z m2 H2 m3 H3/\Ok X.K Z m3 H3) I2
  ⟨Z,d,m2,_,ok2,(rs.ext e1).ext e2,q2,fun y m3 z H3 q3 e3 ok3 r3=>⟨y,m3,r3,q3,e3,ok3⟩⟩) fun iv s3 ⟨z,H3,I3,rz,y,m3,ry,⟨c,ks,kvs,eo,ey,hm,hl,q3⟩,e3,ok3⟩=>?_
 subst eo;obtain⟨rfl,hk⟩:=Em ey;obtain⟨rfl,_⟩:=ro;obtain rfl:u=Value.ref c:=rw2;have r3:=RP.nkv (.tuple ks) z hk.1 ry
 have r4:=r3
 simp only[NKV]at r4;obtain⟨b,vs,rfl,_⟩:=r4;obtain rfl:iv=Value.ref b:=rz;obtain⟨ws,g1,g2⟩:=ok3.n hm;obtain⟨z,hd,xs,rel,dd⟩:=sW I3 g1;have hz:xs.length<=sizeLine:=by rw[<- Paired.length rel];exact z
 have hl2:(bP ws ks v).length<=sizeLine:=by have:=rJ ws ks v;rw[g2.length]at this;omega
 refine wpAny_setItem_heap (hsz:=hz) (yT hu) (oI I3 ⟨hk.1,hk.2,r3⟩) dd fun h' dd' hs'=>?_;obtain⟨q,es,ep,hq,h2,h3,h4,_,h5⟩:=dd';have ht:∀ b' xs',H3 b'=some (.tup xs')->aI H3 c (.dN X.K (bP ws ks v)) b'=some (.tup xs'):=fun b' xs' e=>by rw[aX (rY e g1 (fun z=>nomatch z))];exact e
 have hf:∀ b' ob u',H3 b'=some (.frz ob u')->aI H3 c (.dN X.K (bP ws ks v)) b'=some (.frz ob u'):=fun b' ob u' e=>by rw[aX (rY e g1 (fun z=>nomatch z))];exact e
 refine⟨σ,aI H3 c (.dN X.K (bP ws ks v)),iZ I3 (by rw[g1];exact True.intro) hs' ⟨q,hq⟩ ⟨hl2,hd,_,Paired.mapP (rel.put ks ⟨hk.1,hk.2,r3⟩ rv) (fun p q z=>⟨z.1,⟨z.2.1.1,z.2.1.2.1,NKV.stay ht hf _ _ z.2.1.2.2⟩,z.2.2⟩),q,es,ep,hq,h2,h3,h4,h5⟩,?_⟩
 have e4:Ext X.K Z m3 H3 (aS m3 c (.n (fO kvs ks x))) (aI H3 c (.dN X.K (bP ws ks v))):=Ext.put ok3 hm g1
 exact k d _ σ _ q3 (e1.trans (e2.trans (e3.trans e4))) (ok3.put hm g1 ⟨rfl,g2.put ((rx.ext (e2.trans e3)).rw)⟩) ((rs.ext e1).ext (e2.trans (e3.trans e4)))
end
end DL
namespace DL
open PySem PySem.Spec PyProof.Rows L2
section
variable {X:Cx}{o e:Expr}{f g:DE}{pos:Pos}
@[simp] def Dw:D2
 | .dat (.bool a),.dat (.bool b),m,Q=>Q (.dat (.bool (!(a==b)))) m
 | .dat .none,.dat (.bool b),m,Q=>Q (.dat (.bool true)) m
 | _,_,_,_=>False
theorem Zo:cP X (compareOp .IsNot) Dw:=by
 intro pins s σ H Z m x y dx dy v u R Q I ok rx ry r1 r2 h k;unfold Dw at h
 split at h
 ·rename_i a b
  cases r1.bl
  cases r2.bl
  cases rx
  cases ry
  refine wpAny_isNot_plain rfl ?_;have e:(Value.bool a==Value.bool b)=(a==b):=by cases a<;>cases b<;>rfl
  rw[e];exact⟨.bl (!(a==b)),H,I,rfl,k _ m _ H h Ext.refl ok .ofBl⟩
 ·have e:x=.non:=by simpa only[RD,RP] using r1
  subst e
  cases r2.bl
  cases rx
  cases ry
  exact wpAny_isNot_other rfl (fun e=>nomatch e) ⟨.bl true,H,I,rfl,k _ m _ H h Ext.refl ok .ofBl⟩
 ·exact h.elim
end
open MeetsSeq AutoSeq1 in
theorem W3(T:String)(hT:T="tuple"\/T="list")(l:Addr)(items:Array Value)(n:Nat)(b:Addr)(dd:Option Addr)(items2:Array Value)(n2:Nat)(sl:Array (Option Value))(hs0:¬(!items.isEmpty&&Builtin.List.listTooLong (items.size+items2.size))=true)(hs1:items.size<=sizeLine)(hs2:items.size+items2.size<=sizeLine+1) :
  Meets (Builtin.«list.extend» ⟨[.ref l,.ref b],[]⟩) (fun _ R s=>s.heap.get? l=some {cls:=.type "list",dict:=none,data:=.seq items n,slots:=#[]}/\s.heap.get? b=some {cls:=.type T,dict:=dd,data:=.seq items2 n2,slots:=sl}/\R (.ok (.ret Value.none)) {s with heap:=s.heap.update l (Obj.mapSeq fun x=>x++items2),toks:=s.toks}) :=
 .of_wp fun prog w A R s h=>by
  obtain⟨hp,g,d,tk,os⟩:=s;obtain⟨hl,hb,h⟩:=h;have hz':(items++items2).size<=sizeLine+1:=by rw[Array.size_append];exact hs2
  rcases hT with rfl | rfl
  ·wp_walk using (wpAny_updateSeq hl rfl (hz:=hs1) (_hz':=hz')),wpAny_loadPart' hl,wpAny_loadPart' hb;exact⟨_,rfl,h⟩
  ·wp_walk using (wpAny_updateSeq hl rfl (hz:=hs1) (_hz':=hz')),wpAny_loadPart' hl,wpAny_loadPart' hb;exact⟨_,rfl,h⟩
section
variable {X:Cx}{o e:Expr}{f g:DE}{pos:Pos}
def Xk(K:PySem.W.Frag):V->List V->Hp->VK->Prop:=fun x vs H Q=>∃ l b xs zs,x=.ref l/\vs=[.ref b]/\H l=some (.lst xs)/\(SqT K H b zs\/SqL K H b zs)/\xs.length+zs.length<=sizeLine/\Q .non (aI H l (.lst (xs++zs)))
theorem W8:Ob X "list.extend" (Xk X.K):=by
 intro pins s σ H x vs v us Q I rx rv h;obtain⟨l,b,xs,zs,rfl,rfl,hH,hB,hz,q⟩:=h
 cases rx
 obtain⟨u,rfl,ru⟩:=rv.one
 cases ru
 obtain⟨z,its,n,r,hl,e⟩:=I.lstM hH;have hb:∃ T its2 dd n2 sl,(T="tuple"\/T="list")/\Vals zs its2/\s.heap.get? b=some {cls:=.type T,dict:=dd,data:=.seq its2.toArray n2,slots:=sl}:=by
  rcases hB with hB | hB
  ·obtain⟨its2,r2,⟨ob,e2,c2,n2,d2⟩,_⟩:=I.tuple hB;obtain⟨oc,od,oda,osl⟩:=ob;exact⟨"tuple",its2,od,n2,osl,.inl rfl,r2,by rw[e2];cases c2;cases d2;rfl⟩
  ·obtain⟨its2,r2,⟨ob,n2,e2,c2,_,d2⟩,_⟩:=I.list hB;obtain⟨oc,od,oda,osl⟩:=ob;exact⟨"list",its2,od,n2,osl,.inr rfl,r2,by rw[e2];cases c2;cases d2;rfl⟩
 obtain⟨T,its2,dd,n2,sl,hT,r2,e2⟩:=hb;have l1:=r.length
 have l2:=r2.length
 have hsz:its.toArray.size+its2.toArray.size<=sizeLine:=by rw[List.size_toArray,List.size_toArray];omega
 have hlong:¬ (!its.toArray.isEmpty&&Builtin.List.listTooLong (its.toArray.size+its2.toArray.size))=true:=by
  rw[O0 hsz,Bool.and_false];exact Bool.false_ne_true
 refine call_meets F.slot_list_extend ⟨_,e,rfl⟩ F.entry_list_extend (F.args_list_extend_2 _ _)
  (W3 T hT l its.toArray n b dd its2.toArray n2 sl hlong (by rw[List.size_toArray];omega) (by omega)) ⟨e,e2,?_⟩
 refine⟨.non,_,I.lset (its':=its++its2) hH e (by simp) (r.append r2) ?_,rfl,q⟩
 rw[List.length_append];omega
@[simp] def Bg(fo g:DE):DE:=fun d m Q=>fo d m fun o m1=>∃ c,o=.cel c/\(∃ ys,m1 c=some (.l ys))/\g d m1 fun x m2=>∃ xs ys,(x=.dat (.tuple ys)\/x=.dat (.list ys))/\m2 c=some (.l xs)/\xs.length+ys.length<=sizeLine/\Q (.dat .none) (aS m2 c (.l (xs++ys)))
theorem BK{apos cpos:Pos}(ho:PE X o (LE X.K f))(he:PE X e (LE X.K g))(hbase:attributeBase o "extend" X.env (eval o X.env)=eval o X.env:=by rfl)
  (hfew:((backTo cpos (starEach [e] X.env)).all (fun x=>!x.1)&&(backToKw cpos (keywordEach [] X.env)).all (fun x=>x.1.isSome)&&decide ([e].length+([]:List Keyword).length+(if ([]:List Keyword).isEmpty then 0 else 1)<30))=true:=by rfl)
  (hline:(apos.endLine==cpos.line)=true:=by rfl) (hs:starEach [e] X.env=(false,eval e X.env)::starEach [] X.env:=by rfl):PE X (.Call (.Attribute o "extend" apos) [e] [] cpos) (LE X.K (Bg f g)) :=
 PE.imp (Pm (T:="list") (id:="list.extend") (name:="extend") PySem.F.plainAttrs_list PySem.F.slot_list_extend PySem.F.type_list_extend W8 ho (kH he lP hs) hbase hfew hline hs rfl) fun s H Q h=>by
  obtain⟨Z,d,m,R,ok,rs,h,k⟩:=h;refine⟨Z,d,m,_,ok,rs,h,fun x m1 v H1 ⟨c,ex,⟨xs0,hx0⟩,q⟩ e1 ok1 rd=>?_⟩;subst ex;obtain⟨rfl,hc⟩:=rd;obtain⟨vs0,g0,_⟩:=ok1.l hx0;refine⟨.inl ⟨rfl,vs0,.inl (.inl g0)⟩,Z,d,m1,_,ok1,rs.ext e1,q,fun y m2 w H2 ⟨xs,ys,ey,hm,hz,q2⟩ e2 ok2 rd2=>?_⟩;have hb:∃ b ws,w=.ref b/\(SqT X.K H2 b ws\/SqL X.K H2 b ws)/\RPs X.K Z m2 H2 ys ws:=by
   rcases ey with rfl | rfl
   ·simp only[RD,RP]at rd2;obtain⟨b,ws,e,h1,h2⟩:=rd2;exact⟨b,ws,e,.inl h1,h2⟩
   ·simp only[RD,RP]at rd2;obtain⟨b,ws,e,_,h1,h2⟩:=rd2;exact⟨b,ws,e,.inr h1,h2⟩
  obtain⟨b,ws,rfl,g3,g4⟩:=hb;obtain⟨vs,g1,g2⟩:=ok2.l hm;refine⟨c,b,vs,ws,rfl,rfl,g1,g3,by rw[g2.length,g4.length];exact hz,?_⟩
  exact k _ _ _ _ q2 (e1.trans (e2.trans (Ext.put ok2 hm g1))) (ok2.put hm g1 (show RPs _ _ _ _ _ _ from g2.append g4)) (by simp only[RD,RP])
end
end DL
namespace DL
open PySem PySem.Spec PyProof.Rows L2
structure CompE (e tg iter:Expr) (ifs:List Expr) (emit:Addr->Env->Sem Unit):Prop where
 kind:(∃ elt gs sc p,e=.SetComp elt gs sc p)\/∃ k v gs sc p,e=.DictComp k v gs sc p
 cl:clausesOf e=[⟨tg,iter,ifs,0⟩]
 turn:∀ it D env,compTurn e 0 it (.ref D) env=(do
   standAt iter.pos
   match <- pyNext it with
   | none=>pure (.done .next)
   | some v =>
    letOwnedTupleGo tg it v
    assign tg env v
    let mut ok:=true
    for c in ifs do
     if ok then ok <- isTrue c env (eval c env)
    if ok then emit D env
    again (.compLoop e 0 it (.ref D) env))
section
variable {prog:Program}{w:World}{A:Around}{R:Result->Shared->Prop}{s:Shared}{e tg iter:Expr}{ifs:List Expr}{emit:Addr->Env->Sem Unit}
theorem Q1(ce:CompE e tg iter ifs emit){it:Value}{D:Addr}{env:Env}(I:Nat->Shared->Prop)
  (turn:∀ n s,I n s->wpAny (model prog w) A (pyNext it) (fun r s₁=>match r with
   | none=>R (.ok .next) s₁
   | some v=>wpAny (model prog w) A (letOwnedTupleGo tg it v) (fun _ s₀=>wpAny (model prog w) A (assign tg env v) (fun _ s₂ =>
     wpAny (model prog w) A (forIn ifs true fun c r=>if r=true then do let ok <- isTrue c env (eval c env);pure (ForInStep.yield ok) else pure (ForInStep.yield r)) (fun ok s₃ =>
      if ok=true then wpAny (model prog w) A (emit D env) (fun _ s₅=>∃ m,m<n/\I m s₅) (fun _ _=>False) s₃
      else ∃ m,m<n/\I m s₃) (fun _ _=>False) s₂) (fun _ _=>False) s₀) (fun _ _=>False) s₁) (fun _ _=>False) s)
  (n:Nat) (h:I n s) :
  codeAny (model prog w) A (.compLoop e 0 it (.ref D) env) R s:=by
 have ff:∀ {E:Value->Shared->Prop} (x:Value) (s:Shared),False->E x s:=fun _ _ z=>z.elim
 suffices start:∀ n s,I n s->wpAny (model prog w) A (compTurn e 0 it (.ref D) env) (fun fin s'=>match fin with | .done f=>R (.ok f) s' | .again c'=>c'=.compLoop e 0 it (.ref D) env/\∃ m,m<n/\I m s') (notedBy (model prog w) A env fun e s'=>R (.error e) s') s by
  rcases ce.kind with⟨_,_,_,_,rfl⟩ | ⟨_,_,_,_,_,rfl⟩
  ·refine codeAny_loop rfl I (fun n s hI=>?_) n h;exact wpAny_noted (start n s hI)
  ·refine codeAny_loop rfl I (fun n s hI=>?_) n h;exact wpAny_noted (start n s hI)
 intro n s hI;rw[ce.turn];refine wpAny_bind (wpAny_standAt (wpAny_bind (wpAny_mono (turn n s hI) (fun r s₁ h₁=>?_) ff)))
 cases r with
 | none=>exact wpAny_pure h₁
 | some v =>
  refine wpAny_bind (wpAny_mono h₁ (fun _ s₀ h₀=>?_) ff);refine wpAny_bind (wpAny_mono h₀ (fun _ s₂ h₂=>wpAny_bind (wpAny_mono h₂ (fun ok s₃ h₃=>?_) ff)) ff)
  cases ok with
  | true =>
   simp only[if_true]at h₃ ⊢;exact wpAny_bind (wpAny_mono h₃ (fun _ s₅ h₅=>wpAny_pure ⟨rfl,h₅⟩) ff)
  | false =>
   simp only[Bool.false_eq_true,if_false]at h₃ ⊢;exact wpAny_pure ⟨rfl,h₃⟩
theorem Wd(ce:CompE e tg iter ifs emit){it acc:Value}{env:Env}
  (h0:codeAny (model prog w) A (.compLoop e 0 it acc env) R s)
  (h:wpAny (model prog w) A (pyIter it) (fun it' s'=>codeAny (model prog w) A (.compLoop e 0 it' acc env) R s') (notedBy (model prog w) A env fun x s'=>R (.error x) s') s) :
  codeAny (model prog w) A (.compStart e 0 it acc env) R s:=by
 suffices start:wpAny (model prog w) A (compStart e 0 it acc env) (fun fin s'=>match fin with | .done f=>R (.ok f) s' | .again c'=>c'.quiet=true/\codeAny (model prog w) A c' R s') (notedBy (model prog w) A env fun x s'=>R (.error x) s') s by
  rcases ce.kind with⟨_,_,_,_,rfl⟩ | ⟨_,_,_,_,_,rfl⟩
  ·exact codeAny_of_tree (wpAny_notedAt start)
  ·exact codeAny_of_tree (wpAny_notedAt start)
 have hq:∀ it',Code.quiet (.compLoop e 0 it' acc env)=true:=fun it'=>by rcases ce.kind with⟨_,_,_,_,rfl⟩ | ⟨_,_,_,_,_,rfl⟩<;>rfl
 unfold compStart;rw[ce.cl];show wpAny _ _ (ask>>=_) _ _ s
 refine wpAny_bind (wpAny_askSetting (wpAny_ite ?_))
 split
 ·first
   | exact wpAny_bind (wpAny_pure (wpAny_pure (And.intro (hq _) h0)))
   | exact wpAny_pure (And.intro (hq _) h0)
 ·first
   | exact wpAny_bind (wpAny_rule (wpAny_bind (wpAny_standAt (wpAny_bind (wpAny_mono h (fun it' s' h'=>wpAny_pure (And.intro (hq _) h')) fun _ _ x=>x)))))
   | (refine wpAny_bind (wpAny_rule ?_);show wpAny _ _ (standAt iter.pos>>=_) _ _ s;exact wpAny_bind (wpAny_standAt (wpAny_bind (wpAny_mono h (fun it' s' h'=>wpAny_pure (And.intro (hq _) h')) fun _ _ x=>x))))
end
def pW(o:HO):Prop:=(∀ xs,o≠.tup xs)/\∀ a b,o≠.frz a b
section
variable {K:PySem.W.Frag}{Z:Addr->Prop}{m m1 m':Mu}{H H1 H':Hp}{D:Addr}{o0 o1:HO}
theorem Pq(hD:H D=none)(hk:K.lookup D=none):∀ a vs,(m a=none/\¬ Z a)->SqL K H a vs->(m a=none/\¬ aJ Z D a)/\SqL K (aI H D o0) a vs:=fun a vs h1 h2 =>
 ⟨⟨h1.1,fun z=>z.elim h1.2 (SqL.ne hD hk h2)⟩,(bX hD).seq h2⟩
theorem uX(hD:H D=some o0)(mu:pW o0):∀ a vs,SqT K H a vs->SqT K (aI H D o1) a vs:=fun b xs h=>by
 rcases h with (h | ⟨o,h⟩) | h
 ·have ne:b≠D:=by rintro rfl;rw[hD]at h;cases h;exact mu.1 _ rfl
  exact .inl (.inl (by rw[aX ne];exact h))
 ·have ne:b≠D:=by rintro rfl;rw[hD]at h;cases h;exact mu.2 _ _ rfl
  exact .inl (.inr ⟨o,by rw[aX ne];exact h⟩)
 ·exact .inr h
theorem Lj{a:Addr}{vs:List V}(ne:a≠D)(h:SqL K H a vs):SqL K (aI H D o1) a vs:=by
 rcases h with (h | ⟨o,h⟩) | h
 ·exact .inl (.inl (by rw[aX ne];exact h))
 ·exact .inl (.inr ⟨o,by rw[aX ne];exact h⟩)
 ·exact .inr h
theorem zD(hD:H D=some o0)(mu:pW o0):∀ a o u,H a=some (.frz o u)->aI H D o1 a=some (.frz o u):=fun a o u q=>by
 rw[aX (by rintro rfl;rw[hD]at q;cases q;exact mu.2 _ _ rfl)]
 exact q
theorem Dj:∀ a vs,(m a=none/\¬ aJ Z D a)->SqL K H a vs->(m a=none/\¬ aJ Z D a)/\SqL K (aI H D o1) a vs:=fun a vs h1 h2 =>
 ⟨h1,Lj (fun e=>h1.2 (.inr e)) h2⟩
theorem Q9{x:DL.D}{v:V}(hD:H D=none)(hk:K.lookup D=none)(h:RD K Z m H x v):RD K (aJ Z D) m (aI H D o0) x v:=by
 cases x with
 | dat p=>exact RP.tr (fun a vs q=>SqT.same (bX hD) q) (Pq hD hk) p v h
 | cel a=>exact h
theorem Qq{x:DL.D}{v:V}(hD:H D=some o0)(mu:pW o0)(h:RD K (aJ Z D) m H x v):RD K (aJ Z D) m (aI H D o1) x v:=by
 cases x with
 | dat p=>exact RP.tr (uX hD mu) Dj p v h (zD hD mu)
 | cel a=>exact h
theorem Z4(ok:Ok K Z m H)(hD:H D=none)(hk:K.lookup D=none):Ok K (aJ Z D) m (aI H D o0):=by
 refine⟨fun a c h=>?_,fun a h=>?_⟩
 ·obtain⟨o,h1,h2⟩:=ok.g a c h;have ne:a≠D:=by rintro rfl;rw[hD]at h1;cases h1
  exact⟨o,by rw[aX ne];exact h1,h2.lift fun p v q=>RP.tr (fun a vs q=>SqT.same (bX hD) q) (Pq hD hk) p v q⟩
 ·rcases h with h | h
  ·have ne:a≠D:=by rintro rfl;exact(ok.z a h).2 hD
   exact⟨(ok.z a h).1,by rw[aX ne];exact(ok.z a h).2⟩
  ·subst h;exact⟨(dJ ok hD).1,by rw[bQ];intro z;cases z⟩
theorem Yo(ok:Ok K (aJ Z D) m H)(hD:H D=some o0)(mu:pW o0):Ok K (aJ Z D) m (aI H D o1):=by
 refine⟨fun a c h=>?_,fun a h=>?_⟩
 ·obtain⟨o,h1,h2⟩:=ok.g a c h;have ne:a≠D:=by
   rintro rfl;have:=(ok.z a (.inr rfl)).1
   rw[h]at this
   cases this
  exact⟨o,by rw[aX ne];exact h1,h2.lift fun p v q=>RP.tr (uX hD mu) Dj p v q (zD hD mu)⟩
 ·by_cases e:a=D
  ·subst e;exact⟨(ok.z a h).1,by rw[bQ];intro z;cases z⟩
  ·exact⟨(ok.z a h).1,by rw[aX e];exact(ok.z a h).2⟩
theorem AC(e:Ext K Z m1 H1 m H)(ok1:Ok K Z m1 H1)(hD:H1 D=none)(hk:K.lookup D=none)(hH:H D=some o0)(mu:pW o0):Ext K Z m1 H1 m (aI H D o1) :=
 ⟨fun a vs h=>uX hH mu a vs (e.t a vs h),fun a vs h1 h2=>let ⟨q1,q2⟩:=e.l a vs h1 h2;⟨q1,Lj (SqL.ne hD hk h2) q2⟩,fun a h=>by
  have ne:a≠D:=by rintro rfl;exact(ok1.z a h).2 hD
  rw[aX ne];exact e.z a h,e.c,fun a o u h=>by
  have q:=e.fz a o u h
  rw[aX (by rintro rfl;rw[hH]at q;cases q;exact mu.2 _ _ rfl)]
  exact q,e.fm⟩
end
def fA{α:Type}(g:DG)(t:DT)(fE:aU->Mu->α->(α->Mu->Prop)->Prop):List D->α->aU->Mu->(α->Mu->Prop)->Prop
 | [],a,_,m,Q=>Q a m
 | x::xs,a,d,m,Q=>g x d m fun d1 m1=>t d1 m1 fun b m2=>if b=true then fE d1 m2 a fun a' m3=>fA g t fE xs a' d1 m3 Q else fA g t fE xs a d1 m2 Q
structure AccR (K:PySem.W.Frag) {α:Type} (AR:(Addr->Prop)->Mu->Hp->α->HO->Prop):Prop where
 lift:∀ {Z Z':Addr->Prop} {m m':Mu} {H H':Hp} {a:α} {o:HO},(∀ p v,RP K Z m H p v->RP K Z' m' H' p v)->AR Z m H a o->AR Z' m' H' a o
 mu:∀ {Z:Addr->Prop} {m:Mu} {H:Hp} {a:α} {o:HO},AR Z m H a o->pW o
def Gx(X:Cx)(D:Addr)(emit:Addr->Env->Sem Unit){α:Type}(AR:(Addr->Prop)->Mu->Hp->α->HO->Prop)(fE:aU->Mu->α->(α->Mu->Prop)->Prop):Prop :=
 ∀ (pins:List (Addr×Obj)) (s:Shared) (σ:L2.St) (H:Hp) (Z:Addr->Prop) (d:aU) (m:Mu) (a:α) (o:HO) (Q:α->Mu->Prop),Inv X pins σ H s->Ok X.K (aJ Z D) m H->RS X.K (aJ Z D) m H d σ->H D=some o->AR (aJ Z D) m H a o->fE d m a Q ->
  wpAny (model X.prog X.w) X.A (emit D X.env) (fun _ s'=>∃ a' m' H' o',Q a' m'/\Ext X.K (aJ Z D) m H m' H'/\Ok X.K (aJ Z D) m' H'/\AR (aJ Z D) m' H' a' o'/\Inv X pins σ (aI H' D o') s') (fun _ _=>False) s
section
variable {X:Cx}{e tg iter:Expr}{ifs:List Expr}{emit:Addr->Env->Sem Unit}{scope:Scope}{NC:List Str}{fi:DI}{g:DG}{t:DT}{α:Type}{AR:Addr->(Addr->Prop)->Mu->Hp->α->HO->Prop}{fE:aU->Mu->α->(α->Mu->Prop)->Prop}{newAcc:Sem Value}{ob:Obj}{a0:α}{o0:Addr->HO}
theorem K6(ce:CompE e tg iter ifs emit)(ac:∀ D,AccR X.K (AR D))(hnew:∀ {Q:Value->Shared->Prop} {s:Shared},Q (.ref s.heap.objs.size) {s with heap:=s.heap.push ob}->wpAny (model X.prog X.w) X.A newAcc Q X.xe s)(hfr:ob.isFreed=false)
  (hob:∀ (H:Hp) (h:Heap) (a:Addr),sysModules<a->h.get? a=some ob->ObjOk X.prog X.w H h a (o0 a)) (h00:∀ D Z m H,AR D Z m H a0 (o0 D))
  (src:List (Option Nat)) (hc:X.calm=true) (hi:PI X tg iter (LI X.K fi))
  (hg:∀ cl C s2 H2 pins fp,PG (aP X scope cl C NC s2 H2 pins fp) tg (LG X.K g)) (ht:∀ cl C s2 H2 pins fp,PF (aP X scope cl C NC s2 H2 pins fp) ifs (LT X.K t)) (he:∀ cl C s2 H2 pins fp D,Gx (aP X scope cl C NC s2 H2 pins fp) D emit (AR D) fE)
  (hkind:scope.kind=.function) (hcell:∀ y∈scope.names,y.2≠.cell) (hnames:∀ y∈scope.names,y.2=.local->scope.names.lookup y.1=some .local)
  (hfree:∀ x,(x,NameKind.free)∈scope.names->X.env.kindOf x=some .cell\/X.env.kindOf x=some .free) (hsrc:jK X scope NC src)
  (hs:∀ x,foldedSetIterable iter X.env x=pure x) {use:Option (Value->Sem Unit)} {QQ:Value->Shared->Prop} {pos':Pos} {pins:List (Addr×Obj)} {s:Shared} {σ:L2.St} {H:Hp} {Z:Addr->Prop} {d:aU} {m:Mu} {RL:α->Mu->Prop}
  (I:Inv X pins σ H s) (ok:Ok X.K Z m H) (rs:RS X.K Z m H d σ) (h:fi d m fun xs m1=>fA g t fE xs a0 (bK src d) m1 RL)
  (fin:∀ (s5:Shared) (C D:Addr) (H':Hp) (m':Mu) (a:α) (o:HO),RL a m'->H' D=some o->m' D=none->Ext X.K Z m H m' H'->Ok X.K Z m' H'->AR D Z m' H' a o->(∀ c,AR D Z (aS m' D c) H' a o) ->
   (∀ c,RC X.K Z (aS m' D c) H' c o->Ext X.K Z m H (aS m' D c) H'/\Ok X.K Z (aS m' D c) H')->(∃ mm,s5.heap.Ns C mm)->Inv X pins σ H' s5->Off X pins H' C ->
   compPost (model X.prog X.w) X.A X.xe use QQ (.ref D) C (.ok .next) s5) :
  wpAny (model X.prog X.w) X.A (comprehension e scope X.env pos' newAcc false (eval iter X.env) use) QQ X.xe s:=by
 obtain⟨cl,hclos,hcl1,hcl2⟩:=Fn (scope:=scope) (env:=X.env) fun x hx=>I.ok.has x (hfree x hx);refine wpAny_comprehension_free (use:=use) ce.cl hs hclos hkind hnames ?_;refine aM (hi pins s σ H (fun J H1=>∃ xs m1,Ext X.K Z m H m1 H1/\Ok X.K Z m1 H1/\lZ X.K Z m1 H1 xs J/\fA g t fE xs a0 (bK src d) m1 RL) I
  ⟨Z,d,m,_,ok,rs,h,fun xs m1 H1 J q e1 ok1 y1=>⟨xs,m1,e1,ok1,y1,q⟩⟩) fun xv s₁ h₁=>aM h₁ fun itv s₂ h₂=>?_
 obtain⟨it,fp,tn,J,H2,eit,I2,T,st2,f2,xs,m1,e1,ok1,yl,lp⟩:=h₂;subst eit;refine hnew (wpAny_newFunctionEnv hcell (by intro y hy;simp at hy) (fun h₁ hns₁ hsb₁=>?_) hkind)
 dsimp only at hns₁ hsb₁ ⊢
 generalize hH2:s₂.heap.push ob=HP at hns₁ hsb₁ ⊢
 have hC:HP.objs.size=s₂.heap.objs.size+1:=by rw[<- hH2,Heap.size_push]
 have leC:s₂.heap.objs.size<=HP.objs.size:=by rw[hC];exact Nat.le_succ _
 have old:∀ b o,s₂.heap.get? b=some o->h₁.get? b=some o:=fun b o e=>hsb₁.extBut b o (Nat.ne_of_lt (Nat.lt_of_lt_of_le (Heap.lt_size e) leC)) (Heap.get?_push_of_some _ (hH2▸Heap.get?_push_of_some _ e))
 have hacc:h₁.get? s₂.heap.objs.size=some ob:=hsb₁.extBut _ _ (by rw[hC];exact Nat.ne_of_lt (Nat.lt_succ_self _)) (Heap.get?_push_of_some _ (hH2▸Heap.get?_push_size _ hfr))
 have hD:H2 s₂.heap.objs.size=none:=I2.hok.fresh (Nat.le_refl _)
 have hkD:X.K.lookup s₂.heap.objs.size=none:=by
  cases e:X.K.lookup s₂.heap.objs.size with
  | none=>rfl
  | some o=>exact absurd (Heap.lt_size (I2.kIn _ o e)) (Nat.lt_irrefl _)
 have obf:∀ b∈fp,∃ o,s₂.heap.get? b=some o/\∀ v,o.data≠.cell v:=T.obj 0 _ st2
 have hσ:∀ (i:Nat) (x:Str) (v:V),NC[i]?=some x->(bK src σ)[i]?=some (some v)->fT (relabel scope X.env) x->((relabel scope X.env).names.lookup x=some .cell\/(relabel scope X.env).names.lookup x=some .free)/\(X.env.kindOf x=some .cell\/X.env.kindOf x=some .free)/\∃ j:Nat,X.N[j]?=some x/\σ[j]?=some (some v):=fun i x v h1 h2 _=>by
  obtain⟨j,q1,q2⟩:=Fj h2;obtain⟨a1,a2,a3⟩:=hsrc.2 i x j h1 q1;exact⟨a3,hfree x a2,j,a1,q2⟩
 have I4:=fun tk=>Gu (o0:=o0 s₂.heap.objs.size) (cl:=cl) (NC:=NC) (σ':=bK src σ) (tk:=tk) I2 f2 obf hkind hcell hcl1 hcl2 (by unfold bK;rw[List.length_map];exact hsrc.1.symm) hσ hC hns₁ old (hob _ _ _ I2.big hacc)
 have st4:tn 0 h₁:=T.keep 0 _ _ st2 fun b _ o e=>old b o e
 have loop:∀ s₃:Shared,s₃={s₂ with heap:=h₁,toks:=s₂.toks+([]:List (Str×Value)).length} ->
   codeAny (model X.prog X.w) X.A (.compLoop e 0 (.ref it) (.ref s₂.heap.objs.size) (compEnvC scope cl HP.objs.size X.env))
    (compPost (model X.prog X.w) X.A X.xe use QQ (.ref s₂.heap.objs.size) HP.objs.size) s₃:=by
  rintro s₃ rfl;refine Q1 ce (fun n s'=>∃ (i:Nat) (o:HO) (acc:α) (d':aU) (m':Mu) (σ':L2.St) (H':Hp),n=xs.length-i/\i<=xs.length/\Inv (aP X scope cl HP.objs.size NC s₂ H2 pins fp) [] σ' H' s'/\tn i s'.heap/\(∀ b∈fp,H' b=none) /\
   H' s₂.heap.objs.size=some o/\AR s₂.heap.objs.size (aJ Z s₂.heap.objs.size) m' H' acc o/\Ext X.K Z m1 H2 m' H'/\Ok X.K (aJ Z s₂.heap.objs.size) m' H'/\RS X.K (aJ Z s₂.heap.objs.size) m' H' d' σ' /\
   fA g t fE (xs.drop i) acc d' m' RL) ?_ xs.length ?_
  rotate_left
  ·have rs1:RS X.K Z m1 H2 (bK src d) (bK src σ):=yB src (rs.ext e1)
   refine⟨0,o0 _,a0,bK src d,m1,bK src σ,_,by simp,Nat.zero_le _,I4 _,st4,fun b hb=>?_,bQ,h00 _ _ _ _,ok1.ext (bX hD),Z4 ok1 hD hkD,⟨rs1.1,fun i x hx=>?_⟩,by simpa using lp⟩
   ·obtain⟨o,ho,_⟩:=obf b hb;rw[aX (Nat.ne_of_lt (Heap.lt_size ho))];exact(f2 b hb).1
   ·obtain⟨v,q1,q2⟩:=rs1.2 i x hx;exact⟨v,q1,Q9 hD hkD q2⟩
  rintro n s4 ⟨i,ys,acc,d',m',σ',H',rfl,hi',I5,st5,fr5,hDy,racc,eX,ok5,rs5,lp5⟩;have stat:∀ b∈fp,dD (aP X scope cl HP.objs.size NC s₂ H2 pins fp) [] H' b:=fun b hb=>by
   obtain⟨g0,g1,g2,g3,g4,g5⟩:=f2 b hb;obtain⟨o,ho,_⟩:=obf b hb;refine⟨fr5 b hb,Nat.ne_of_lt (Nat.lt_of_lt_of_le (Heap.lt_size ho) leC),fun z=>?_,.inl hb,fun x c e=>g4 x c (hcl1 (x,c) (qW e)),fun p hp=>?_⟩
   ·rcases List.mem_cons.mp (I2.stkSub b z) with q | q
    ·exact g1 q
    ·exact g2 q
   ·rcases List.mem_append.mp hp with q | q
    ·exact g5 p q
    ·cases q
  obtain⟨y1,y2⟩:=yl m' H' eX.y
  by_cases hlt:i<xs.length
  ·rw[List.drop_eq_getElem_cons hlt]at lp5;obtain⟨go,yd⟩:=y1 i xs[i] (List.getElem?_eq_getElem hlt);refine aM (T.item (aP X scope cl HP.objs.size NC s₂ H2 pins fp) rfl rfl rfl hc i [] s4 σ' H' (fun _ _=>False) I5 stat st5 go) fun r s5 hq0=>?_;obtain⟨u,hr,h5⟩:=hq0;subst hr;refine aM h5 fun _ s6 hq0=>?_;obtain⟨x,H6,I6,r6,yy,st6,fr6⟩:=hq0;have yy':=yd x H6 yy
   have e56:Ext X.K (aJ Z s₂.heap.objs.size) m' H' m' H6:=ok5.ext yy'.same
   have rv:=yy'.rd (fun d v h=>xI hD hkD eX h) ok5
   have hDy:=yy'.same _ _ hDy
   have racc:=(ac _).lift (RP.ext e56) racc
   have eX:=jF eX hD hkD e56
   have rs5:=rs5.ext e56
   have ok5:=ok5.grow yy'.same
   have stat:∀ b∈fp,dD (aP X scope cl HP.objs.size NC s₂ H2 pins fp) [] H6 b:=fun b hb=>⟨fr6 b hb,(stat b hb).2⟩
   have I6':=I6.pinned stat (T.obj _ _ st6)
   have over:∀ {s7:Shared} {σ7:L2.St} {H7:Hp} {ys7:HO} {acc7:α} {d7:aU} {m7:Mu},Inv (aP X scope cl HP.objs.size NC s₂ H2 pins fp) ([]++jU fp s6.heap) σ7 H7 s7->H7 s₂.heap.objs.size=some ys7->AR s₂.heap.objs.size (aJ Z s₂.heap.objs.size) m7 H7 acc7 ys7 ->
     Ext X.K Z m1 H2 m7 H7->Ok X.K (aJ Z s₂.heap.objs.size) m7 H7->RS X.K (aJ Z s₂.heap.objs.size) m7 H7 d7 σ7->(fA g t fE (xs.drop (i+1)) acc7 d7 m7 RL) ->
     ∃ n,n<xs.length-i/\∃ (i:Nat) (ys:HO) (acc:α) (d':aU) (m':Mu) (σ':L2.St) (H':Hp),n=xs.length-i/\i<=xs.length/\Inv (aP X scope cl HP.objs.size NC s₂ H2 pins fp) [] σ' H' s7/\tn i s7.heap/\(∀ b∈fp,H' b=none) /\
      H' s₂.heap.objs.size=some ys/\AR s₂.heap.objs.size (aJ Z s₂.heap.objs.size) m' H' acc ys/\Ext X.K Z m1 H2 m' H'/\Ok X.K (aJ Z s₂.heap.objs.size) m' H'/\RS X.K (aJ Z s₂.heap.objs.size) m' H' d' σ' /\
      fA g t fE (xs.drop i) acc d' m' RL:=by
    intro s7 σ7 H7 ys7 acc7 d7 m7 I7 a1 a2 a3 a4 a5 a6;refine⟨xs.length-(i+1),by omega,i+1,ys7,acc7,d7,m7,σ7,H7,rfl,hlt,I7.unpinned,T.keep _ _ _ st6 fun b hb o e=>(I7.pin (b,o) (List.mem_append_right _ (List.mem_append_right _ (iD hb e)))).1,fun b hb=>?_,a1,a2,a3,a4,a5,a6⟩
    obtain⟨o,e,dd⟩:=T.obj _ _ st6 b hb;exact(I7.pin (b,o) (List.mem_append_right _ (List.mem_append_right _ (iD hb e)))).2.1
   refine aM (hg cl _ s₂ H2 pins fp _ s6 σ' _ x u (fun σ7 H7=>∃ d7 m7,Ext X.K (aJ Z s₂.heap.objs.size) m' H6 m7 H7/\Ok X.K (aJ Z s₂.heap.objs.size) m7 H7/\RS X.K (aJ Z s₂.heap.objs.size) m7 H7 d7 σ7 /\
    t d7 m7 fun b m2=>if b=true then fE d7 m2 acc fun a' m3=>fA g t fE (xs.drop (i+1)) a' d7 m3 RL else fA g t fE (xs.drop (i+1)) acc d7 m2 RL) I6' r6
    ⟨_,xs[i],d',m',_,ok5,rs5,rv,lp5,fun d7 m7 σ7 H7 q7 e7 ok7 rs7=>⟨d7,m7,e7,ok7,rs7,q7⟩⟩) fun _ s7 hq0=>?_
   obtain⟨σ7,H7,I7,d7,m7,e7,ok7,rs7,q7⟩:=hq0;refine aM (ht cl _ s₂ H2 pins fp _ s7 σ7 H7 (fun b H8=>∃ m8,Ext X.K (aJ Z s₂.heap.objs.size) m7 H7 m8 H8/\Ok X.K (aJ Z s₂.heap.objs.size) m8 H8 /\
    if b=true then fE d7 m8 acc fun a' m3=>fA g t fE (xs.drop (i+1)) a' d7 m3 RL else fA g t fE (xs.drop (i+1)) acc d7 m8 RL) I7
    ⟨_,d7,m7,_,ok7,rs7,q7,fun b m8 H8 q8 e8 ok8=>⟨m8,e8,ok8,q8⟩⟩) fun b s8 hq0=>?_
   obtain⟨H8,I8,m8,e8,ok8,q8⟩:=hq0;have e68:=e7.trans e8
   have hD8:H8 s₂.heap.objs.size=some ys:=(e68.z _ (.inr rfl)).trans hDy
   have racc8:=(ac _).lift (RP.ext e68) racc
   cases b with
   | false =>
    rw[if_neg Bool.false_ne_true]at q8;exact over I8 hD8 racc8 (jF eX hD hkD e68) ok8 (rs7.ext e8) q8
   | true =>
    rw[if_pos rfl]at q8;refine aM (he cl _ s₂ H2 pins fp _ _ s8 σ7 H8 Z d7 m8 acc ys _ I8 ok8 (rs7.ext e8) hD8 racc8 q8) fun _ s9 hq0=>?_;obtain⟨a',m9,H9,o',q9,e9,ok9,ra9,I9⟩:=hq0;have e69:=e68.trans e9
    have hD9:H9 s₂.heap.objs.size=some ys:=(e69.z _ (.inr rfl)).trans hDy
    have mu9:=(ac _).mu racc
    have rs9:=(rs7.ext e8).ext e9
    refine over I9 bQ ((ac _).lift (fun p v q=>RP.tr (uX hD9 mu9) Dj p v q (zD hD9 mu9)) ra9) (AC (jF eX hD hkD e69) ok1 hD hkD hD9 mu9) (Yo ok9 hD9 mu9) ⟨rs9.1,fun j z hj=>?_⟩ q9;obtain⟨v,a1,a2⟩:=rs9.2 j z hj;exact⟨v,a1,Qq hD9 mu9 a2⟩
  ·have ei:i=xs.length:=by omega
   subst ei;rw[List.drop_length]at lp5;refine aM (T.done (aP X scope cl HP.objs.size NC s₂ H2 pins fp) rfl rfl rfl hc _ [] s4 σ' H' (fun _ _=>False) I5 stat st5 y2) fun r s5 hq0=>?_;obtain⟨hr,I6⟩:=hq0;subst hr;have IX:=Fo I2 f2 I6 leC (Heap.SameBut.refl _ _)
   have nz:¬ Z s₂.heap.objs.size:=fun z=>(ok1.z _ z).2 hD
   have mD:=(ok5.z _ (.inr rfl)).1
   have trc:∀ c (a:Addr) (vs:List V),(m' a=none/\¬ aJ Z s₂.heap.objs.size a)->SqL X.K H' a vs->(aS m' s₂.heap.objs.size c a=none/\¬ Z a)/\SqL X.K H' a vs:=fun c a vs q1 q2=>⟨⟨by rw[bG fun z=>q1.2 (.inr z)];exact q1.1,fun z=>q1.2 (.inl z)⟩,q2⟩
   refine fin s5 HP.objs.size s₂.heap.objs.size H' m' acc ys lp5 hDy mD (e1.trans eX) (xG ok5) ((ac _).lift (fun p v q=>RP.tr (fun _ _ q=>q) (fun a vs q1 q2=>⟨⟨q1.1,fun z=>q1.2 (.inl z)⟩,q2⟩) p v q) racc) (fun c=>(ac _).lift (fun p v q=>RP.tr (fun _ _ q=>q) (trc c) p v q) racc) (fun c rc=>⟨?_,?_⟩) ⟨_,I6.loc.choose_spec.1⟩ IX ⟨I6.free,Nat.ne_of_gt (Nat.lt_of_lt_of_le I2.lt leC),Nat.le_trans I2.sz leC,fun x c e=>?_,fun p hp=>?_⟩
   ·refine⟨fun a vs q=>(e1.trans eX).t a vs q,fun a vs q1 q2=>?_,fun a q=>(e1.trans eX).z a q,fun a q=>?_,(e1.trans eX).fz,fun a q=>?_⟩
    ·obtain⟨_,q3⟩:=e1.l a vs q1 q2;have ne:=SqL.ne hD hkD q3
     obtain⟨q4,q5⟩:=(e1.trans eX).l a vs q1 q2;exact⟨by rw[bG ne];exact q4,q5⟩
    ·by_cases ea:a=s₂.heap.objs.size
     ·subst ea;rw[aZ];rfl
     ·rw[bG ea];exact(e1.trans eX).c a q
    ·have fq:=(e1.trans eX).fm a q
     have ne:a≠s₂.heap.objs.size:=by
      rintro rfl;rw[mD]at fq;rw[<- fq]at q
      cases q
     rw[bG ne];exact fq
   ·refine⟨fun a c' q=>?_,fun a q=>?_⟩
    ·by_cases ea:a=s₂.heap.objs.size
     ·subst ea;rw[aZ]at q
      cases q
      exact⟨_,hDy,rc⟩
     ·rw[bG ea]at q;obtain⟨o,q1,q2⟩:=ok5.g a c' q;exact⟨o,q1,q2.lift fun p v q3=>RP.tr (fun _ _ q=>q) (trc c) p v q3⟩
    ·have ne:a≠s₂.heap.objs.size:=fun z=>nz (z▸q)
     obtain⟨q1,q2⟩:=ok5.z a (.inl q);exact⟨by rw[bG ne];exact q1,q2⟩
   ·obtain⟨v,q⟩:=I2.cell x c e;exact Nat.ne_of_lt (Nat.lt_of_lt_of_le q.lt leC)
   ·exact Nat.ne_of_lt (Nat.lt_of_lt_of_le (Heap.lt_size (I2.pin p hp).1) leC)
 exact Wd ce (loop _ rfl) (T.self _ 0 _ _ _ st4 (loop _ rfl))
end
end DL
namespace DL
open PySem PySem.Spec PyProof.Rows L2
def iR(z:Int):Nat:=if z=-1 then 6 else z.toNat
def fU:List (List Int):=[[],[0],[1],[-1],[0,1],[0,-1],[1,-1],[0,1,-1]]
def cG(zs:List Int)(z:Int):List Int:=[0,1,-1].filter fun y=>decide (y∈zs\/y=z)
def dX(led:Bool)(zs:List Int):SetTable:={mask:=7,place:=(zs.map iR).toArray,dummies:=#[],finger:=0,led:=led,moves:=0,plain:=true}
def bZ(zs:List Int)(tks:List Tok):Array (Int×Value):=(List.zipWith (fun z t=>(hashInt z,Value.int z t)) zs tks).toArray
def ISet(P:Program)(w:World)(h:Heap)(a:Addr)(zs:List Int):Prop :=
 ∃ o tks ep,h.get? a=some o/\o.ExactSet/\zs∈fU/\tks.length=zs.length/\o.data=.set (bZ zs tks) ep (dX (!w.params.followText "set-order") zs)
theorem ISet.at{P:Program}{w:World}{h h':Heap}{a:Addr}{zs:List Int}(T:ISet P w h a zs)(k:∀ o,h.get? a=some o->h'.get? a=some o):ISet P w h' a zs:=by
 obtain⟨o,tks,ep,ho,rest⟩:=T;exact⟨o,tks,ep,k o ho,rest⟩
abbrev Gy(w:World):Obj:={cls:=.type "set",dict:=none,data:=.set #[] 0 (.fresh 0 0 (!w.params.followText "set-order"))}
theorem Sx{P:Program}{w:World}{h:Heap}{a:Addr}(e:h.get? a=some (Gy w)):ISet P w h a []:=⟨_,[],0,e,⟨rfl,rfl,rfl⟩,List.mem_cons_self,rfl,rfl⟩
def gG(zs:List Int)(z:Int):Nat:=SetTable.below (zs.map iR).toArray (iR z)
theorem Km:∀ led:Bool,∀ zs∈fU,∀ z∈([0,1,-1]:List Int),z∉zs->(dX led zs).freeSlot (hashInt z)=some (iR z,false)/\(dX led zs).put (iR z)=(dX led (cG zs z),gG zs z)/\(dX led (cG zs z)).fits (zs.length+1)=true /\
  cG zs z=zs.take (gG zs z)++z::zs.drop (gG zs z)/\cG zs z∈fU/\(dX led (cG zs z)).tooFull=false:=by decide +kernel
theorem W9:∀ zs∈fU,∀ z∈zs,cG zs z=zs:=by decide +kernel
theorem Mh{α β γ:Type}(f:α->β->γ):∀ (p:Nat) (xs:List α) (ys:List β),xs.length=ys.length->List.zipWith f (xs.take p) (ys.take p)=(List.zipWith f xs ys).take p/\List.zipWith f (xs.drop p) (ys.drop p)=(List.zipWith f xs ys).drop p
 | 0,xs,ys,_=>by simp
 | p+1,[],[],_=>by simp
 | p+1,x::xs,y::ys,h=>by
  obtain⟨a,b⟩:=Mh f p xs ys (by simpa using h)
  simp[a,b]
theorem CL{zs:List Int}{tks:List Tok}{z:Int}{led:Bool}{tk:Tok}(h:zs∈fU)(hl:tks.length=zs.length)(hz:z∈([0,1,-1]:List Int))(hn:z∉zs) :
  ∃ tks',tks'.length=(cG zs z).length/\layNew (dX led zs) (bZ zs tks) (hashInt z) (.int z tk)=(bZ (cG zs z) tks',dX led (cG zs z),false,false):=by
 obtain⟨f1,f2,f3,f4,_⟩:=Km led zs h z hz hn;have hlen:(cG zs z).length=zs.length+1:=by rw[f4];simp;omega
 refine⟨tks.take (gG zs z)++tk::tks.drop (gG zs z),by rw[hlen];simp;omega,?_⟩
 have e:SetTable.insertAt (bZ zs tks) (gG zs z) (hashInt z,.int z tk)=bZ (cG zs z) (tks.take (gG zs z)++tk::tks.drop (gG zs z)):=by
  obtain⟨c1,c2⟩:=Mh (fun z t=>(hashInt z,Value.int z t)) (gG zs z) zs tks hl.symm;apply Array.toList_inj.mp
  rw[f4];unfold SetTable.insertAt bZ;rw[List.zipWith_append (by simp;omega),List.zipWith_cons_cons,c1,c2]
  simp;rw[List.take_of_length_le (by rw[List.length_drop,List.length_zipWith];exact Nat.le_refl _)]
 unfold layNew;rw[f1];dsimp only;rw[f2];dsimp only;rw[e];have es:(bZ (cG zs z) (tks.take (gG zs z)++tk::tks.drop (gG zs z))).size=zs.length+1:=by
  unfold bZ;rw[List.size_toArray,List.length_zipWith,hlen];simp;omega
 rw[es,f3];unfold SetTable.orStandIn;rw[f3];rfl
theorem X3{zs:List Int}{tks:List Tok}(hl:tks.length=zs.length):IntsAre ((bZ zs tks).toList.map (·.2)) zs:=by
 unfold bZ;rw[List.toList_toArray]
 induction zs generalizing tks with
 | nil=>cases tks with
  | nil=>exact .nil
  | cons _ _=>simp at hl
 | cons z zs ih=>cases tks with
  | nil=>simp at hl
  | cons t tks=>exact .cons z t (ih (by simpa using hl))
theorem rH{zs:List Int}{tks:List Tok}(hl:tks.length=zs.length):(bZ zs tks).size=zs.length:=by
 unfold bZ;rw[List.size_toArray,List.length_zipWith];omega
theorem qM:∀ zs∈fU,zs.length<=3/\(∀ led,(dX led zs).fits zs.length=true):=by decide +kernel
section
variable {P:Program}{w:World}{A:Around}{E:Value->Shared->Prop}{s:Shared}{a:Addr}{zs:List Int}{z:Int}{tk:Tok}
theorem wC(z:Int)(tk:Tok):(bD P w).is (.inl z) (.int z tk)=true:=Oa z tk
theorem Zb{tks:List Tok}(hl:tks.length=zs.length):ElemsOf (bD P w) (bZ zs tks).toList/\((∃ e∈(bZ zs tks).toList,(bD P w).is (.inl z) e.2=true)↔z∈zs):=by
 unfold bZ;rw[List.toList_toArray]
 induction zs generalizing tks with
 | nil=>exact⟨(fun e he=>by cases tks<;>simp at he),by simp⟩
 | cons y zs ih=>cases tks with
  | nil=>simp at hl
  | cons t tks =>
   obtain⟨i1,i2⟩:=ih (tks:=tks) (by simpa using hl)
   refine⟨fun e he=>?_,?_⟩
   ·rw[List.zipWith_cons_cons]at he;rcases List.mem_cons.mp he with e1 | e1
    ·subst e1;exact⟨⟨.inl y,wC y t,rfl⟩,rfl⟩
    ·exact i1 e e1
   ·rw[List.zipWith_cons_cons,List.mem_cons,<- i2]
    constructor
    ·rintro⟨e,he,q⟩;rcases List.mem_cons.mp he with e1 | e1
     ·subst e1;have q:iL (.inl z) (.int y t)=true:=q
      rcases fY q with⟨i,t',e1,e2⟩ | ⟨x,t',e1,e2⟩
      ·cases e1;cases e2;exact .inl rfl
      ·cases e1
     ·exact .inr ⟨e,e1,q⟩
    ·rintro (rfl | ⟨e,he,q⟩)
     ·exact⟨_,List.mem_cons_self,wC z t⟩
     ·exact⟨e,List.mem_cons_of_mem _ he,q⟩
theorem v5{Q:Bool->Shared->Prop}(T:ISet P w s.heap a zs)(hz:z∈([0,1,-1]:List Int))
  (h:∀ b h',Heap.SameBut a s.heap h'->ISet P w h' a (cG zs z)->Q b {s with heap:=h'}) :
  wpAny (model P w) A (setAddHashed a (.int z tk) ((bD P w).hash (.inl z))) Q E s:=by
 have T0:=T
 obtain⟨o,tks,ep,ho,hex,hsub,hl,hd⟩:=T;obtain⟨l3,lf⟩:=qM zs hsub;have hf:(dX (!w.params.followText "set-order") zs).fits (bZ zs tks).size=true:=by rw[rH hl];exact lf _
 have hb:(bZ zs tks).size<scanBound:=by rw[rH hl];unfold scanBound;omega
 obtain⟨hel,mem⟩:=Zb (P:=P) (w:=w) (z:=z) hl;have hkey:=wC (P:=P) (w:=w) z tk
 unfold setAddHashed setAddHashedIn;refine wpAny_holding (wpAny_bind (wpAny_setState_of ho hd hf ?_));dsimp only;rw[byScan_of (x:=.int z tk) rfl hb hel,if_pos rfl];unfold setAddByScan;refine wpAny_bind (wpAny_bind (wpAny_rule (wpAny_bind (wpAny_setScan_of hkey ho hd hf hel ?_))))
 cases hr:List.findIdx? (fun e=>(bD P w).is (.inl z) e.2) (bZ zs tks).toList with
 | some j =>
  obtain⟨hj,hpj,_⟩:=List.findIdx?_eq_some_iff_getElem.mp hr;have hzz:z∈zs:=mem.mp ⟨_,List.getElem_mem hj,hpj⟩
  have q:=h false s.heap (Heap.SameBut.refl a s.heap) (by rw[W9 zs hsub z hzz];exact T0)
  exact wpAny_pure (wpAny_pure q)
 | none =>
  have hzz:z∉zs:=fun hz=>by
   obtain⟨e,he,q⟩:=mem.mpr hz;have:=List.findIdx?_eq_none_iff.mp hr e he
   rw[q]at this
   cases this
  dsimp only;obtain⟨tks',hl',e⟩:=CL (led:=!w.params.followText "set-order") (tk:=tk) hsub hl hz hzz;obtain⟨_,_,_,_,g5,g6⟩:=Km (!w.params.followText "set-order") zs hsub z hz hzz;have e:layNew (dX (!w.params.followText "set-order") zs) (bZ zs tks) ((bD P w).hash (.inl z)) (.int z tk)=_:=e
  generalize layNew (dX (!w.params.followText "set-order") zs) (bZ zs tks) ((bD P w).hash (.inl z)) (.int z tk)=L at e ⊢
  obtain⟨es1,t1,wd,gave⟩:=L;have gw:∀ (b:Bool) (s₁:Shared) (Q':Unit->Shared->Prop),Q' () s₁->wpAny (model P w) A (match b with | true=>rule "set.scan.the-table-gave-way" | false=>pure ()) Q' E s₁ :=
   fun b s₁ Q' hq=>by cases b<;>first | exact wpAny_pure hq | exact wpAny_rule hq
  refine wpAny_bind (gw _ _ _ ?_)
  cases e
  dsimp only;rw[if_pos (show(dX (!w.params.followText "set-order") (cG zs z)).plain=true from rfl)]
  refine wpAny_bind ?_;rw[hashByValue_scannable 8 (x:=.int z tk) rfl];refine wpAny_pure ?_;rw[if_pos (show plainKind (Value.int z tk)=true from rfl)]
  have hb':(bZ (cG zs z) tks').size<scanBound:=by rw[rH hl'];have:=(qM _ g5).1;unfold scanBound;omega
  refine wpAny_bind (wpAny_storeSet_of ho hd ?_ (fits_of_scanBound hb'));rw[g6,if_neg (by decide)]
  have o1:=Heap.get?_update_self (Obj.putSet (bZ (cG zs z) tks') (dX (!w.params.followText "set-order") (cG zs z))) ho (by rw[putSet_of _ _ hd];rfl)
  rw[putSet_of _ _ hd]at o1;exact wpAny_pure (wpAny_pure (h true _ (Heap.SameBut.update s.heap a _) ⟨_,tks',ep+1,o1,hex,g5,hl',rfl⟩))
theorem Zz{Q:Value->Shared->Prop}(T:ISet P w s.heap a zs)(hz:z∈([0,1,-1]:List Int))(h:∀ h' tk',Heap.SameBut a s.heap h'->ISet P w h' a (cG zs z)->Q .none {s with heap:=h',toks:=tk'}) :
  wpAny (model P w) A (call (.builtin "set.add") [.ref a,.int z tk]) Q E s:=by
 have T0:=T
 obtain⟨o,tks,ep,ho,hex,_⟩:=T;refine wpAny_call_entry F.slot_set_add ⟨o,ho,hex.1⟩ F.entry_set_add ?_ (F.args_set_add_2 _ _);unfold Builtin.«set.add» Builtin.Frozenset.oneOther;simp only[List.isEmpty_nil,bind_assoc];unfold Builtin.Frozenset.addrOf setAdd;refine wpAny_bind (wpAny_pure ?_)
 try dsimp only
 refine wpAny_bind (wpAny_pure ?_)
 try dsimp only
 refine wpAny_bind ?_;refine wpAny_holding ?_;refine wpAny_bind ((bD P w).pyHash (wC z tk) ?_);refine v5 (s:={s with toks:=s.toks+1}) T0 hz fun b h' sb T'=>?_;show wpAny _ _ (ret Value.none) _ _ _
 exact wpAny_pure ⟨_,rfl,h h' _ sb T'⟩
end
structure WalkOkI (P:Program) (w:World) (s s2:Shared) (S I:Addr) (zs:List Int) (fp:List Addr) (n:Nat) (Pv:Nat->Value->Prop) (St:Nat->Heap->Prop):Prop where
 walk:∀ B:Around,B.handled=none->Walks P w B I fp [I] n Pv St
 st:St 0 s2.heap
 fps:∀ b∈fp,b=S\/s.heap.objs.size<=b
 lt:∀ b∈fp,b<s2.heap.objs.size
 ext:∀ b ob,s.heap.get? b=some ob->s2.heap.get? b=some ob
 gens:s2.gens=s.gens
 os:s2.os=s.os
 n60:n<=60
 new:s.heap.objs.size<=I
 all:∀ acc,ItemsOf Pv acc n->∃ ss,IntsAre acc.toList ss/\ss.Perm zs
theorem Ut{l l':List Value}(p:l'.Perm l):∀ {vs:List Int},IntsAre l vs->∃ vs',IntsAre l' vs'/\vs'.Perm vs:=by
 induction p with
 | nil=>exact fun h=>⟨_,h,List.Perm.refl _⟩
 | cons x p ih =>
  intro vs h
  cases h with
  | cons z t h =>
   obtain⟨us,u1,u2⟩:=ih h;exact⟨z::us,.cons z t u1,u2.cons z⟩
 | swap x y l =>
  intro vs h
  cases h with
  | cons z t h=>cases h with
   | cons z' t' h=>exact⟨_,.cons _ _ (.cons _ _ h),List.Perm.swap _ _ _⟩
 | trans p q ih1 ih2 =>
  intro vs h;obtain⟨us,u1,u2⟩:=ih2 h;obtain⟨ws,w1,w2⟩:=ih1 u1;exact⟨ws,w1,w2.trans u2⟩
theorem st3:∀ zs∈fU,∀ i:Fin 3,(match ((zs.map iR).toArray)[i.val]? with | none=>true | some j=>decide (SetTable.below (zs.map iR).toArray (j+1)=i.val+1))=true:=by decide +kernel
theorem CF:∀ zs∈fU,SetTable.below (zs.map iR).toArray 0=0:=by decide +kernel
section
variable {P:Program}{w:World}{A:Around}{E:Value->Shared->Prop}{s:Shared}{S:Addr}{zs:List Int}
theorem U6{Q:Value->Shared->Prop}(hh:True)(TS:ISet P w s.heap S zs)(hz:zs.length<=60)(h:∀ I s2 fp n Pv St,WalkOkI P w s s2 S I zs fp n Pv St->Q (.ref I) s2):wpAny (model P w) A (pyIter (.ref S)) Q E s:=by
 obtain⟨o,tks,ep,ho,hex,hsub,hl,hd⟩:=TS;obtain⟨l3,lf⟩:=qM zs hsub;have hf:(dX (!w.params.followText "set-order") zs).fits (bZ zs tks).size=true:=by rw[rH hl];exact lf _
 have sz0:=rH hl
 have hv:=X3 hl
 have ltS:S<s.heap.objs.size:=Heap.lt_size ho
 have fin:∀ acc:Array Value,acc.toList.Perm ((bZ zs tks).toList.map (·.2))->∃ ss,IntsAre acc.toList ss/\ss.Perm zs:=fun acc q=>Ut q hv
 refine Jx ho hex hd hf (by omega) (fun b1 b2 b3 ys d' yp=>by cases b2) fun c=>?_
 have fps:∀ b∈[s.heap.objs.size,S],b=S\/s.heap.objs.size<=b:=fun b hb=>by
  simp at hb;rcases hb with rfl | rfl
  ·exact .inr (Nat.le_refl _)
  ·exact .inl rfl
 have lt2:∀ x:Obj,∀ b∈[s.heap.objs.size,S],b<(s.heap.push x).objs.size:=fun x b hb=>by
  simp at hb;rw[Heap.size_push];rcases hb with rfl | rfl
  ·exact Nat.lt_succ_self _
  ·exact Nat.lt_succ_of_lt ltS
 by_cases bt:w.params.followText "set-order"=true
 ·have pp:=Nj (w.params.setOrder S ep) (bZ zs tks)
  have ps:(pickOrder (w.params.setOrder S ep) (bZ zs tks)).size=(bZ zs tks).size:=by rw[<- Array.length_toList,pp.length_eq,Array.length_toList]
  refine h _ _ [s.heap.objs.size,S] (bZ zs tks).size _ _ ⟨fun B hB=>Ld hB bt (Nat.ne_of_lt ltS) hd hf ps,⟨Heap.get?_push_size _ rfl,Heap.get?_push_of_some _ ho⟩,fps,lt2 _,fun b ob e=>Heap.get?_push_of_some _ e,rfl,rfl,by omega,Nat.le_refl _,fun acc ha=>?_⟩
  have e:acc.toList=(pickOrder (w.params.setOrder S ep) (bZ zs tks)).toList.map (·.2):=by
   refine rO ha (by rw[List.length_map,Array.length_toList,ps]) fun j v ⟨x,e1,e2⟩=>?_
   rw[List.getElem?_map,Array.getElem?_toList,e1,e2];rfl
  refine fin acc ?_;rw[e];exact pp.map _
 ·have bf:w.params.followText "set-order"=false:=by simpa using bt
  have bs:∀ i j:Nat,(dX (!w.params.followText "set-order") zs).place[i]?=some j->SetTable.below (dX (!w.params.followText "set-order") zs).place (j+1)=i+1:=fun i j g=>by
   have g:((zs.map iR).toArray)[i]?=some j:=g
   have li:=(Array.getElem?_eq_some_iff.mp g).1
   have:=st3 zs hsub ⟨i,by simp at li;omega⟩
   dsimp only at this;rw[g]at this;exact of_decide_eq_true this
  refine h _ _ [s.heap.objs.size,S] (bZ zs tks).size _ _ ⟨fun B hB=>Pn hB bf (Nat.ne_of_lt ltS) hd hf (by show(!w.params.followText "set-order")=true;rw[bf];rfl) rfl bs,⟨⟨0,Heap.get?_push_size _ rfl,CF zs hsub⟩,Heap.get?_push_of_some _ ho⟩,fps,lt2 _,fun b ob e=>Heap.get?_push_of_some _ e,rfl,rfl,by omega,Nat.le_refl _,fun acc ha=>?_⟩
  have e:acc.toList=(bZ zs tks).toList.map (·.2):=by
   refine rO ha (by rw[List.length_map,Array.length_toList]) fun j v ⟨x,e1,e2⟩=>?_
   rw[List.getElem?_map,Array.getElem?_toList,e1,e2];rfl
  refine fin acc ?_;rw[e]
theorem ISet.type{h:Heap}(T:ISet P w h S zs):∃ o,h.get? S=some o/\o.cls=.type "set":=let ⟨o,_,_,ho,hx,_⟩:=T;⟨o,ho,hx.1⟩
theorem Xq{Q:List Value->Shared->Prop}(hh:A.handled=none)(T:ISet P w s.heap S zs)(hz:zs.length<=60)
  (h:∀ s' vs ss,IntsAre vs ss->ss.Perm zs->s.heap.objs.size<s'.heap.objs.size->(∀ b ob,s.heap.get? b=some ob->s'.heap.get? b=some ob)->s'.gens=s.gens->s'.os=s.os->Q vs s'):wpAny (model P w) A (collect (.ref S)) Q E s:=by
 obtain⟨oS,hoS,hcS⟩:=T.type;have ltS:S<s.heap.objs.size:=Heap.lt_size hoS
 have neL:s.heap.objs.size≠S:=Nat.ne_of_gt ltS
 unfold collect;refine wpAny_bind (wpAny_runValue (codeAny_builtin PySem.F.entry_proto_collect ?_));rw[Around.under_plainId PySem.F.plain_proto_collect _];show wpAny _ A.in1 (newList []>>=fun l=>again (.builtin "list.__iadd__" ⟨[l,.ref S],[]⟩)) _ _ s
 refine wpAny_bind (wpAny_newObj_type ?_);refine wpAny_pure ⟨plainId_quiet PySem.F.plain_list_iadd _,codeAny_builtin PySem.F.entry_list_iadd ?_⟩;rw[Around.under_plainId PySem.F.plain_list_iadd _];obtain⟨h1,eh1⟩:∃ h1,h1=s.heap.push {cls:=.type "list",data:=.seq ([]:List Value).toArray}:=⟨_,rfl⟩;rw[<- eh1];have k1:∀ b ob,s.heap.get? b=some ob->h1.get? b=some ob:=fun b ob e=>by rw[eh1];exact Heap.get?_push_of_some _ e
 have hL1:h1.get? s.heap.objs.size=some {cls:=.type "list",data:=.seq ([]:List Value).toArray}:=by rw[eh1];exact Heap.get?_push_size _ rfl
 have sz1:h1.objs.size=s.heap.objs.size+1:=by rw[eh1,Heap.size_push]
 have T1:ISet P w h1 S zs:=T.at fun ob e=>k1 S ob e
 have hT1:Shared.TypeIs {s with heap:=h1} (.ref S) "set":=⟨oS,k1 S oS hoS,hcS⟩
 show wpAny _ A.in1 (Builtin.List.listExtendWith (.ref s.heap.objs.size) (.ref S) (.ref s.heap.objs.size)) _ _ _
 unfold Builtin.List.listExtendWith;refine wpAny_bind (wpAny_typeOf hT1 ?_);have c1:Builtin.List.listSameRef (.ref s.heap.objs.size) (.ref S)=false:=by simp[Builtin.List.listSameRef,neL]
 rw[c1,if_neg (by decide)]
 refine wpAny_bind (U6 (s:={s with heap:=h1}) True.intro T1 hz fun I s2 fp n Pv St W=>?_);have hT2:s2.TypeIs (.ref S) "set":=⟨oS,W.ext S oS (k1 S oS hoS),hcS⟩
 refine wpAny_bind (wpAny_holding (Nl hT2 ?_));rw[if_pos (by decide +kernel)]
 refine wpAny_bind (wpAny_rule ?_);have hL2:s2.heap.get? s.heap.objs.size=some {cls:=.type "list",data:=.seq ([]:List Value).toArray}:=W.ext _ _ hL1
 refine wpAny_bind ?_;show wpAny _ A.in1 (updateSeq s.heap.objs.size (·.push .none)>>=fun _=>updateSeq s.heap.objs.size (·.pop)) _ _ _
 refine wpAny_bind (wpAny_updateSeq hL2 rfl ?_);have hL3:=Heap.get?_update_self (Obj.mapSeq (·.push Value.none)) hL2 rfl
 refine wpAny_updateSeq hL3 rfl ?_;have hL4:=Heap.get?_update_self (Obj.mapSeq (·.pop)) hL3 rfl
 have nf:s.heap.objs.size∉fp:=fun q=>by
  rcases W.fps _ q with e | e
  ·exact neL e
  ·have e:h1.objs.size<=s.heap.objs.size:=e
   rw[sz1]at e;exact absurd e (Nat.not_succ_le_self _)
 have oth:∀ b ob,b≠s.heap.objs.size->s2.heap.get? b=some ob->((s2.heap.update s.heap.objs.size (Obj.mapSeq (·.push Value.none))).update s.heap.objs.size (Obj.mapSeq (·.pop))).get? b=some ob:=fun b ob hb e=>(Heap.get?_update_other _ _ (Ne.symm hb)).trans ((Heap.get?_update_other _ _ (Ne.symm hb)).trans e)
 have WS:=(W.walk A.in1 (by simp[hh])).toS
 have n1:n<=sizeLine:=Nat.le_trans W.n60 (by rw[sizeLine_eq];decide)
 have st2:=(W.walk A.in1 (by simp[hh])).frame 0 s2.heap _ W.st fun b hb ob e=>oth b ob (by rintro rfl;exact nf hb) e
 refine wpAny_pure ⟨plainId_quiet PySem.F.plain_extend_loop _,codeAny_extend_loopS WS n1 _ nf _ n 0 _ _ _ rfl (Nat.zero_le _) st2 hL4 (ItemsOf.nil Pv) fun s' acc' c' hm hS' hacc=>?_⟩;show wpAny _ A (load s.heap.objs.size>>=_) _ _ s'
 refine wpAny_bind (wpAny_load hS' ?_);obtain⟨ss,q1,q2⟩:=W.all acc' hacc;refine wpAny_pure (h s' acc'.toList ss q1 q2 (Heap.lt_size hS') (fun b ob e=>hm.heap b ob ?_ (oth b ob ?_ (W.ext b ob (k1 b ob e)))) (hm.gens.trans W.gens) (hm.os.trans W.os))
 ·intro q;rcases List.mem_cons.mp q with q | q
  ·exact absurd (Heap.lt_size e) (by rw[q];exact Nat.lt_irrefl _)
  ·have q:b=I:=by simpa using q
   have l1:=Heap.lt_size e
   have l2:h1.objs.size<=I:=W.new
   rw[sz1]at l2;rw[q]at l1;exact absurd (Nat.lt_of_lt_of_le l1 (Nat.le_trans (Nat.le_succ _) l2)) (Nat.lt_irrefl _)
 ·intro q;exact absurd (Heap.lt_size e) (by rw[q];exact Nat.lt_irrefl _)
theorem Z1{Q:Value->Shared->Prop}(hh:A.handled=none)(T:ISet P w s.heap S zs)(hz:zs.length<=60)
  (h:∀ (s':Shared) (vs:List Value) (ss:List Int) (e:Nat) (L:Addr),IntsAre vs ss->ss.Perm zs->ss.Pairwise (·<=·)->s.heap.objs.size<=L->s'.heap.get? L=some (seqObj "list" vs.toArray e)->(∀ b ob,s.heap.get? b=some ob->s'.heap.get? b=some ob)->s'.gens=s.gens->s'.os=s.os->Q (.ref L) s') :
  wpAny (model P w) A (call (.builtin "sorted") [.ref S]) Q E s:=by
 refine Calls.call_function_entry kind_sorted plain_sorted entry_sorted (args_sorted1 _) ?_;unfold Builtin.«sorted»;refine wpAny_bind (m:=checkCount "sorted" 1 1 _) (wpAny_pure ?_);refine wpAny_bind (Xq (by simp[hh]) T hz fun s1 vs ss hS hp lt1 k1 g1 o1=>?_)
 have vl:vs.length<64:=by
  have q1:=congrArg List.length hS.nums
  have q2:=hp.length_eq
  simp at q1;omega
 refine wpAny_bind (wpAny_newList ?_);obtain⟨h2,eh2⟩:∃ h2,h2=s1.heap.push (seqObj "list" vs.toArray 0):=⟨_,rfl⟩;have hoL:h2.get? s1.heap.objs.size=some (seqObj "list" vs.toArray 0):=by rw[eh2];exact Heap.get?_push_size _ rfl
 show wpAny _ _ _ _ _ {s1 with heap:=s1.heap.push (seqObj "list" vs.toArray 0)}
 rw[<- eh2];refine wpAny_bind (wpAny_holding (wpAny_call_entry slot_list_sort ⟨_,hoL,rfl⟩ entry_list_sort (list_sort_tree (s:={s1 with heap:=h2}) hoL hS vl fun out ss' b1 b2 b3=>⟨_,rfl,?_⟩) (args_list_sort _)));obtain⟨e,he⟩:=sortedHeap_at (h:=h2) (a:=s1.heap.objs.size) (vs:=vs) (n:=0) (out:=out) hoL;refine wpAny_pure ⟨_,rfl,h _ _ ss' e s1.heap.objs.size b1 (b2.trans hp) b3 (Nat.le_of_lt lt1) (by rw[Array.toArray_toList];exact he) (fun b ob hb=>?_) g1 o1⟩
 have lb:b<s1.heap.objs.size:=Heap.lt_size (k1 b ob hb)
 show(sortedHeap h2 _ _ _).get? b=_
 rw[sortedHeap_old (Nat.ne_of_lt lb) (by rw[eh2,Heap.size_push];exact Nat.lt_succ_of_lt lb),eh2]
 exact Heap.get?_push_of_some _ (k1 b ob hb)
end
end DL
namespace DL
open PySem PySem.Spec PyProof.Rows L2
abbrev Ma(elt:Expr):Addr->Env->Sem Unit:=fun D env=>do
 let v <- eval elt env
 standAt elt.pos
 let _ <- call (.builtin "set.add") [.ref D,v]
theorem D5{elt tg iter:Expr}{ifs:List Expr}{scope:Scope}{pos:Pos}:CompE (.SetComp elt [⟨tg,iter,ifs,0⟩] scope pos) tg iter ifs (Ma elt):=⟨.inl ⟨_,_,_,_,rfl⟩,rfl,fun it D env=>rfl⟩
def Gf(P:Program)(w:World)(D:Addr)(_:Addr->Prop)(_:Mu)(_:Hp)(zs:List Int)(o:HO):Prop:=o=.ext fun h=>ISet P w h D zs
theorem Vt{P:Program}{w:World}{K:PySem.W.Frag}(D:Addr):AccR K (Gf P w D):=⟨fun _ h=>h,fun h=>by cases h;exact⟨(fun _ e=>nomatch e),(fun _ _ e=>nomatch e)⟩⟩
theorem Gr{P:Program}{w:World}{H:Hp}{h:Heap}{a:Addr}{zs:List Int}(T:ISet P w h a zs):ObjOk P w H h a (.ext fun h=>ISet P w h a zs) :=
 ⟨T,(let ⟨o,_,_,e,_⟩:=T;⟨o,e⟩),fun h1 h2 q k=>q.at fun o e=>k o e⟩
def sL(x:D)(z:Int):Prop:=x=.dat (.int z)/\z∈([0,1,-1]:List Int)
section
variable {X:Cx}{elt tg iter:Expr}{ifs:List Expr}{scope:Scope}{NC:List Str}{fi:DI}{g:DG}{t:DT}{f:DE}{pos:Pos}
theorem x0{Q:Value->Shared->Prop}{s:Shared}(h:Q (.ref s.heap.objs.size) {s with heap:=s.heap.push (Gy X.w)}):wpAny (model X.prog X.w) X.A (newSet (.type "set")) Q X.xe s:=by
 unfold newSet setsByText;refine wpAny_bind (wpAny_bind (wpAny_askSetting (wpAny_pure ?_)));dsimp only;simp only[newObj];exact wpAny_bind (wpAny_alloc (wpAny_pure h))
theorem A2{D:Addr}(he:PE X elt (LE X.K f))(hx:X.xe=fun _ _=>False):Gx X D (Ma elt) (Gf X.prog X.w D) (fun d m zs Q=>f d m fun x m1=>∃ z,sL x z/\Q (cG zs z) m1):=by
 intro pins s σ H Z d m zs o Q I ok rs hD ha q
 cases ha
 have he1:=he pins s σ H (fun v H1=>∃ m1 z,v=.int z/\z∈([0,1,-1]:List Int)/\Q (cG zs z) m1/\Ext X.K (aJ Z D) m H m1 H1/\Ok X.K (aJ Z D) m1 H1) I
  ⟨aJ Z D,d,m,(fun x m1=>∃ z,sL x z/\Q (cG zs z) m1),ok,rs,q,fun x m1 v H1 h1 e1 ok1 rd=>by
   obtain⟨z,⟨e,hz⟩,q1⟩:=h1;subst e;exact⟨m1,z,rd.int,hz,q1,e1,ok1⟩⟩
 rw[hx]at he1;refine wpAny_bind (aM he1 fun u s1 hq=>?_);obtain⟨v,H1,I1,rv,m1,z,ev,hz,q1,e1,ok1⟩:=hq;subst ev;obtain⟨tk,rfl⟩:=rv;have hD1:H1 D=some (.ext fun h=>ISet X.prog X.w h D zs):=(e1.z _ (.inr rfl)).trans hD
 have T:ISet X.prog X.w s1.heap D zs:=(I1.hok _ _ hD1).1
 refine wpAny_bind (wpAny_standAt (wpAny_bind (Zz T hz fun h' tk' sb T'=>wpAny_pure ?_)));refine⟨cG zs z,m1,H1,_,q1,e1,ok1,rfl,?_⟩;have I2:=I1.write (t':=tk') (h':=h') (x:=D) (e:=D) (o:=.ext fun h=>ISet X.prog X.w h D (cG zs z)) (by rw[hD1];exact True.intro) (.inl rfl) (fun b u hb e=>(sb.2 b hb).trans e) (let ⟨o,_,_,e,_⟩:=T';⟨o,e⟩) (Gr T')
 exact I2
def eG(zs:List Int):List Int:=[-1,0,1].filter fun z=>decide (z∈zs)
theorem Ta:∀ zs∈fU,(eG zs).Perm zs/\(eG zs).Pairwise (·<=·):=by
 intro zs h;have:∀ zs∈fU,(eG zs).isPerm zs=true/\(eG zs).Pairwise (·<=·):=by decide +kernel
 obtain⟨a,b⟩:=this zs h;exact⟨List.isPerm_iff.mp a,b⟩
theorem Wi{ys zs:List Int}(h:zs∈fU)(p:ys.Perm zs)(s:ys.Pairwise (·<=·)):ys=eG zs:=by
 obtain⟨q,r⟩:=Ta zs h;exact(p.trans q.symm).eq_of_pairwise (fun a b _ _ h1 h2=>Int.le_antisymm h1 h2) s r
theorem rD:∀ {vs:List Value} {ys:List Int},IntsAre vs ys->Vals (ys.map V.int) vs
 | _,_,.nil=>.nil
 | _,_,.cons z t h=>.cons ⟨t,rfl⟩ (rD h)
theorem Jg{K:PySem.W.Frag}{Z:Addr->Prop}{m:Mu}{H:Hp}:∀ ys:List Int,RPs K Z m H (ys.map .int) (ys.map V.int)
 | []=>rfl
 | y::ys=>⟨_,_,rfl,by simp only[RP],Jg ys⟩
@[simp] def vA(src:List (Option Nat))(fi:DI)(g:DG)(t:DT)(f:DE):DE:=fun d m Q=>fi d m fun xs m1=>fA g t (fun d m zs Q=>f d m fun x m1=>∃ z,sL x z/\Q (cG zs z) m1) xs [] (bK src d) m1 fun zs m2=>Q (.dat (.list ((eG zs).map .int))) m2
theorem P7{p pos2:Pos}(src:List (Option Nat))(hc:X.calm=true)(hg0:Gl X "sorted")(hm0:X.mg "sorted"=none)(hi:PI X tg iter (LI X.K fi))
  (hg:∀ cl C s2 H2 pins fp,PG (aP X scope cl C NC s2 H2 pins fp) tg (LG X.K g)) (ht:∀ cl C s2 H2 pins fp,PF (aP X scope cl C NC s2 H2 pins fp) ifs (LT X.K t)) (he:∀ cl C s2 H2 pins fp,PE (aP X scope cl C NC s2 H2 pins fp) elt (LE X.K f))
  (hkind:scope.kind=.function) (hcell:∀ y∈scope.names,y.2≠.cell) (hnames:∀ y∈scope.names,y.2=.local->scope.names.lookup y.1=some .local)
  (hfree:∀ x,(x,NameKind.free)∈scope.names->X.env.kindOf x=some .cell\/X.env.kindOf x=some .free) (hsrc:jK X scope NC src)
  (hs:∀ x,foldedSetIterable iter X.env x=pure x:=by intro _;rfl)
  (hs2:starEach [.SetComp elt [⟨tg,iter,ifs,0⟩] scope pos2] X.env=[(false,eval (.SetComp elt [⟨tg,iter,ifs,0⟩] scope pos2) X.env)]:=by rfl) :
  PE X (.Call (.Name "sorted" p) [.SetComp elt [⟨tg,iter,ifs,0⟩] scope pos2] [] pos) (LE X.K (vA src fi g t f)):=by
 intro pins s σ H Q I h;obtain⟨Z,d,m,R,ok,rs,h,k⟩:=h;refine Call_ (jJ I hg0 hm0 Ba (PyProof.Rows.callWith_builtin1 ?_ hs2 rfl));rw[hs2];show wpAny _ _ (spliced ((false,eval (.SetComp elt [⟨tg,iter,ifs,0⟩] scope pos2) X.env)::[])) _ _ s
 refine Calls.spliced_cons ?_;rw[arm_eval_SetComp];refine K6 (AR:=Gf X.prog X.w) (o0:=fun D=>.ext fun h=>ISet X.prog X.w h D []) (a0:=[]) D5 (fun D=>Vt D) (fun {Q s} q=>x0 q) rfl (fun H h a _ e=>Gr (Sx e)) (fun D Z m H=>rfl) src hc hi hg ht (fun cl C s2 H2 pins fp D=>A2 (he cl C s2 H2 pins fp) rfl) hkind hcell hnames hfree hsrc hs (use:=none) (RL:=fun zs m2=>R (.dat (.list ((eG zs).map .int))) m2) I ok rs h ?_;intro s5 C D H' m' zs o q hDo mD e ok' ar _ _ ⟨mm,hns⟩ I5 off
 cases ar
 refine⟨mm,hns,fun h' hs'=>?_⟩;have I6:=off.inv I5 hs'
 have T:ISet X.prog X.w h' D zs:=(I6.hok _ _ hDo).1
 have hsub:zs∈fU:=let ⟨_,_,_,_,_,q,_⟩:=T;q
 refine Calls.spliced_nil ?_;refine Z1 (s:={s5 with heap:=h'}) (I6.ok.hd hc) T (by have:=(qM zs hsub).1;omega) fun s' vs' ys e' L hS hp hs'' lt hL k2 g2 o2=>?_
 obtain rfl:=Wi hsub hp hs'';have hv:=rD hS
 have hf:H' L=none:=I6.hok.fresh lt
 have I2:=I6.laid (t':=s'.toks) (h':=s'.heap) (a:=L) (o:=.lst ((eG zs).map V.int)) k2 lt ⟨by rw[List.length_map,sizeLine_eq];have:=hp.length_eq;have:=(qM zs hsub).1;omega,vs',e',hv,hL⟩
 have I3:Inv X pins σ (aI H' L (.lst ((eG zs).map V.int))) s':=Lu I2 rfl g2 o2
 have sm:Same H' (aI H' L (.lst ((eG zs).map V.int))):=bX hf
 refine⟨.ref L,_,I3,rfl,k _ m' _ _ q (e.trans (ok'.ext sm)) (ok'.grow sm) ?_⟩;simp only[RD,RP];exact⟨L,_,rfl,dJ ok' hf,.inl (.inl bQ),Jg _⟩
theorem Sm{p pos2:Pos}(NC:List Str)(src:List (Option Nat))(hc:X.calm=true)(hg0:Gl X "sorted")(hm0:X.mg "sorted"=none)(hi:PI X tg iter (LI X.K fi))
  (hg:∀ cl C s2 H2 pins fp,PG (aP X scope cl C NC s2 H2 pins fp) tg (LG X.K g)) (ht:∀ cl C s2 H2 pins fp,PF (aP X scope cl C NC s2 H2 pins fp) ifs (LT X.K t)) (he:∀ cl C s2 H2 pins fp,PE (aP X scope cl C NC s2 H2 pins fp) elt (LE X.K f))
  (hkind:scope.kind=.function:=by rfl) (hB:chkB scope X.env=true:=by rfl) (hS:chkS X.N scope X.env NC src=true:=by rfl)
  (hs:∀ x,foldedSetIterable iter X.env x=pure x:=by intro _;rfl)
  (hs2:starEach [.SetComp elt [⟨tg,iter,ifs,0⟩] scope pos2] X.env=[(false,eval (.SetComp elt [⟨tg,iter,ifs,0⟩] scope pos2) X.env)]:=by rfl) :
  PE X (.Call (.Name "sorted" p) [.SetComp elt [⟨tg,iter,ifs,0⟩] scope pos2] [] pos) (LE X.K (vA src fi g t f)) :=
 P7 (NC:=NC) src hc hg0 hm0 hi hg ht he hkind (chkB.ok hB).1 (chkB.ok hB).2.1 (chkB.ok hB).2.2 (chkS.ok hS) hs hs2
end
end DL
namespace DL
open PySem PySem.Spec PyProof.Rows L2
section
variable {X:Cx}{a:Expr}{f:DE}{pos p2 p3:Pos}
theorem Vals.rel:∀ {xs:List V} {us:List Value},Vals xs us->xs.length=us.length/\∀ (i:Nat) x u,xs[i]?=some x->us[i]?=some u->RelV x u
 | _,_,.nil=>⟨rfl,fun i x u e=>by simp at e⟩
 | _,_,.cons r t=>⟨by simp[(Vals.rel t).1],fun i x u e1 e2=>by
  cases i with
  | zero=>cases e1;cases e2;exact r
  | succ i=>exact(Vals.rel t).2 i x u (by simpa using e1) (by simpa using e2)⟩
theorem RPs.rel{K:PySem.W.Frag}{Z:Addr->Prop}{m:Mu}{H:Hp}:∀ {xs:List PyData} {vs:List V},RPs K Z m H xs vs->xs.length=vs.length/\∀ (i:Nat) x u,xs[i]?=some x->vs[i]?=some u->RP K Z m H x u
 | [],vs,h=>by
  cases (show vs=[] from h)
  exact⟨rfl,fun i x u e=>by simp at e⟩
 | p::ps,vs,h=>by
  obtain⟨v,r,rfl,h1,h2⟩:=h;obtain⟨q1,q2⟩:=RPs.rel h2;refine⟨by simp[q1],fun i x u e1 e2=>?_⟩
  cases i with
  | zero=>cases e1;cases e2;exact h1
  | succ i=>exact q2 i x u (by simpa using e1) (by simpa using e2)
end
end DL
namespace DL
open PySem PySem.Spec PyProof.Rows L2
section
variable {prog:Program}{w:World}{A:Around}{E:Value->Shared->Prop}{s:Shared}
theorem wS{h h':Heap}{t:Addr}{xs:Array Value}(g:h.IsTuple t xs)(k:∀ o,h.get? t=some o->h'.get? t=some o):h'.IsTuple t xs:=let ⟨o,e,r⟩:=g;⟨o,k o e,r⟩
theorem C4{h h':Heap}{t:Addr}{xs:Array Value}(g:h.IsList t xs)(k:∀ o,h.get? t=some o->h'.get? t=some o):h'.IsList t xs:=let ⟨o,e,r⟩:=g;⟨o,k o e,r⟩
structure Zsr (h:Heap) (z TI TO i1 i2 t1 t2:Addr) (f0:Value) (k:Nat):Prop where
 z:IsZip h z TI TO f0
 ti:IsPair h TI (.ref i1) (.ref i2)
 to:∃ a b,IsPair h TO a b
 a:h.IsTupleIter i1 t1 k
 b:h.IsListIter i2 t2 k
theorem Q2{z TI TO i1 i2 t1 t2:Addr}{k:Nat}{xs ys:Array Value}{x y:Value}{Q:Value->Shared->Prop}(D:ZipApart z TI TO i1 i2 t1 t2)(S:Zsr s.heap z TI TO i1 i2 t1 t2 .none k)
  (g1:s.heap.IsTuple t1 xs) (g2:s.heap.IsList t2 ys) (hx:xs[k]?=some x) (hy:ys[k]?=some y)
  (hQ:∀ h',Zsr h' z TI TO i1 i2 t1 t2 (rawInt s.heap.objs.size) (k+1)->IsPair h' s.heap.objs.size x y ->
   (∀ c o,c≠z->c≠TO->c≠i1->c≠i2->s.heap.get? c=some o->h'.get? c=some o)->Q (.ref s.heap.objs.size) {s with heap:=h'}) :
  wpAny (model prog w) A (Builtin.«zip.__next__» ⟨[.ref z],[]⟩) (fun fin s'=>∃ v,fin=.done (.ret v)/\Q v s') E s:=by
 obtain⟨hz,hTI,⟨a,b,hTO⟩,h1,h2⟩:=S;show wpAny _ _ (field (.ref z) 2>>=_) _ _ _;refine wpAny_bind (wpAny_field hz rfl (x:=.bool false) rfl ?_)
 show wpAny _ _ (field (.ref z) 3>>=_) _ _ _;refine wpAny_bind (wpAny_field hz rfl (x:=.ref TI) rfl (wpAny_bind (wpAny_seqItems hTI rfl ?_)))
 show wpAny _ _ (Builtin.SmallTypes.ownedTupleIsFree (.ref z)>>=_) _ _ _;refine wpAny_bind ?_
 unfold Builtin.SmallTypes.ownedTupleIsFree;refine wpAny_bind (wpAny_field hz rfl (x:=.none) rfl (wpAny_pure ?_));simp only[if_true];refine wpAny_bind (wpAny_rule (wpAny_bind (wpAny_field hz rfl (x:=.ref TO) rfl ?_)));refine wpAny_bind (wpAny_setField_rec hz (by simp) fun n1 z1 c1=>?_);replace z1:IsZip n1 z TI TO .ellipsis:=z1
 refine wpAny_bind ?_;simp only[List.zipIdx_cons,List.zipIdx_nil,List.forIn_cons,List.forIn_nil];refine wpAny_bind (wpAny_bind (wpAny_onRaise ?_));show wpAny _ _ (Builtin.SmallTypes.nextOf (.ref i1)>>=_) _ _ _
 refine wpAny_bind (Ip (h1.at fun o e=>c1.extBut _ o D.i1z e) (wS g1 fun o e=>c1.extBut _ o D.l1z e) hx fun n2 b2 c2=>wpAny_pure ?_);have p2:IsPair n2 TO a b:=c2.extBut _ _ D.TOi1 (c1.extBut _ _ D.TOz hTO)
 refine wpAny_bind (wpAny_seqItems p2 rfl (wpAny_bind (wpAny_updateSeq_pair p2 fun n3 p3 c3=>?_)));replace p3:IsPair n3 TO x b:=p3;refine wpAny_bind (wpAny_letGo (wpAny_pure (wpAny_bind (wpAny_bind (wpAny_onRaise ?_)))));show wpAny _ _ (Builtin.SmallTypes.nextOf (.ref i2)>>=_) _ _ _
 have up3:∀ c o,c≠z->c≠TO->c≠i1->s.heap.get? c=some o->n3.get? c=some o:=fun c o q1 q2 q3 e=>c3.extBut _ _ q2 (c2.extBut _ _ q3 (c1.extBut _ _ q1 e))
 have g23:n3.IsList t2 ys:=by
  obtain⟨o,ho,r⟩:=g2;exact⟨o,up3 _ _ D.l2z D.l2TO D.l2i1 ho,r⟩
 refine wpAny_bind (wpAny_nextOf_list_item (h2.at fun o e=>up3 _ o D.i2z D.TOi2.symm D.i12.symm e) g23 hy fun n4 b4 c4=>wpAny_pure ?_);have p4:IsPair n4 TO x b:=c4.extBut _ _ D.TOi2 p3
 refine wpAny_bind (wpAny_seqItems p4 rfl (wpAny_bind (wpAny_updateSeq_pair p4 fun n5 p5 c5=>?_)));replace p5:IsPair n5 TO x y:=p5;refine wpAny_bind (wpAny_letGo (wpAny_pure (wpAny_pure (wpAny_bind (wpAny_seqItems p5 rfl (wpAny_bind (wpAny_newTuple ?_)))))));have size5:n5.objs.size=s.heap.objs.size:=by rw[c5.1,c4.1,c3.1,c2.1,c1.1]
 have z5:IsZip n5 z TI TO .ellipsis:=c5.extBut _ _ D.TOz.symm (c4.extBut _ _ D.i2z.symm (c3.extBut _ _ D.TOz.symm (c2.extBut _ _ D.i1z.symm z1)))
 have up5:∀ c o,c≠z->c≠TO->c≠i1->c≠i2->s.heap.get? c=some o->n5.get? c=some o:=fun c o q1 q2 q3 q4 e=>c5.extBut _ _ q2 (c4.extBut _ _ q4 (up3 c o q1 q2 q3 e))
 have a5:n5.IsTupleIter i1 t1 (k+1):=b2.at fun o e=>c5.extBut _ _ D.TOi1.symm (c4.extBut _ _ D.i12 (c3.extBut _ _ D.TOi1.symm e))
 have b5:n5.IsListIter i2 t2 (k+1):=b4.at fun o e=>c5.extBut _ _ D.TOi2.symm e
 have zlt:z<n5.objs.size:=Heap.lt_size z5
 show wpAny _ _ (Builtin.SmallTypes.ownedTupleHandOut (.ref z) (.ref n5.objs.size)>>=_) _ _ _;refine wpAny_bind ?_
 unfold Builtin.SmallTypes.ownedTupleHandOut;have z6:IsZip (n5.push {cls:=.type "tuple",data:=.seq #[x,y]}) z TI TO .ellipsis:=Heap.get?_push_of_some _ z5
 refine wpAny_bind (wpAny_setField_rec z6 (by simp) fun n7 z7 c7=>?_);replace z7:IsZip n7 z TI TO (rawInt n5.objs.size):=z7
 refine wpAny_setField_rec z7 (by simp) fun n8 z8 c8=>?_;replace z8:IsZip n8 z TI TO (rawInt n5.objs.size):=z8
 have up8:∀ c o,c≠z->n5.get? c=some o->n8.get? c=some o:=fun c o q e=>c8.extBut _ _ q (c7.extBut _ _ q (Heap.get?_push_of_some _ e))
 have new8:IsPair n8 n5.objs.size x y:=c8.extBut _ _ (Nat.ne_of_gt zlt) (c7.extBut _ _ (Nat.ne_of_gt zlt) (Heap.get?_push_size _ rfl))
 rw[size5]at z8 new8;refine wpAny_pure ⟨_,rfl,?_⟩;show Q (.ref n5.objs.size) _
 rw[size5];exact hQ n8 ⟨z8,up8 _ _ D.TIz (up5 _ _ D.TIz D.TITO D.TIi1 D.TIi2 hTI),⟨x,y,up8 _ _ D.TOz p5⟩,a5.at fun o e=>up8 _ o D.i1z e,b5.at fun o e=>up8 _ o D.i2z e⟩ new8 fun c o q1 q2 q3 q4 e=>up8 c o q1 (up5 c o q1 q2 q3 q4 e)
theorem Te{z TI TO i1 i2 t1 t2:Addr}{k:Nat}{xs ys:Array Value}{Q:Fin->Shared->Prop}(hh:A.handled=none)(D:ZipApart z TI TO i1 i2 t1 t2)(S:Zsr s.heap z TI TO i1 i2 t1 t2 .none k)
  (g1:s.heap.IsTuple t1 xs) (g2:s.heap.IsList t2 ys) (hend:xs[k]?=none\/ys[k]?=none)
  (hE:∀ h' e,(∀ c o,c≠z->c≠TO->c≠i1->c≠i2->s.heap.get? c=some o->h'.get? c=some o)->(∃ o,h'.get? e=some o/\o.cls=.type "StopIteration")->E (.ref e) {s with heap:=h'}) :
  wpAny (model prog w) A (Builtin.«zip.__next__» ⟨[.ref z],[]⟩) Q E s:=by
 obtain⟨hz,hTI,⟨a,b,hTO⟩,h1,h2⟩:=S;show wpAny _ _ (field (.ref z) 2>>=_) _ _ _;refine wpAny_bind (wpAny_field hz rfl (x:=.bool false) rfl ?_)
 show wpAny _ _ (field (.ref z) 3>>=_) _ _ _;refine wpAny_bind (wpAny_field hz rfl (x:=.ref TI) rfl (wpAny_bind (wpAny_seqItems hTI rfl ?_)))
 show wpAny _ _ (Builtin.SmallTypes.ownedTupleIsFree (.ref z)>>=_) _ _ _;refine wpAny_bind ?_
 unfold Builtin.SmallTypes.ownedTupleIsFree;refine wpAny_bind (wpAny_field hz rfl (x:=.none) rfl (wpAny_pure ?_));simp only[if_true];refine wpAny_bind (wpAny_rule (wpAny_bind (wpAny_field hz rfl (x:=.ref TO) rfl ?_)));refine wpAny_bind (wpAny_setField_rec hz (by simp) fun n1 z1 c1=>?_);replace z1:IsZip n1 z TI TO .ellipsis:=z1
 refine wpAny_bind ?_;simp only[List.zipIdx_cons,List.zipIdx_nil,List.forIn_cons,List.forIn_nil];refine wpAny_bind (wpAny_bind (wpAny_onRaise ?_));show wpAny _ _ (Builtin.SmallTypes.nextOf (.ref i1)>>=_) _ _ _
 have apart:∀ (n:Heap) (e:Addr) (oe:Obj),IsZip n z TI TO .ellipsis->n.get? e=some oe->oe.cls=.type "StopIteration"->e≠z:=fun n e oe q q1 q2 q3=>by
  subst q3;rw[q]at q1
  cases q1
  simp at q2
 cases hx:xs[k]? with
 | none =>
  refine wpAny_bind (Ru hh (h1.at fun o e=>c1.extBut _ o D.i1z e) (wS g1 fun o e=>c1.extBut _ o D.l1z e) hx fun n2 e c2 he=>?_);obtain⟨oe,q1,q2⟩:=he;have z2:IsZip n2 z TI TO .ellipsis:=c2 _ _ D.i1z.symm z1
  exact wpAny_setField_rec z2 (by simp) fun n3 _ c3=>hE n3 e (fun c o r1 _ r3 _ q=>c3.extBut _ _ r1 (c2 _ _ r3 (c1.extBut _ _ r1 q))) ⟨oe,c3.extBut _ _ (apart _ _ _ z2 q1 q2) q1,q2⟩
 | some x =>
  have hy:ys[k]?=none:=by
   rcases hend with h | h
   ·rw[hx]at h;cases h
   ·exact h
  refine wpAny_bind (Ip (h1.at fun o e=>c1.extBut _ o D.i1z e) (wS g1 fun o e=>c1.extBut _ o D.l1z e) hx fun n2 b2 c2=>wpAny_pure ?_);have p2:IsPair n2 TO a b:=c2.extBut _ _ D.TOi1 (c1.extBut _ _ D.TOz hTO)
  refine wpAny_bind (wpAny_seqItems p2 rfl (wpAny_bind (wpAny_updateSeq_pair p2 fun n3 p3 c3=>?_)));refine wpAny_bind (wpAny_letGo (wpAny_pure (wpAny_bind (wpAny_bind (wpAny_onRaise ?_)))));show wpAny _ _ (Builtin.SmallTypes.nextOf (.ref i2)>>=_) _ _ _
  have up3:∀ c o,c≠z->c≠TO->c≠i1->s.heap.get? c=some o->n3.get? c=some o:=fun c o q1 q2 q3 e=>c3.extBut _ _ q2 (c2.extBut _ _ q3 (c1.extBut _ _ q1 e))
  have g23:n3.IsList t2 ys:=by
   obtain⟨o,ho,r⟩:=g2;exact⟨o,up3 _ _ D.l2z D.l2TO D.l2i1 ho,r⟩
  refine wpAny_bind (wpAny_nextOf_list_end hh (h2.at fun o e=>up3 _ o D.i2z D.TOi2.symm D.i12.symm e) g23 hy fun n4 e c4 he=>?_);obtain⟨oe,q1,q2⟩:=he;have z4:IsZip n4 z TI TO .ellipsis:=c4 _ _ D.i2z.symm (c3.extBut _ _ D.TOz.symm (c2.extBut _ _ D.i1z.symm z1))
  exact wpAny_setField_rec z4 (by simp) fun n5 _ c5=>hE n5 e (fun c o r1 r2 r3 r4 q=>c5.extBut _ _ r1 (c4 _ _ r4 (up3 c o r1 r2 r3 q))) ⟨oe,c5.extBut _ _ (apart _ _ _ z4 q1 q2) q1,q2⟩
abbrev wE(h:Heap)(t1:Addr):Heap:=h.push {cls:=.type "tuple_iterator",data:=.fields #[.ref t1,.int 0 0]}
abbrev uI(h:Heap)(t1 t2:Addr):Heap:=(wE h t1).push {cls:=.type "list_iterator",data:=.fields #[.ref t2,.int 0 0]}
abbrev tT(h:Heap)(t1 t2:Addr):Heap:=(uI h t1 t2).push {cls:=.type "tuple",data:=.seq #[.ref h.objs.size,.ref (wE h t1).objs.size]}
abbrev tV(h:Heap)(t1 t2:Addr):Heap:=(tT h t1 t2).push {cls:=.type "tuple",data:=.seq #[.none,.none]}
abbrev qI(h:Heap)(t1 t2:Addr):Heap:=(tV h t1 t2).push {cls:=.type "zip",data:=.fields #[.none,.bool false,.bool false,.ref (uI h t1 t2).objs.size,.ref (tT h t1 t2).objs.size]}
theorem Y5(t1 t2:Addr)(xs ys:Array Value):Meets (Builtin.«zip.__new__» ⟨[.type "zip",.ref t1,.ref t2],[]⟩) (fun _ R s=>s.heap.IsTuple t1 xs/\s.heap.IsList t2 ys /\
  R (.ok (.ret (.ref (tV s.heap t1 t2).objs.size))) {s with heap:=qI s.heap t1 t2}):=.of_wp fun prog w A R s hs=>by
 obtain⟨hp,g,d,tk,os⟩:=s;obtain⟨hl1,hl2,h⟩:=hs;have hsub:=sub_zip
 have u1:Heap.IsTuple (Shared.heap ⟨hp,g,d,tk,os⟩) t1 xs:=hl1
 have u2:Heap.IsList (Shared.heap ⟨hp.push {cls:=.type "tuple_iterator",data:=.fields #[.ref t1,.int 0 0]},g,d,tk,os⟩) t2 ys:=C4 hl2 fun o e=>Heap.get?_push_of_some _ e
 wp_walk using wpAny_pyIter_tuple u1,wpAny_pyIter_list u2
 exact⟨_,rfl,h⟩
theorem Yu{t1 t2:Addr}{xs ys:Array Value}{Q:Value->Shared->Prop}(g1:s.heap.IsTuple t1 xs)(g2:s.heap.IsList t2 ys)
  (h:∀ h' n,n=s.heap.objs.size->Zsr h' (n+4) (n+2) (n+3) n (n+1) t1 t2 .none 0->(∀ c o,s.heap.get? c=some o->h'.get? c=some o)->Q (.ref (n+4)) {s with heap:=h'}):wpAny (model prog w) A (call (.type "zip") [.ref t1,.ref t2]) Q E s:=by
 refine callType_new F.called_zip (by decide) (F.typeCall_zip_2 _ _) (F.newCall_zip_2 _ _) (fun obj=>F.args_object_init_3 obj _ _) F.entry_zip_new (Y5 t1 t2 xs ys) ⟨g1,g2,?_⟩
 have z1:(wE s.heap t1).objs.size=s.heap.objs.size+1:=Heap.size_push ..
 have z2:(uI s.heap t1 t2).objs.size=s.heap.objs.size+2:=by rw[Heap.size_push,z1]
 have z3:(tT s.heap t1 t2).objs.size=s.heap.objs.size+3:=by rw[Heap.size_push,z2]
 have z4:(tV s.heap t1 t2).objs.size=s.heap.objs.size+4:=by rw[Heap.size_push,z3]
 have a5:(qI s.heap t1 t2).get? (tV s.heap t1 t2).objs.size=some _:=Heap.get?_push_size _ rfl
 have a4:(qI s.heap t1 t2).get? (tT s.heap t1 t2).objs.size=some _:=Heap.get?_push_of_some _ (Heap.get?_push_size _ rfl)
 have a3:(qI s.heap t1 t2).get? (uI s.heap t1 t2).objs.size=some _:=Heap.get?_push_of_some _ (Heap.get?_push_of_some _ (Heap.get?_push_size _ rfl))
 have a2:(qI s.heap t1 t2).get? (wE s.heap t1).objs.size=some _:=Heap.get?_push_of_some _ (Heap.get?_push_of_some _ (Heap.get?_push_of_some _ (Heap.get?_push_size _ rfl)))
 have a1:(qI s.heap t1 t2).get? s.heap.objs.size=some _:=Heap.get?_push_of_some _ (Heap.get?_push_of_some _ (Heap.get?_push_of_some _ (Heap.get?_push_of_some _ (Heap.get?_push_size _ rfl))))
 show _/\_
 rw[z2,z3,z4]at a5;rw[z1,z2]at a3;rw[z3]at a4;rw[z1]at a2;rw[z4];exact⟨⟨_,a5,rfl⟩,h _ _ rfl ⟨a5,a3,⟨_,_,a4⟩,⟨_,a1,rfl,rfl⟩,⟨_,a2,rfl,rfl⟩⟩ fun c o x=>Heap.get?_push_of_some _ (Heap.get?_push_of_some _ (Heap.get?_push_of_some _ (Heap.get?_push_of_some _ (Heap.get?_push_of_some _ x))))⟩
end
def u9(K:PySem.W.Frag)(t1 t2:Addr)(n:Nat):It :=
 ⟨fun i H=>i<n/\∃ xs ys,SqT K H t1 xs/\SqL K H t2 ys/\n=min xs.length ys.length,fun i H v H'=>∃ p x y,v=.ref p/\H p=none/\H'=aI H p (.tup [x,y])/\∀ xs ys,SqT K H t1 xs->SqL K H t2 ys->xs[i]?=some x/\ys[i]?=some y,
  fun i H=>i=n/\∃ xs ys,SqT K H t1 xs/\SqL K H t2 ys/\n=min xs.length ys.length⟩
theorem P9{P:Program}{w:World}{K:PySem.W.Frag}{elts:List Expr}{j:Nat}{pos:Pos}{z TI TO i1 i2 t1 t2:Addr}{n:Nat}(D:ZipApart z TI TO i1 i2 t1 t2) :
  Turn P w K (.Tuple elts j pos) (u9 K t1 t2 n) [z,TI,TO,i1,i2] z (fun i h=>Zsr h z TI TO i1 i2 t1 t2 .none i) where
 mem:=by simp
 obj:=fun i h st b hb=>by
  obtain⟨h1,h2,⟨a,c,h3⟩,⟨o4,e4,_,d4⟩,⟨o5,e5,_,d5⟩⟩:=st;simp only[List.mem_cons,List.not_mem_nil,or_false]at hb;rcases hb with rfl | rfl | rfl | rfl | rfl
  ·exact⟨_,h1,fun v q=>nomatch q⟩
  ·exact⟨_,h2,fun v q=>nomatch q⟩
  ·exact⟨_,h3,fun v q=>nomatch q⟩
  ·exact⟨_,e4,fun v q=>by rw[d4]at q;cases q⟩
  ·exact⟨_,e5,fun v q=>by rw[d5]at q;cases q⟩
 keep:=fun i h h' st k=>by
  obtain⟨h1,h2,⟨a,c,h3⟩,h4,h5⟩:=st;exact⟨k z (by simp) _ h1,k TI (by simp) _ h2,⟨a,c,k TO (by simp) _ h3⟩,h4.at fun o e=>k i1 (by simp) o e,h5.at fun o e=>k i2 (by simp) o e⟩
 item:=by
  intro X hP hw hK hc i pins s σ H E I hf st hg;subst hP hw hK;obtain⟨hi,xs,ys,q1,q2,hn⟩:=hg;obtain⟨its1,r1,p1,l1⟩:=I.tuple q1;obtain⟨its2,r2,p2,l2⟩:=I.list q2;have e1:xs[i]?=some (xs[i]'(by omega)):=List.getElem?_eq_getElem (by omega)
  have e2:ys[i]?=some (ys[i]'(by omega)):=List.getElem?_eq_getElem (by omega)
  obtain⟨u1,hu1,ru1⟩:=r1.get e1;obtain⟨u2,hu2,ru2⟩:=r2.get e2;have hT:s.TypeIs (.ref z) "zip":=⟨_,st.z,rfl⟩
  have hp:H s.heap.objs.size=none:=I.hok.fresh (Nat.le_refl _)
  unfold pyNext;refine wpAny_bind (wpAny_attempt (wpAny_callSpecial?_slot (name:=Str.ofString "__next__") hT F.slot_zip_next (wpAny_call_entry F.slot_zip_next hT F.entry_zip_next (Q2 D st (show s.heap.IsTuple t1 its1.toArray from p1) p2.isList (by simpa using hu1) (by simpa using hu2) fun h' st' np k=>wpAny_pure ?_) (F.args_zip_next_1 _))))
  refine⟨_,rfl,?_⟩;refine wpAny_letOwnedTupleGo_zip (s:={s with heap:=h'}) st'.z fun h2 z2 c2=>?_;have I1:Inv X pins σ (aI H s.heap.objs.size (.tup [_,_])) {s with heap:=s.heap.push {cls:=.type "tuple",data:=.seq #[u1,u2]}} :=
   I.laid (t':=s.toks) (fun b o e=>Heap.get?_push_of_some _ e) (Nat.le_refl _) (show ObjOk X.prog X.w _ _ _ (.tup [_,_]) from⟨⟨by show 2<=sizeLine;rw[sizeLine_eq];decide,NoD.new _ _ _⟩,[u1,u2],.cons ru1 (.cons ru2 .nil),IsTup.new _ _⟩)
  have lt:∀ {c o},s.heap.get? c=some o->c≠s.heap.objs.size:=fun e=>Nat.ne_of_lt (Heap.lt_size e)
  have zne:s.heap.objs.size≠z:=fun e=>lt st.z e.symm
  have hf':∀ b∈[z,TI,TO,i1,i2],dD X pins (aI H s.heap.objs.size (.tup [xs[i]'(by omega),ys[i]'(by omega)])) b:=fun b hb=>by
   obtain⟨f0,f1,f2,f3,f4,f5⟩:=hf b hb;refine⟨?_,f1,f2,f3,f4,f5⟩;rw[aX]
   ·exact f0
   ·obtain⟨h1,h2,⟨a,c,h3⟩,⟨o4,e4,_⟩,⟨o5,e5,_⟩⟩:=st;simp only[List.mem_cons,List.not_mem_nil,or_false]at hb;rcases hb with rfl | rfl | rfl | rfl | rfl
    ·exact lt h1
    ·exact lt h2
    ·exact lt h3
    ·exact lt e4
    ·exact lt e5
  have kk:∀ b o,b∉[z,TI,TO,i1,i2]->(s.heap.push {cls:=.type "tuple",data:=.seq #[u1,u2]}).get? b=some o->h2.get? b=some o:=fun b o hb e=>by
   simp only[List.mem_cons,List.not_mem_nil,or_false,not_or]at hb;obtain⟨n1,n2,n3,n4,n5⟩:=hb;refine c2.extBut _ _ n1 ?_;rcases Heap.get?_push_cases e with⟨rfl,rfl⟩ | e
   ·exact np
   ·exact k b o n1 n3 n4 n5 e
  have I2:=Mr (s:={s with heap:=s.heap.push {cls:=.type "tuple",data:=.seq #[u1,u2]}}) (h':=h2) (t':=s.toks) (ch:=[z,TI,TO,i1,i2]) I1 kk hf'
  refine⟨.ref s.heap.objs.size,aI H s.heap.objs.size (.tup [xs[i]'(by omega),ys[i]'(by omega)]),I2,rfl,⟨_,_,_,rfl,hp,rfl,fun xs' ys' g1 g2=>?_⟩,?_,fun b hb=>(hf' b hb).1⟩
  ·rw[I.tuple_inj g1 q1,I.list_inj g2 q2];exact⟨e1,e2⟩
  ·obtain⟨h1,h2',⟨a,c,h3⟩,h4,h5⟩:=st';exact⟨z2,c2.extBut _ _ D.TIz h2',⟨a,c,c2.extBut _ _ D.TOz h3⟩,h4.at fun o e=>c2.extBut _ _ D.i1z e,h5.at fun o e=>c2.extBut _ _ D.i2z e⟩
 done:=by
  intro X hP hw hK hc i pins s σ H E I hf st hg;subst hP hw hK;obtain⟨hi,xs,ys,q1,q2,hn⟩:=hg;obtain⟨its1,r1,p1,l1⟩:=I.tuple q1;obtain⟨its2,r2,p2,l2⟩:=I.list q2;have m1:=r1.length
  have m2:=r2.length
  have hT:s.TypeIs (.ref z) "zip":=⟨_,st.z,rfl⟩
  unfold pyNext;refine wpAny_bind (wpAny_attempt (wpAny_callSpecial?_slot (name:=Str.ofString "__next__") hT F.slot_zip_next (wpAny_call_entry F.slot_zip_next hT F.entry_zip_next (Te (I.ok.hd hc) D st (show s.heap.IsTuple t1 its1.toArray from p1) p2.isList ?_ fun h' e k he=>?_) (F.args_zip_next_1 _))))
  ·by_cases c:xs.length<=ys.length
   ·left
    simp;omega
   ·right
    simp;omega
  ·obtain⟨o,ho,hce⟩:=he;refine wpAny_bind (wpAny_isInstance (T:="StopIteration") (b:=true) ⟨o,ho,hce⟩ isSubtype_stop ?_);refine wpAny_pure ⟨rfl,Mr (t':=s.toks) (ch:=[z,TI,TO,i1,i2]) I (fun b o hb e=>?_) hf⟩;simp only[List.mem_cons,List.not_mem_nil,or_false,not_or]at hb;exact k b o hb.1 hb.2.2.1 hb.2.2.2.1 hb.2.2.2.2 e
 self:=fun _ _ _ _ _ st h=>wpAny_pyIter_zip st.z h
@[simp] def uB(f g:DE):DI:=fun d m Q=>f d m fun x m1=>g d m1 fun y m2=>∃ ps qs,x=.dat (.tuple ps)/\y=.dat (.list qs)/\Q ((ps.zip qs).map fun z=>.dat (.tuple [z.1,z.2])) m2
section
variable {X:Cx}{a b:Expr}{elts:List Expr}{j:Nat}{f g:DE}{pos p p2:Pos}
theorem F3(hg:Gl X "zip")(hm:X.mg "zip"=none)(ha:PE X a (LE X.K f))(hb:PE X b (LE X.K g))(hs:starEach [a,b] X.env=[(false,eval a X.env),(false,eval b X.env)]:=by rfl)(hs2:starEach [b] X.env=[(false,eval b X.env)]:=by rfl) :
  PI X (.Tuple elts j p2) (.Call (.Name "zip" p) [a,b] [] pos) (LI X.K (uB f g)):=by
 intro pins s σ H R I h;obtain⟨Z,d,m,ZZ,ok,rs,h,k⟩:=h;have hA:=Cl (X:=X) ha (Cl hb Kv (by rw[hs2];rfl)) (by rw[hs,hs2]) pos pins s σ H (fun vs H1=>∃ a1 a2 xs ys ps qs m1,vs=[.ref a1,.ref a2]/\(m1 a2=none/\¬ Z a2)/\SqT X.K H1 a1 xs/\SqL X.K H1 a2 ys/\RPs X.K Z m1 H1 ps xs/\RPs X.K Z m1 H1 qs ys /\
   ZZ ((ps.zip qs).map fun z=>.dat (.tuple [z.1,z.2])) m1/\Ext X.K Z m H m1 H1/\Ok X.K Z m1 H1) I ⟨Z,d,m,fun ds m1=>match ds with | [x,y]=>∃ ps qs,x=.dat (.tuple ps)/\y=.dat (.list qs)/\ZZ ((ps.zip qs).map fun z=>.dat (.tuple [z.1,z.2])) m1 | _=>False,ok,rs,h,fun xs m1 vs H1 q e1 ok1 rd=>?_⟩
 ·refine Call_ (jJ I hg hm x5 (PyProof.Rows.callWith_type1 (aM hA fun us s1 ⟨vs,H1,I1,r1,q1⟩=>?_) (by rw[hs,hs2]) (by rw[hs2];rfl)))
  obtain⟨a1,a2,xs,ys,ps,qs,m1,e,h0,h1,h2,rp,rq,q,e1,ok1⟩:=q1;subst e;obtain⟨u1,u2,rfl,ru1,ru2⟩:=Cv r1
  cases ru1
  cases ru2
  obtain⟨its1,rv1,pt1,l1⟩:=I1.tuple h1;obtain⟨its2,rv2,pt2,l2⟩:=I1.list h2;refine Yu (show s1.heap.IsTuple a1 its1.toArray from pt1) pt2.isList fun h' n hn st kp=>?_
  have D:ZipApart (n+4) (n+2) (n+3) n (n+1) a1 a2:=Xc n a1 a2 (by obtain⟨o,ho,_⟩:=pt1;rw[hn];exact Heap.lt_size ho) (by obtain⟨o,ho,_⟩:=pt2.isList;rw[hn];exact Heap.lt_size ho)
  refine wpAny_pyIter_zip (s:={s1 with heap:=h'}) st.z ?_;refine⟨n+4,[n+4,n+2,n+3,n,n+1],_,_,H1,rfl,I1.kept (t':=s1.toks) kp,P9 (n:=min xs.length ys.length) D,st,fun c hc=>?_,k _ m1 H1 _ q e1 ok1 ?_⟩
  ·have hle:s1.heap.objs.size<=c:=by
    simp only[List.mem_cons,List.not_mem_nil,or_false]at hc;subst hn;rcases hc with rfl | rfl | rfl | rfl | rfl
    ·exact Nat.le_add_right _ 4
    ·exact Nat.le_add_right _ 2
    ·exact Nat.le_add_right _ 3
    ·exact Nat.le_refl _
    ·exact Nat.le_add_right _ 1
   exact I1.fpOk hle (I1.hok.fresh hle)
  ·intro m2 H2 e2;obtain⟨_,q2⟩:=e2.l a2 ys h0 h2;have q1:=e2.t a1 xs h1
   have lp:=rp.length
   have lq:=rq.length
   refine⟨fun i x hx=>?_,?_,xs,ys,q1,q2,rfl⟩
   ·rw[List.getElem?_map]at hx
    cases ez:(ps.zip qs)[i]? with
    | none=>rw[ez]at hx;cases hx
    | some z =>
     rw[ez]at hx
     cases hx
     obtain⟨z1,z2⟩:=z;obtain⟨ea,eb⟩:=List.getElem?_zip_eq_some.mp ez;obtain⟨v1,hv1,rv1'⟩:=rp.get ea;obtain⟨v2,hv2,rv2'⟩:=rq.get eb;have b1:=(List.getElem?_eq_some_iff.mp hv1).1
     have b2:=(List.getElem?_eq_some_iff.mp hv2).1
     refine⟨⟨by omega,xs,ys,q1,q2,rfl⟩,fun v H3 ⟨pp,x',y',ev,hp,eH,al⟩=>?_⟩
     obtain⟨w1,w2⟩:=al xs ys q1 q2;rw[hv1]at w1;rw[hv2]at w2
     cases w1
     cases w2
     refine .inr ⟨pp,[z1,z2],[_,_],rfl,ev,hp,eH,?_⟩;simp only[RPs];exact⟨_,_,rfl,rv1',_,_,rfl,rv2',rfl⟩
   ·show((ps.zip qs).map _).length=min xs.length ys.length
    rw[List.length_map,List.length_zip,lp,lq]
 ·match xs,q,rd with
  | [],q,_=>exact q.elim
  | [_],q,_=>exact q.elim
  | _::_::_::_,q,_=>exact q.elim
  | [x,y],q,rd =>
  obtain⟨ps,qs,rfl,rfl,q⟩:=q;obtain⟨v,w,rfl,g1,g2⟩:=rd.two;simp only[RD,RP]at g1 g2;obtain⟨a1,xs,rfl,h1,h2⟩:=g1;obtain⟨a2,ys,rfl,h0,h3,h4⟩:=g2;exact⟨a1,a2,xs,ys,ps,qs,m1,rfl,h0,h1,h3,h2,h4,q,e1,ok1⟩
end
end DL
namespace DL
open PySem PySem.Spec PyProof.Rows L2
theorem S1:bootBuiltins "any"=some (.builtin "any"):=by decide +kernel
@[simp] def Ft:DC
 | [.dat (.list ps)],m,Q=>∃ bs:List Bool,ps=bs.map .bool/\Q (.dat (.bool (bs.any id))) m
 | _,_,_=>False
theorem Q3(bs:List Bool):(List.range bs.length).any (fun i=>(bs[i]?).getD true)=bs.any id:=by
 rw[Bool.eq_iff_iff,List.any_eq_true,List.any_eq_true]
 constructor
 ·rintro⟨i,hi,h⟩;have hi':=List.mem_range.mp hi
  rw[List.getElem?_eq_getElem hi']at h;exact⟨_,List.getElem_mem hi',h⟩
 ·rintro⟨b,hb,h⟩;obtain⟨i,hi,rfl⟩:=List.mem_iff_getElem.mp hb;exact⟨i,List.mem_range.mpr hi,by rw[List.getElem?_eq_getElem hi];exact h⟩
section
variable {X:Cx}
theorem CP(hc:X.calm=true):CallD X (.builtin "any") Ft:=by
 intro pins s σ H Z m xs ds us R Q I ok rv rd h k;unfold Ft at h
 split at h
 ·obtain⟨v,rfl,r1⟩:=rd.one;obtain⟨bs,rfl,hh⟩:=h;simp only[RD,RP]at r1;obtain⟨a,vs,rfl,_,h1,h2⟩:=r1
  cases Az h2
  obtain⟨u,rfl,ru⟩:=eS rv
  cases ru
  obtain⟨its,r',pl,hz⟩:=I.list h1
  cases yN r'
  have ne:a≠s.heap.objs.size:=by
   obtain⟨o,ho,_⟩:=pl.isList;exact Nat.ne_of_lt (Heap.lt_size ho)
  refine call_any_walk (wpAny_pyIter_list pl.isList ?_);refine⟨s.heap.objs.size,_,_,_,_,_,fun i=>(bs[i]?).getD true,rfl,Walks.list (A:=X.A.in1) (show X.A.in1.handled=none from I.ok.hd hc) s.heap.objs.size a ne (bs.map Value.bool).toArray,⟨⟨_,Heap.get?_push_size _ rfl,rfl,rfl⟩,pl.isList.at fun o e=>Heap.get?_push_of_some _ e⟩,?_,?_⟩
  ·intro i v s' Q' E' hv hQ;have hv':(bs.map Value.bool)[i]?=some v:=by simpa using hv
   rw[List.getElem?_map]at hv'
   cases eb:bs[i]? with
   | none=>rw[eb]at hv';cases hv'
   | some b =>
    have hQ':Q' ((bs[i]?).getD true) s':=hQ
    rw[eb]at hv' hQ'
    cases hv'
    exact wpAny_truthy_bool hQ'
  ·intro h' tk kp;have e:((bs.map Value.bool).toArray.size)=bs.length:=by simp
   rw[e,Q3];refine⟨.bl _,H,I.kept fun b o q=>kp b o ?_ (Heap.get?_push_of_some _ q),rfl,k _ m _ H hh Ext.refl ok .ofBl⟩;intro hb;have:b=s.heap.objs.size:=by simpa using hb
   exact absurd (Heap.lt_size q) (by rw[this];exact Nat.lt_irrefl _)
 ·exact h.elim
end
end DL
namespace DL
open PySem PySem.Spec PyProof.Rows L2
def cZ(kvs:List (PyData×PyData)):PyData:=.dict ((yF,.none)::kvs)
mutual
@[simp] def fI:PyData->PyData->Bool
 | .int i,.int j=>decide (i=j)
 | .str x,.str y=>decide (x=y)
 | .tuple xs,.tuple ys=>keqs xs ys
 | _,_=>false
@[simp] def keqs:List PyData->List PyData->Bool
 | [],[]=>true
 | x::xs,y::ys=>fI x y&&keqs xs ys
 | _,_=>false
end
mutual
theorem sU:∀ (x y:PyData),fI x y=true->x=y
 | .int i,y,h=>by cases y<;>simp_all
 | .str i,y,h=>by cases y<;>simp_all
 | .tuple xs,y,h=>by
  cases y with
  | tuple ys=>simp only[fI]at h;rw[keqs_eq xs ys h]
  | _=>simp[fI]at h
 | .none,y,h | .bool _,y,h | .list _,y,h | .dict _,y,h=>by simp[fI]at h
theorem keqs_eq:∀ (xs ys:List PyData),keqs xs ys=true->xs=ys
 | [],ys,h=>by cases ys<;>simp_all
 | x::xs,ys,h=>by
  cases ys with
  | nil=>simp[keqs]at h
  | cons y ys=>simp only[keqs,Bool.and_eq_true]at h;rw[sU x y h.1,keqs_eq xs ys h.2]
end
theorem Gn(a b:aH):fI (bO a) (bO b)=decide (a=b):=by
 cases a<;>cases b<;>simp
theorem Js:∀ a b:List aH,keqs (a.map bO) (b.map bO)=decide (a=b)
 | [],[]=>rfl
 | [],_::_=>rfl
 | _::_,[]=>rfl
 | x::xs,y::ys=>by
  simp only[List.map_cons,keqs,Gn,Js xs ys];simp
mutual
theorem Rz:∀ p:PyData,L2.isK p=true->fI p p=true
 | .int _,_=>by simp
 | .str _,_=>by simp
 | .tuple xs,h=>by simp only[fI];exact keqs_self xs h
 | .none,h | .bool _,h | .list _,h | .dict _,h=>by simp[L2.isK]at h
theorem keqs_self:∀ ps:List PyData,L2.isKs ps=true->keqs ps ps=true
 | [],_=>by simp
 | p::ps,h=>by
  simp only[L2.isKs,Bool.and_eq_true]at h;simp only[keqs,Rz p h.1,keqs_self ps h.2,Bool.and_self]
end
def dR{β:Type}(kvs:List (PyData×β))(k:PyData):Option β:=(kvs.find? fun kv=>fI kv.1 k).map (·.2)
theorem qN{β:Type}{p:PyData×β}{r:List (PyData×β)}{k:PyData}:dR (p::r) k=if fI p.1 k=true then some p.2 else dR r k:=by
 unfold dR;rw[List.find?_cons]
 cases fI p.1 k<;>rfl
section
variable {K:PySem.W.Frag}{Z:Addr->Prop}{m:Mu}{H:Hp}
theorem RPd.val{k p:PyData}:∀ {kvs:List (PyData×PyData)} {vs:List (PyData×V)},RPd K Z m H kvs vs->dR kvs k=some p->∃ v,dR vs k=some v/\RP K Z m H p v
 | [],_,_,e=>nomatch e
 | (j,q)::xs,_,h,e=>by
  simp only[RPd]at h;obtain⟨v,r,rfl,h2,h3⟩:=h;rw[qN]at e ⊢
  split at e
  ·rename_i c;rw[if_pos c]
   cases e
   exact⟨v,rfl,h2⟩
  ·rename_i c;rw[if_neg c];exact RPd.val h3 e
theorem RPd.val_none{k:PyData}:∀ {kvs:List (PyData×PyData)} {vs:List (PyData×V)},RPd K Z m H kvs vs->dR kvs k=none->dR vs k=none
 | [],_,h,_=>by simp only[RPd]at h;subst h;rfl
 | (j,q)::xs,_,h,e=>by
  simp only[RPd]at h;obtain⟨v,r,rfl,h2,h3⟩:=h;rw[qN]at e ⊢
  split at e
  ·cases e
  ·rename_i c;rw[if_neg c];exact RPd.val_none h3 e
theorem RPd.keys:∀ {kvs:List (PyData×PyData)} {vs:List (PyData×V)},RPd K Z m H kvs vs->vs.map (·.1)=kvs.map (·.1)
 | [],_,h=>by simp only[RPd]at h;subst h;rfl
 | (j,q)::xs,_,h=>by
  simp only[RPd]at h;obtain⟨v,r,rfl,h2,h3⟩:=h;rw[List.map_cons,List.map_cons,RPd.keys h3]
theorem Mk{kvs:List (PyData×PyData)}{v:V}(h:RP K Z m H (cZ kvs) v):∃ a o u vs,v=.ref a/\H a=some (.frz o u)/\jM K u vs/\RPd K Z m H kvs vs:=by
 simp only[cZ,RP,RPd]at h;obtain⟨a,o,u,vs,h1,h2,h3,v',r,h4,_,h6⟩:=h
 cases h4
 exact⟨a,o,u,vs,h1,h2,h3,h6⟩
theorem Wq{kvs:List (PyData×PyData)}{a:Addr}{o:Obj}{u:HO}{vs:List (PyData×V)}(h2:H a=some (.frz o u))(h3:jM K u vs)(h:RPd K Z m H kvs vs):RP K Z m H (cZ kvs) (.ref a):=by
 simp only[cZ,RP,RPd];exact⟨a,o,u,vs,rfl,h2,h3,.non,vs,rfl,rfl,h⟩
theorem RKV.rpd{κ:Type}(f:κ->PyData):∀ {kvs:List (κ×PyData)} {vs:List (κ×V)},RKV K Z m H kvs vs->RPd K Z m H (kvs.map fun kv=>(f kv.1,kv.2)) (vs.map fun kv=>(f kv.1,kv.2))
 | [],_,h=>by cases (show _=[] from h);simp[RPd]
 | (k,p)::xs,_,⟨v,r,h1,h2,h3⟩=>by
  subst h1;simp only[List.map_cons,RPd];exact⟨v,_,rfl,h2,h3.rpd f⟩
theorem Hy:∀ (ws:List (aH×V)) (k:PyData) (v:V),dR (ws.map fun kv=>(bO kv.1,kv.2)) k=some v->∃ kk,k=bO kk/\bV ws kk=some v
 | [],_,_,e=>nomatch e
 | p::ws,k,v,e=>by
  rw[List.map_cons,qN]at e
  split at e
  ·rename_i c
   cases e
   exact⟨p.1,(sU _ _ c).symm,jS rfl⟩
  ·rename_i c;obtain⟨kk,rfl,h⟩:=Hy ws k v e;refine⟨kk,rfl,?_⟩;rw[kI (fun z=>c (by rw[<- z];show fI (bO p.1) (bO p.1)=true;rw[Gn];simp))]
   exact h
theorem Md:∀ (ws:List (List aH×V)) (k:PyData) (v:V),dR (ws.map fun kv=>(PyData.tuple (kv.1.map bO),kv.2)) k=some v->∃ kk,k=.tuple (kk.map bO)/\bV ws kk=some v
 | [],_,_,e=>nomatch e
 | p::ws,k,v,e=>by
  rw[List.map_cons,qN]at e
  split at e
  ·rename_i c
   cases e
   exact⟨p.1,(sU _ _ c).symm,jS rfl⟩
  ·rename_i c;obtain⟨kk,rfl,h⟩:=Md ws k v e;refine⟨kk,rfl,?_⟩;rw[kI (fun z=>c (by rw[<- z];simp[Js]))]
   exact h
theorem Mv:∀ (ws:List (List PyData×V)) (k:PyData) (v:V),(∀ p∈ws,L2.isKs p.1=true)->dR (ws.map fun kv=>(PyData.tuple kv.1,kv.2)) k=some v->∃ kk,k=.tuple kk/\L2.isKs kk=true/\(∃ p∈ws,p.1=kk)/\bV ws kk=some v
 | [],_,_,_,e=>nomatch e
 | p::ws,k,v,a,e=>by
  rw[List.map_cons,qN]at e
  split at e
  ·rename_i c
   cases e
   exact⟨p.1,(sU _ _ c).symm,a p List.mem_cons_self,⟨p,List.mem_cons_self,rfl⟩,jS rfl⟩
  ·rename_i c;obtain⟨kk,rfl,hk,⟨q,hq,eq⟩,h⟩:=Mv ws k v (fun p hp=>a p (List.mem_cons_of_mem _ hp)) e;refine⟨kk,rfl,hk,⟨q,List.mem_cons_of_mem _ hq,eq⟩,?_⟩;rw[kI (fun z=>c (by rw[<- z];simp only[fI];exact keqs_self _ (a p List.mem_cons_self)))]
   exact h
end
section
variable {X:Cx}{pins:List (Addr×Obj)}{σ:L2.St}{H:Hp}{s:Shared}{Z:Addr->Prop}{m:Mu}
theorem Gh{K:PySem.W.Frag}{k:aH}{y:V}(h:RP K Z m H (bO k) y):y=kV k:=by
 cases k<;>(simp only[bO,RP]at h;exact h)
theorem Pt{K:PySem.W.Frag}:∀ {ks:List aH} {vs:List V},RPs K Z m H (ks.map bO) vs->vs=ks.map kV
 | [],_,h=>by simpa[RPs] using h
 | k::ks,_,h=>by
  simp only[List.map_cons,RPs]at h;obtain⟨v,r,rfl,h1,h2⟩:=h;rw[Gh h1,Pt h2];rfl
theorem Mp{a:Addr}{o:Obj}{u:HO}(I:Inv X pins σ H s)(h:H a=some (.frz o u)):s.heap.get? a=some o/\ObjOk X.prog X.w H s.heap a u:=(show ObjOk X.prog X.w H s.heap a (.frz o u) from I.hok a _ h)
theorem Qy{a:Addr}{o:Obj}{kvs:List (List PyData×V)}(I:Inv X pins σ H s)(e:H a=some (.frz o (.dN X.K kvs))):(∀ p∈kvs,L2.isKs p.1=true/\PyData.depthAll p.1<=6)/\(a==sysModules)=false/\∃ xs,KN X.K H kvs xs/\s.heap.DictOfH (gY X.prog X.w) a xs:=by
 obtain⟨z,y,xs,r,o,es,ep,h1,h2,h3,h4,h5⟩:=(show ObjOk X.prog X.w H s.heap a (.dN X.K kvs) from(Mp I e).2)
 refine⟨?_,y,xs,r,o,es,ep,h1,h2,h3,h4,fun x hx=>?_,h5⟩
 ·have all:∀ {l:List (List PyData×V)} {m:List (List PyData×Addr×Value)},KN X.K H l m->∀ p∈l,L2.isKs p.1=true/\PyData.depthAll p.1<=6:=by
   intro l m q
   induction q with
   | nil=>intro x hx;exact nomatch hx
   | @cons p q ps qs hq t ih =>
    intro x hx;rcases List.mem_cons.mp hx with e | hx
    ·subst e;exact⟨hq.2.1.1,hq.2.1.2.1⟩
    ·exact ih x hx
  exact all r
 ·have all:∀ {l:List (List PyData×V)} {m:List (List PyData×Addr×Value)},KN X.K H l m->∀ x∈m,(gY X.prog X.w).is s.heap x.1 x.2.1:=by
   intro l m q
   induction q with
   | nil=>intro x hx;exact nomatch hx
   | @cons p q ps qs hq t ih =>
    intro x hx;rcases List.mem_cons.mp hx with e | hx
    ·subst e;exact oI I (by rw[<- hq.1];exact hq.2.1)
    ·exact ih x hx
  exact all r x hx
theorem U2{a:Addr}{o:Obj}{u:HO}{vs:List (PyData×V)}{k:PyData}{v y:V}{iv:Value}{Q:Value->Shared->Prop}(hu:X.A.units+100<cLine)(I:Inv X pins σ H s)(h:H a=some (.frz o u))(e:jM X.K u vs)(hv:dR vs k=some v)(rk:RP X.K Z m H k y)(ry:RelV y iv)
  (q:∀ w' s',Inv X pins σ H s'->RelV v w'->Q w' s'):s.TypeIs (.ref a) "dict"/\wpAny (model X.prog X.w) X.A (getItem (.ref a) iv) Q X.xe s:=by
 cases u with
 | dK ws =>
  cases (show vs=_ from e)
  obtain⟨kk,rfl,hw⟩:=Hy ws k v hv
  cases Gh rk
  have g:DGet H a (kV kk) (some v):=.inl ⟨ws,kk,.inr ⟨o,h⟩,rfl,hw.symm⟩
  exact⟨Kl I g,Jt (by omega) I g ry q⟩
 | dT ws =>
  cases (show vs=_ from e)
  obtain⟨kk,rfl,hw⟩:=Md ws k v hv;simp only[RP]at rk;obtain⟨b,zs,rfl,hsq,rp⟩:=rk;obtain rfl:iv=Value.ref b:=ry
  cases Pt rp
  obtain⟨z,hd,xs,rel,dd⟩:=qS I.hok (.inr ⟨o,h⟩:Rd H a (.dT ws));obtain⟨w',hw',rw'⟩:=RelO.some_of (v:=v) (o:=(atKey xs kk).map (·.2)) (by rw[<- hw];exact rel.val kk)
  obtain⟨pr,hp,hp2⟩:=Option.map_eq_some_iff.mp hw';obtain⟨its,rvs,⟨ob,h1,h2,n,h3⟩,_⟩:=I.tuple hsq;have key:(tupleKind (bD X.prog X.w)).is s.heap kk b:=⟨ob,its.toArray,n,h1,h2,h3,by simpa using uG rvs⟩
  refine⟨dd.typeIs,wpAny_getItem_heap (tupleKind_room_in1 (by omega)) key dd hp ?_⟩
  rw[hp2];exact q _ _ (I.tok _) rw'
 | dN K' ws =>
  obtain⟨rfl,rfl⟩:=(show K'=X.K/\vs=_ from e)
  obtain⟨hk,hd,xs,rel,dd⟩:=Qy I h;obtain⟨kk,rfl,hkk,⟨p0,hp0,ep0⟩,hw⟩:=Mv ws k v (fun p hp=>(hk p hp).1) hv;have r3:=RP.nkv (.tuple kk) y hkk rk
  have r4:=r3
  simp only[NKV]at r4;obtain⟨b,zs,rfl,_⟩:=r4;obtain rfl:iv=Value.ref b:=ry;obtain⟨w',hw',rw'⟩:=RelO.some_of (v:=v) (o:=(atKey xs kk).map (·.2)) (by rw[<- hw];exact rel.val kk)
  obtain⟨pr,hp,hp2⟩:=Option.map_eq_some_iff.mp hw';refine⟨dd.typeIs,wpAny_getItem_heap (yT hu) (oI I ⟨hkk,by rw[<- ep0];exact(hk p0 hp0).2,r3⟩) dd hp ?_⟩
  rw[hp2];exact q _ _ (I.tok _) rw'
 | _=>exact e.elim
end
section
variable {X:Cx}{o i a tg:Expr}{fo fi f:DE}{pos:Pos}
@[simp] def jE(fo fi:DE):DE:=fun d m Q=>fo d m fun o m1=>fi d m1 fun y m2=>∃ kvs k p,o=.dat (cZ kvs)/\y=.dat k/\dR kvs k=some p/\Q (.dat p) m2
theorem Qt(hu:X.A.units+100<cLine)(ho:PE X o (LE X.K fo))(hi:PE X i (LE X.K fi))(hs:iG i:=by exact fun _ _=>rfl):PE X (.Subscript o i pos) (LE X.K (jE fo fi)):=by
 intro pins s σ H Q I h;obtain⟨Z,d,m,R,ok,rs,h,k⟩:=h;refine Cu PySem.F.slot_dict_getitem.lookup hs (aM (ho pins s σ H (fun x H1=>∃ (ox:D) (m1:Mu),RD X.K Z m1 H1 ox x/\(fi d m1 fun y m2=>∃ kvs k p,ox=.dat (cZ kvs)/\y=.dat k/\dR kvs k=some p/\R (.dat p) m2)/\Ext X.K Z m H m1 H1/\Ok X.K Z m1 H1) I
  ⟨Z,d,m,_,ok,rs,h,fun x m1 v H1 q e1 ok1 rd=>⟨x,m1,rd,q,e1,ok1⟩⟩) fun u s1 ⟨x,H1,I1,rx,ox,m1,rd,q,e1,ok1⟩=>?_)
 refine aM (hi pins s1 σ H1 (fun y H2=>∃ m2 kvs ky p,RD X.K Z m2 H2 (.dat (cZ kvs)) x/\RD X.K Z m2 H2 (.dat ky) y/\dR kvs ky=some p/\R (.dat p) m2/\Ext X.K Z m1 H1 m2 H2/\Ok X.K Z m2 H2) I1
  ⟨Z,d,m1,_,ok1,rs.ext e1,q,fun y m2 w H2 ⟨kvs,ky,p,eo,ey,hv,q2⟩ e2 ok2 r2=>by subst eo;subst ey;exact⟨m2,kvs,ky,p,rd.ext e2,r2,hv,q2,e2,ok2⟩⟩) fun iv s2 ⟨y,H2,I2,ry,m2,kvs,ky,p,ro,r2,hv,q2,e2,ok2⟩=>?_
 obtain⟨c,ob,un,vs,rfl,g1,g2,g3⟩:=Mk ro;obtain rfl:u=Value.ref c:=rx;obtain⟨v,hv',rv⟩:=g3.val hv;exact U2 hu I2 g1 g2 hv' r2 ry fun w' s' I' rw'=>⟨v,H2,I',rw',k _ m2 v H2 q2 (e1.trans e2) ok2 rv⟩
@[simp] def uL:Cel->Option (List (PyData×PyData))
 | .d kvs=>some (kvs.map fun kv=>(bO kv.1,kv.2))
 | .t kvs=>some (kvs.map fun kv=>(.tuple (kv.1.map bO),kv.2))
 | _=>none
theorem Ei{m:Mu}{c:Addr}{x:Cel}:bY (aS m c x) c=bY m c:=by
 funext b
 unfold bY aS
 split<;>rfl
@[simp] def sE(f:DE):DE:=fun d m Q=>f d m fun x m1=>∃ c cl kvs,x=.cel c/\m c=none/\m1 c=some cl/\uL cl=some kvs/\Q (.dat (cZ kvs)) (bY m1 c)
theorem Z5{e:Expr}(he:PE X e (LE X.K f)):PE X e (LE X.K (sE f)):=by
 intro pins s σ H Q I h;obtain⟨Z,d,m,R,ok,rs,h,k⟩:=h;refine aM (he pins s σ H (fun x H1=>∃ m1 c cl kvs,x=.ref c/\m c=none/\m1 c=some cl/\uL cl=some kvs/\R (.dat (cZ kvs)) (bY m1 c)/\Ext X.K Z m H m1 H1/\Ok X.K Z m1 H1) I
  ⟨Z,d,m,_,ok,rs,h,fun x m1 v H1 ⟨c,cl,kvs,ex,hc,hm,hk,q⟩ e1 ok1 rd=>by subst ex;exact⟨m1,c,cl,kvs,rd.1,hc,hm,hk,q,e1,ok1⟩⟩) fun u s1 ⟨x,H1,I1,r1,m1,c,cl,kvs,ex,hc,hm,hk,q,e1,ok1⟩=>?_
 subst ex;obtain rfl:u=Value.ref c:=r1;have fin:∀ (un:HO) (cf:Cel) (vs:List (PyData×V)) (o:Obj),Inv X pins σ (aI H1 c (.frz o un)) {s1 with heap:=s1.heap,toks:=s1.toks}->Ext X.K Z m1 H1 (aS m1 c cf) (aI H1 c (.frz o un))->Ok X.K Z (aS m1 c cf) (aI H1 c (.frz o un))->jM X.K un vs->RPd X.K Z m1 H1 kvs vs->EP X pins σ Q (.ref c) s1:=by
  intro un cf vs o I2 e2 ok2 en rp;have ok3:=ok2.off (a:=c)
  rw[Ei]at ok3;have e3:=(e1.trans e2).off hc
  rw[Ei]at e3;refine⟨.ref c,_,I2,rfl,k _ _ _ _ q e3 ok3 (Wq bQ en ?_)⟩;have r2:=RPd.ext e2 _ _ rp
  refine RPd.tr0 (fun _ _ q=>q) (fun b ws q1 q2=>⟨⟨?_,q1.2⟩,q2⟩) (fun _ _ _ q=>q) _ _ r2;rw[<- Ei (x:=cf)];exact oD q1.1
 cases cl with
 | d ks =>
  cases hk
  obtain⟨vs,g1,g2⟩:=ok1.d hm;obtain⟨z,hs,us,rel,o,es,ep,ho,rest⟩:=(show ObjOk X.prog X.w H1 s1.heap c (.dK vs) from I1.hok c _ g1)
  have I2:Inv X pins σ (aI H1 c (.frz o (.dK vs))) {s1 with heap:=s1.heap,toks:=s1.toks}:=iZ I1 (by rw[g1];exact True.intro) (Heap.SameBut.refl _ _) ⟨o,ho⟩ ⟨ho,z,hs,us,rel,o,es,ep,ho,rest⟩
  exact fin _ (.fd ks) _ o I2 (Ext.put ok1 hm g1) (ok1.put hm g1 (show RC _ _ _ _ (.fd ks) (.frz o (.dK vs)) from g2)) rfl (g2.rpd bO)
 | t ks =>
  cases hk
  obtain⟨vs,g1,g2⟩:=ok1.t hm;obtain⟨z,hs,xs,pr,o,es,ep,ho,hx,hd,hes,nd⟩:=(show ObjOk X.prog X.w H1 s1.heap c (.dT vs) from I1.hok c _ g1)
  have nt:∀ b ys,H1 b=some (.tup ys)->aI H1 c (.frz o (.dT vs)) b=some (.tup ys):=fun b ys e=>by
   rw[aX (by rintro rfl;rw[g1]at e;cases e)]
   exact e
  have I2:Inv X pins σ (aI H1 c (.frz o (.dT vs))) {s1 with heap:=s1.heap,toks:=s1.toks} :=
   iZ I1 (by rw[g1];exact True.intro) (Heap.SameBut.refl _ _) ⟨o,ho⟩ ⟨ho,z,hs,xs,Paired.mapP pr fun _ _ q=>⟨q.1,nt _ _ q.2.1,q.2.2⟩,o,es,ep,ho,hx,hd,hes,nd⟩
  exact fin _ (.ft ks) _ o I2 (Ext.put ok1 hm g1) (ok1.put hm g1 (show RC _ _ _ _ (.ft ks) (.frz o (.dT vs)) from g2)) rfl (g2.rpd fun k=>.tuple (k.map bO))
 | _=>cases hk
end
end DL
namespace DL
open PySem PySem.Spec PyProof.Rows L2
def Ur(c:Addr)(o:Obj)(u:HO)(vks:List V):It :=
 ⟨fun i H=>H c=some (.frz o u)/\i<vks.length,fun i H v H'=>H'=H/\vks[i]?=some v,fun i H=>H c=some (.frz o u)/\i=vks.length⟩
theorem BN{P:Program}{w:World}{K:PySem.W.Frag}{tg:Expr}(c it:Addr)(o:Obj)(u:HO)(es:Array DictEntry)(ep:Nat)(vks:List V)(hd:o.data=.dict es ep)(hb:Vals vks (es.toList.map (·.key))):Turn P w K tg (Ur c o u vks) [it] it (fun i h=>h.IsKeyIter it c i es.size ep) where
 mem:=by simp
 obj:=fun i h st b hb=>by
  have e:b=it:=by simpa using hb
  subst e;obtain⟨o',e,_,dd⟩:=st;exact⟨o',e,fun v z=>by rw[dd]at z;cases z⟩
 keep:=fun i h h' st k=>by
  obtain⟨o',e,q⟩:=st;exact⟨o',k it (by simp) o' e,q⟩
 item:=by
  intro X hP hw hK hc i pins s σ H E I hf st hg;subst hP hw hK;obtain⟨g1,g2⟩:=hg;obtain⟨ho,_⟩:=(show ObjOk X.prog X.w H s.heap c (.frz o u) from I.hok c _ g1)
  have hl:es.size=vks.length:=by
   have:=hb.length
   simpa using this.symm
  obtain⟨f0,f1,f2,f3,f4,f5⟩:=hf it (by simp)
  have hi:i<es.size:=by omega
  refine D4 st ho hd hi fun h' st' sb=>?_;have I1:Inv X pins σ H {s with heap:=h'}:=I.turned (t':=s.toks) (fun b o hb e=>(sb.2 b hb).trans e) f0 f1 f3 f4 f5
  obtain⟨oi,e,cc,dd⟩:=id st';obtain⟨kv,q1,q2⟩:=Vals.get hb (List.getElem?_eq_getElem g2);have ek:es[i].key=kv:=by
   simp only[List.getElem?_map,Array.getElem?_toList,Array.getElem?_eq_getElem hi]at q1;exact Option.some.inj q1
  rw[ek];exact⟨_,rfl,tR (s:={s with heap:=h'}) e cc dd (by decide) ⟨vks[i],H,I1,q2,⟨rfl,List.getElem?_eq_getElem g2⟩,st',fun b hb=>(hf b hb).1⟩⟩
 done:=by
  intro X hP hw hK hc i pins s σ H E I hf st hg;subst hP hw hK;obtain⟨g1,g2⟩:=hg;obtain⟨ho,_⟩:=(show ObjOk X.prog X.w H s.heap c (.frz o u) from I.hok c _ g1)
  have hl:es.size=vks.length:=by
   have:=hb.length
   simpa using this.symm
  obtain⟨f0,f1,f2,f3,f4,f5⟩:=hf it (by simp)
  exact F6 (I.ok.hd hc) st ho hd (by omega) fun h' eb=>⟨rfl,I.turned (t':=s.toks) (fun b o hb e=>eb b o hb e) f0 f1 f3 f4 f5⟩
 self:=fun _ _ _ _ _ st h=>wpAny_pyIter_keyiter st h
section
variable {X:Cx}{pins:List (Addr×Obj)}{σ:L2.St}{H:Hp}{s:Shared}
mutual
theorem NKV.rp{K:PySem.W.Frag}{Z:Addr->Prop}{m:Mu}:∀ (p:PyData) (v:V),NKV K H p v->RP K Z m H p v
 | .int _,_,h=>by simp only[NKV]at h;simp only[RP];exact h
 | .str _,_,h=>by simp only[NKV]at h;simp only[RP];exact h
 | .tuple xs,_,h=>by
  simp only[NKV]at h;simp only[RP];obtain⟨a,vs,e,h1,h2⟩:=h;exact⟨a,vs,e,h1,NKVs.rp xs vs h2⟩
 | .none,_,h | .bool _,_,h | .list _,_,h | .dict _,_,h=>by simp only[NKV]at h
theorem NKVs.rp{K:PySem.W.Frag}{Z:Addr->Prop}{m:Mu}:∀ (ps:List PyData) (vs:List V),NKVs K H ps vs->RPs K Z m H ps vs
 | [],_,h=>by simp only[NKVs]at h;simp only[RPs];exact h
 | p::ps,_,h=>by
  simp only[NKVs]at h;simp only[RPs];obtain⟨v,r,e,h1,h2⟩:=h;exact⟨v,r,e,NKV.rp p v h1,NKVs.rp ps r h2⟩
end
abbrev sR(K:PySem.W.Frag)(H:Hp):List (PyData×V)->List V->Prop:=Paired fun p v=>∀ (Z:Addr->Prop) (m:Mu),RP K Z m H p.1 v
theorem No{P:Program}{w:World}:∀ {ws:List (aH×V)} {us:List (aH×Value)} {l:List DictEntry},KV ws us->Pairs (bD P w) l us->Vals (ws.map fun kv=>kV kv.1) (l.map (·.key))
 | _,_,_,.nil,pr=>by cases pr;exact .nil
 | _,_,_,@Paired.cons _ _ _ p q ps qs hq t,pr=>by
  cases pr with
  | @cons en kv es' _ k1 k2 r =>
   refine .cons ?_ (No t r);show RelV (kV p.1) en.key
   rw[hq.1];have k1:iL q.1 en.key=true:=k1
   rcases fY k1 with⟨i,t',e1,e2⟩ | ⟨x,t',e1,e2⟩
   ·rw[e1,e2];exact⟨t',rfl⟩
   ·rw[e1,e2];exact⟨t',rfl⟩
theorem Yr{K:PySem.W.Frag}{Z:Addr->Prop}{m:Mu}(k:aH):RP K Z m H (bO k) (kV k):=by
 cases k<;>(simp only[bO,RP];rfl)
theorem Op{K:PySem.W.Frag}:∀ ws:List (aH×V),sR K H (ws.map fun kv=>(bO kv.1,kv.2)) (ws.map fun kv=>kV kv.1)
 | []=>.nil
 | p::ws=>.cons (fun Z m=>Yr p.1) (Op ws)
theorem Gj{K:PySem.W.Frag}:∀ {ws:List (List aH×V)} {xs:List (List aH×Addr×Value)},L2.KT H ws xs->sR K H (ws.map fun kv=>(PyData.tuple (kv.1.map bO),kv.2)) (xs.map fun x=>.ref x.2.1)
 | _,_,.nil=>.nil
 | _,_,.cons hq t=>.cons (fun Z m=>by
   simp only[RP];exact⟨_,_,rfl,.inl (.inl hq.2.1),Cz _⟩) (Gj t)
theorem Mt{K:PySem.W.Frag}:∀ {ws:List (List PyData×V)} {xs:List (List PyData×Addr×Value)},KN K H ws xs->sR K H (ws.map fun kv=>(PyData.tuple kv.1,kv.2)) (xs.map fun x=>.ref x.2.1)
 | _,_,.nil=>.nil
 | _,_,.cons hq t=>.cons (fun Z m=>NKV.rp _ _ hq.2.1.2.2) (Mt t)
theorem xK{κ:Type}:∀ xs:List (κ×Addr×Value),Vals (xs.map fun x=>V.ref x.2.1) (xs.map fun x=>Value.ref x.2.1)
 | []=>.nil
 | x::xs=>.cons rfl (xK xs)
theorem Uj{a:Addr}{o:Obj}{u:HO}{vs:List (PyData×V)}(I:Inv X pins σ H s)(h:H a=some (.frz o u))(e:jM X.K u vs) :
  s.heap.get? a=some o/\(a==sysModules)=false/\o.ExactDict/\∃ es ep vks,o.data=.dict es ep/\Vals vks (es.toList.map (·.key))/\sR X.K H vs vks:=by
 obtain⟨g1,g2⟩:=Mp I h;refine⟨g1,?_⟩
 cases u with
 | dK ws =>
  cases (show vs=_ from e)
  obtain⟨z,hs,us,rel,o',es,ep,ho,hx,hd,_,pr,_⟩:=g2;rw[g1]at ho;cases ho;exact⟨hs,hx,es,ep,_,hd,No rel pr,Op ws⟩
 | dT ws =>
  cases (show vs=_ from e)
  obtain⟨z,hs,xs,pr,o',es,ep,ho,hx,hd,hes,_⟩:=g2;rw[g1]at ho;cases ho;refine⟨hs,hx,es,ep,_,hd,?_,Gj pr⟩;rw[hes,List.map_map];exact xK xs
 | dN K' ws =>
  obtain⟨rfl,rfl⟩:=(show K'=X.K/\vs=_ from e)
  obtain⟨z,hs,xs,pr,o',es,ep,ho,hx,hd,hes,_⟩:=g2;rw[g1]at ho;cases ho;refine⟨hs,hx,es,ep,_,hd,?_,Mt pr⟩;rw[hes,List.map_map];exact xK xs
 | _=>exact e.elim
end
section
variable {X:Cx}{a tg:Expr}{f:DE}
theorem Al{pins:List (Addr×Obj)}{σ:L2.St}{H1:Hp}{s1:Shared}{Z:Addr->Prop}{m1:Mu}{c:Addr}{o:Obj}{u:HO}{vs:List (PyData×V)}{R:It->Hp->Prop}(I1:Inv X pins σ H1 s1)(g1:H1 c=some (.frz o u))(g2:jM X.K u vs)
  (k:∀ J,lZ X.K Z m1 H1 (vs.map fun kv=>.dat kv.1) J->R J H1) :
  wpAny (model X.prog X.w) X.A (pyIter (.ref c)) (xJ X pins σ tg R) X.xe s1:=by
 obtain⟨ho,hs,hx,es,ep,vks,hd,hv,hk⟩:=Uj I1 g1 g2;refine Qd hs ho hx hd ?_;refine⟨s1.heap.objs.size,[s1.heap.objs.size],_,_,_,rfl,I1.kept (t':=s1.toks) fun b o e=>Heap.get?_push_of_some _ e,BN c _ o u es ep vks hd hv,⟨_,Heap.get?_push_size _ rfl,rfl,rfl⟩,fun b hb=>?_,k _ ?_⟩
 ·have e:b=s1.heap.objs.size:=by simpa using hb
  subst e;exact I1.fpOk (Nat.le_refl _) (I1.hok.fresh (Nat.le_refl _))
 ·intro m3 H3 ey;have g3:=ey.fz c o u g1
  have kl:vks.length=(vs.map fun kv=>D.dat kv.1).length:=by rw[List.length_map];exact(Paired.len hk).symm
  refine⟨fun i x hx=>⟨⟨g3,?_⟩,fun v H4 y=>.inl ⟨y.1,?_⟩⟩,g3,kl.symm⟩
  ·have:=(List.getElem?_eq_some_iff.mp hx).1
   omega
  ·obtain⟨_,hb⟩:=y;rw[List.getElem?_map]at hx
   cases ek:vs[i]? with
   | none=>rw[ek]at hx;cases hx
   | some kp =>
    rw[ek]at hx
    cases hx
    obtain⟨v',q1,q2⟩:=Paired.at hk ek;rw[hb]at q1
    cases q1
    exact q2 _ _
@[simp] def wQ(f:DE):DI:=fun d m Q=>f d m fun x m1=>∃ kvs,x=.dat (cZ kvs)/\Q (kvs.map fun kv=>.dat kv.1) m1
theorem V9(ha:PE X a (LE X.K f)):PI X tg a (LI X.K (wQ f)):=by
 intro pins s σ H R I h;obtain⟨Z,d,m,ZZ,ok,rs,h,k⟩:=h;refine aM (ha pins s σ H (fun x H1=>∃ m1 kvs,RD X.K Z m1 H1 (.dat (cZ kvs)) x/\ZZ (kvs.map fun kv=>.dat kv.1) m1/\Ext X.K Z m H m1 H1/\Ok X.K Z m1 H1) I
  ⟨Z,d,m,_,ok,rs,h,fun x m1 v H1 ⟨kvs,ex,q⟩ e1 ok1 rd=>by subst ex;exact⟨m1,kvs,rd,q,e1,ok1⟩⟩) fun u s1 ⟨x,H1,I1,r1,m1,kvs,rd,q,e1,ok1⟩=>?_
 obtain⟨c,o,un,vs,rfl,g1,g2,g3⟩:=Mk rd;obtain rfl:u=Value.ref c:=r1;refine Al (Z:=Z) (m1:=m1) I1 g1 g2 fun J hJ=>k _ _ _ _ q e1 ok1 ?_;have e:(kvs.map fun kv=>D.dat kv.1)=vs.map fun kv=>D.dat kv.1:=by
  have:=congrArg (List.map D.dat) g3.keys
  rw[List.map_map,List.map_map]at this;exact this.symm
 rw[e];exact hJ
@[simp] def Ds(f:DE):DI:=fun d m Q=>f d m fun x m1=>∃ c kvs,x=.cel c/\(m1 c=some (.d kvs)/\Q (kvs.map fun kv=>.dat (bO kv.1)) (aS m1 c (.fd kvs))\/m1 c=some (.fd kvs)/\Q (kvs.map fun kv=>.dat (bO kv.1)) m1)
theorem Ok.fd{K:PySem.W.Frag}{Z:Addr->Prop}{m:Mu}{H:Hp}{a:Addr}{xs:List (aH×PyData)}(ok:Ok K Z m H)(h:m a=some (.fd xs)):∃ ob vs,H a=some (.frz ob (.dK vs))/\RKV K Z m H xs vs:=by
 obtain⟨o,h1,h2⟩:=ok.g a _ h
 cases o with
 | frz ob u=>cases u<;>first | exact⟨_,_,h1,h2⟩ | exact h2.elim
 | _=>exact h2.elim
theorem Hw{K:PySem.W.Frag}{Z:Addr->Prop}{m:Mu}{H:Hp}{kvs:List (aH×PyData)}{vs:List (aH×V)}(g2:RKV K Z m H kvs vs):((vs.map fun kv=>(bO kv.1,kv.2)).map fun kv=>D.dat kv.1)=kvs.map fun kv=>D.dat (bO kv.1):=by
 have:=congrArg (List.map fun k=>D.dat (bO k)) g2.keyAt
 rw[List.map_map,List.map_map]at this;rw[List.map_map];exact this
theorem Tm(ha:PE X a (LE X.K f)):PI X tg a (LI X.K (Ds f)):=by
 intro pins s σ H R I h;obtain⟨Z,d,m,ZZ,ok,rs,h,k⟩:=h;refine aM (ha pins s σ H (fun x H1=>∃ m1 c kvs,x=.ref c/\(m1 c=some (.d kvs)/\ZZ (kvs.map fun kv=>.dat (bO kv.1)) (aS m1 c (.fd kvs))\/m1 c=some (.fd kvs)/\ZZ (kvs.map fun kv=>.dat (bO kv.1)) m1)/\Ext X.K Z m H m1 H1/\Ok X.K Z m1 H1) I
  ⟨Z,d,m,_,ok,rs,h,fun x m1 v H1 ⟨c,kvs,ex,q⟩ e1 ok1 rd=>by subst ex;exact⟨m1,c,kvs,rd.1,q,e1,ok1⟩⟩) fun u s1 ⟨x,H1,I1,r1,m1,c,kvs,ex,q,e1,ok1⟩=>?_
 subst ex;obtain rfl:u=Value.ref c:=r1;rcases q with⟨hm,q⟩ | ⟨hm,q⟩
 ·obtain⟨vs,g1,g2⟩:=ok1.d hm;obtain⟨z,hs,us,rel,o,es,ep,ho,rest⟩:=(show ObjOk X.prog X.w H1 s1.heap c (.dK vs) from I1.hok c _ g1)
  have I2:Inv X pins σ (aI H1 c (.frz o (.dK vs))) {s1 with heap:=s1.heap,toks:=s1.toks}:=iZ I1 (by rw[g1];exact True.intro) (Heap.SameBut.refl _ _) ⟨o,ho⟩ ⟨ho,z,hs,us,rel,o,es,ep,ho,rest⟩
  have e2:Ext X.K Z m1 H1 (aS m1 c (.fd kvs)) (aI H1 c (.frz o (.dK vs))):=Ext.put ok1 hm g1
  have ok2:Ok X.K Z (aS m1 c (.fd kvs)) (aI H1 c (.frz o (.dK vs))):=ok1.put hm g1 (show RC _ _ _ _ (.fd kvs) (.frz o (.dK vs)) from g2)
  refine Al (Z:=Z) (m1:=aS m1 c (.fd kvs)) (u:=.dK vs) I2 bQ (vs:=vs.map fun kv:aH×V=>(bO kv.1,kv.2)) (show _=_ from rfl) fun J hJ=>k _ _ _ _ q (e1.trans e2) ok2 ?_
  rw[<- Hw g2];exact hJ
 ·obtain⟨o,vs,g1,g2⟩:=ok1.fd hm;refine Al (Z:=Z) (m1:=m1) (u:=.dK vs) I1 g1 (vs:=vs.map fun kv:aH×V=>(bO kv.1,kv.2)) (show _=_ from rfl) fun J hJ=>k _ _ _ _ q e1 ok1 ?_
  rw[<- Hw g2];exact hJ
end
section
variable {X:Cx}{o i:Expr}{fo fi:DE}{pos:Pos}
@[simp] def uW(fo fi:DE):DE:=fun d m Q=>fo d m fun o m1=>fi d m1 fun y m2=>∃ c k kvs p,o=.cel c/\jR y=some k/\m2 c=some (.fd kvs)/\dF kvs k=some p/\Q (.dat p) m2
theorem CJ(hu:X.A.units+100<cLine)(ho:PE X o (LE X.K fo))(hi:PE X i (LE X.K fi))(hs:iG i:=by exact fun _ _=>rfl):PE X (.Subscript o i pos) (LE X.K (uW fo fi)) :=
 PE.imp (Ov (by omega) ho hi hs) fun s H Q h=>by
  obtain⟨Z,d,m,R,ok,rs,h,k⟩:=h;refine⟨Z,d,m,_,ok,rs,h,fun o m1 v H1 q e1 ok1 r1=>⟨Z,d,m1,_,ok1,rs.ext e1,q,fun y m2 w H2 q2 e2 ok2 r2=>?_⟩⟩;obtain⟨c,ky,kvs,p,rfl,hk,hm,hv,q⟩:=q2
  cases r2.key hk
  obtain⟨rfl,_⟩:=r1.ext e2;obtain⟨ob,vs,g1,g2⟩:=ok2.fd hm;obtain⟨v,hv',rv⟩:=g2.val hv;exact⟨c,v,rfl,.inl ⟨vs,ky,.inr ⟨ob,g1⟩,rfl,hv'.symm⟩,k _ m2 _ H2 q (e1.trans e2) ok2 rv⟩
end
end DL
namespace DL
open PySem PySem.Spec PyProof.Rows L2
theorem Bz:∀ {zs:List Int} {vs:List Value},Vals (zs.map V.int) vs->IntsAre vs zs
 | [],_,.nil=>.nil
 | z::zs,_,.cons ⟨t,e⟩ r=>by subst e;exact .cons z t (Bz r)
theorem xR{K:PySem.W.Frag}{Z:Addr->Prop}{m:Mu}{H:Hp}:∀ {zs:List Int} {vs:List V},RPs K Z m H (zs.map PyData.int) vs->vs=zs.map V.int
 | [],_,h=>by simpa[RPs] using h
 | z::zs,_,h=>by
  simp only[List.map_cons,RPs,RP]at h;obtain⟨v,r,rfl,rfl,h2⟩:=h;rw[xR h2];rfl
end DL
namespace DL
open PySem PySem.Spec PyProof.Rows L2
section
variable {X:Cx}
@[simp] def Bt:DC
 | [.dat (.int i),.dat (.int j)],m,Q=>Q (.dat (.int (if j<i then j else i))) m
 | [.dat (.list ps)],m,Q=>∃ zs:List Int,ps=zs.map .int/\zs≠[]/\∀ M,M∈zs->(∀ a∈zs,M<=a)->Q (.dat (.int M)) m
 | _,_,_=>False
@[simp] def Aq:DC
 | [.dat (.list ps)],m,Q=>∃ zs:List Int,ps=zs.map .int/\zs≠[]/\∀ M,M∈zs->(∀ a∈zs,a<=M)->Q (.dat (.int M)) m
 | _,_,_=>False
theorem Oo{vs:List Value}{zs:List Int}(hi:IntsAre vs zs)(hne:zs≠[]):∃ xs:Array (Int×Tok),vs.toArray=intItems xs/\0<xs.size/\numsOf (intItems xs).toList=zs:=by
 obtain⟨xs,e⟩:=(show AllInts vs.toArray from hi.allInts).items
 refine⟨xs,e,?_,?_⟩
 ·have h1:=hi.length
  have h2:=congrArg Array.size e
  simp[intItems]at h2;have:zs.length≠0:=by simpa using hne
  omega
 ·rw[<- e];exact hi.numsOf
theorem Sh(hc:X.calm=true):CallD X (.builtin "min") Bt:=by
 intro pins s σ H Z m xs ds us R Q I ok rv rd h k;unfold Bt at h
 split at h
 ·obtain⟨v,w,rfl,r1,r2⟩:=rd.two
  cases r1.int
  cases r2.int
  exact Zd hc pins s σ H _ us Q I rv ⟨_,_,rfl,k _ m _ H h Ext.refl ok .ofInt⟩
 ·obtain⟨v,rfl,r1⟩:=rd.one;obtain⟨u,rfl,ru⟩:=eS rv;obtain⟨zs,rfl,hne,q⟩:=h;simp only[RD,RP]at r1;obtain⟨a,vs,rfl,_,hsq,rp⟩:=r1
  cases xR rp
  obtain rfl:u=Value.ref a:=ru;obtain⟨its,rvs,pl,_⟩:=I.list hsq;obtain⟨xs,ex,hsz,en⟩:=Oo (Bz rvs) hne;refine min_intList (I.ok.hd hc) (by rw[<- ex];exact pl.isList) hsz fun v h' tk hv hk=>?_
  obtain⟨t,rfl⟩:=intItems_at hv;obtain⟨h1,h2⟩:=argBest_lt (numAt xs) (xs.size-1);refine⟨.int _,H,I.kept hk,⟨_,rfl⟩,k _ m _ H (q _ ?_ fun a ha=>?_) Ext.refl ok .ofInt⟩
  ·rw[<- en,nums_intItems,numAt_eq];exact getD_mem (by rw[List.length_map,Array.length_toList];omega)
  ·rw[<- en,nums_intItems]at ha;obtain⟨j,hj,rfl⟩:=mem_getD ha;rw[List.length_map,Array.length_toList]at hj;rw[<- numAt_eq];exact h2 j (by omega)
 ·exact h.elim
theorem M0(hc:X.calm=true):CallD X (.builtin "max") Aq:=by
 intro pins s σ H Z m xs ds us R Q I ok rv rd h k;unfold Aq at h
 split at h
 ·obtain⟨v,rfl,r1⟩:=rd.one;obtain⟨u,rfl,ru⟩:=eS rv;obtain⟨zs,rfl,hne,q⟩:=h;simp only[RD,RP]at r1;obtain⟨a,vs,rfl,_,hsq,rp⟩:=r1
  cases xR rp
  obtain rfl:u=Value.ref a:=ru;obtain⟨its,rvs,pl,_⟩:=I.list hsq;obtain⟨xs,ex,hsz,en⟩:=Oo (Bz rvs) hne;refine max_intList (I.ok.hd hc) (by rw[<- ex];exact pl.isList) hsz fun v h' tk hv hk=>?_
  obtain⟨t,rfl⟩:=intItems_at hv;obtain⟨h1,h2⟩:=argBest_gt (numAt xs) (xs.size-1);refine⟨.int _,H,I.kept hk,⟨_,rfl⟩,k _ m _ H (q _ ?_ fun a ha=>?_) Ext.refl ok .ofInt⟩
  ·rw[<- en,nums_intItems,numAt_eq];exact getD_mem (by rw[List.length_map,Array.length_toList];omega)
  ·rw[<- en,nums_intItems]at ha;obtain⟨j,hj,rfl⟩:=mem_getD ha;rw[List.length_map,Array.length_toList]at hj;rw[<- numAt_eq];exact h2 j (by omega)
 ·exact h.elim
end
theorem Uy:bootBuiltins "min"=some (.builtin "min"):=by decide +kernel
end DL
namespace DL
open PySem PySem.Spec PyProof.Rows L2
section
variable {X:Cx}{o i e g ek:Expr}{fo fi f fg fk:DE}{pos apos cpos:Pos}
@[simp] def Ax(fk f:DE):DE:=fun d m Q=>∀ c,m c=none->fk d (aS m c (.n [])) fun y m2=>∃ ks,gZ y=some ks/\f d m2 fun x m3=>m3 c=some (.n [])/\Q (.cel c) (aS m3 c (.n [(ks,x)]))
theorem Yi(hu:X.A.units+100<cLine)(hk:PE X ek (LE X.K fk))(he:PE X e (LE X.K f))
  (hsh:(evalEachOpt [some ek] X.env).zip ((evalEach [e] X.env).map fun v=>do let x <- v;standAt pos;pure x)=[(some (eval ek X.env),do let x <- eval e X.env;standAt pos;pure x)]:=by rfl):PE X (.Dict [some ek] [e] pos) (LE X.K (Ax fk f)):=by
 intro pins s σ H Q I h;obtain⟨Z,d,m,R,ok,rs,h,k⟩:=h;have hn:=I.hok.fresh (Nat.le_refl s.heap.objs.size)
 have hk0:X.K.lookup s.heap.objs.size=none:=by
  cases e:X.K.lookup s.heap.objs.size with
  | none=>rfl
  | some o=>exact absurd (Heap.lt_size (I.kIn _ o e)) (Nat.lt_irrefl _)
 have e0:Ext X.K Z m H (aS m s.heap.objs.size (.n [])) (aI H s.heap.objs.size (.dN X.K [])):=Ext.cell ok hn hk0
 have ok0:Ok X.K Z (aS m s.heap.objs.size (.n [])) (aI H s.heap.objs.size (.dN X.K [])):=ok.cell hn hk0 (show RC _ _ _ _ (.n []) (.dN X.K []) from⟨rfl,rfl⟩)
 have I1:=I.laid (a:=s.heap.objs.size) (o:=.dN X.K []) (h':=s.heap.push {cls:=.type "dict",data:=.dict #[]}) (t':=s.toks) (fun _ _ q=>Heap.get?_push_of_some _ q) (Nat.le_refl _) (G7 s.heap I.big)
 rw[arm_eval_Dict,hsh];have sh:=dictDisplay_pairs [(eval ek X.env,do let x <- eval e X.env;standAt pos;pure x)] (by simp) (show(1:Nat)<17 by decide)
 rw[List.map_cons,List.map_nil]at sh;rw[sh];refine wpAny_bind (wpAny_standAt (wpAny_bind ?_));unfold subDict;refine wpAny_bind (wpAny_alloc ?_);refine wpAny_bind (wpAny_holding ?_);rw[if_pos (by show(1:Nat)<=15;decide)]
 have hq:=h _ (dJ ok hn).1
 refine wpAny_bind (evalPairs_cons (aM (hk pins _ σ _ (fun v H1=>∃ b ks m2,v=.ref b/\NKV X.K H1 (.tuple ks) (.ref b)/\(L2.isKs ks=true/\PyData.depthAll ks<=6)/\(f d m2 fun x m3=>m3 s.heap.objs.size=some (.n [])/\R (.cel s.heap.objs.size) (aS m3 s.heap.objs.size (.n [(ks,x)])))/\Ext X.K Z m H m2 H1/\Ok X.K Z m2 H1) I1
  ⟨Z,d,_,_,ok0,rs.ext e0,hq,fun y m2 v H1 ⟨ks,ey,q⟩ e1 ok1 rd=>?_⟩) fun kv s1 ⟨v,H1,I1',rv,b,ks,m2,ev,nk,hkk,q1,e1,ok1⟩=>?_))
 ·obtain⟨rfl,hkk⟩:=Em ey;have r3:=RP.nkv (.tuple ks) v hkk.1 rd
  have r4:=r3
  simp only[NKV]at r4;obtain⟨b,vs,rfl,_⟩:=r4;exact⟨b,ks,m2,rfl,r3,hkk,q,e0.trans e1,ok1⟩
 subst ev;obtain rfl:kv=Value.ref b:=rv;refine wpAny_bind (aM (he pins s1 σ H1 (fun w H2=>∃ x m3,RD X.K Z m3 H2 x w/\NKV X.K H2 (.tuple ks) (.ref b)/\m3 s.heap.objs.size=some (.n [])/\R (.cel s.heap.objs.size) (aS m3 s.heap.objs.size (.n [(ks,x)]))/\Ext X.K Z m2 H1 m3 H2/\Ok X.K Z m3 H2) I1'
  ⟨Z,d,m2,_,ok1,rs.ext e1,q1,fun x m3 w H2 ⟨hm,q2⟩ e2 ok2 r2=>?_⟩) fun vv s2 ⟨w,H2,I2,rw2,x,m3,rx,nk2,hm,q2,e2,ok2⟩=>?_)
 ·refine⟨x,m3,r2,?_,hm,q2,e2,ok2⟩;exact RP.nkv (Z:=Z) (m:=m3) (.tuple ks) (.ref b) hkk.1 (RP.ext e2 _ _ (NKV.rp (.tuple ks) (.ref b) nk))
 refine wpAny_bind (wpAny_standAt (wpAny_pure (evalPairs_nil ?_)));refine wpAny_holding ?_;obtain⟨ws,g1,g2⟩:=ok2.n hm
 cases (show ws=[] from g2)
 obtain⟨z,hd,xs,rel,dd⟩:=sW I2 g1
 cases rel
 rw[List.forIn_cons];refine wpAny_bind (wpAny_bind (wpAny_bind (wpAny_dictSet_heap (hsz:=by simp) (knd:=gY X.prog X.w) ?_ (oI I2 ⟨hkk.1,hkk.2,nk2⟩) dd fun h' dd' hs'=>wpAny_pure ?_)))
 ·show X.A.units+20<cLine
  omega
 obtain⟨q,es,ep,hq',h2,h3,h4,_,h5⟩:=dd';have ht:∀ b' xs',H2 b'=some (.tup xs')->aI H2 s.heap.objs.size (.dN X.K (bP [] ks w)) b'=some (.tup xs'):=fun b' xs' e=>by rw[aX (rY e g1 (fun z=>nomatch z))];exact e
 have hf:∀ b' ob u',H2 b'=some (.frz ob u')->aI H2 s.heap.objs.size (.dN X.K (bP [] ks w)) b'=some (.frz ob u'):=fun b' ob u' e=>by rw[aX (rY e g1 (fun z=>nomatch z))];exact e
 have I3:=iZ (t':=s2.toks+(gY X.prog X.w).draws ks) (ob:=.dN X.K (bP [] ks w)) I2 (by rw[g1];exact True.intro) hs' ⟨q,hq'⟩ ⟨by show(bP [] ks w).length<=sizeLine;rw[sizeLine_eq];have:=rJ ([]:List (List PyData×V)) ks w;simp at this;omega,hd,_,Paired.mapP (KN.put .nil ks ⟨hkk.1,hkk.2,nk2⟩ rw2) (fun p q z=>⟨z.1,⟨z.2.1.1,z.2.1.2.1,NKV.stay ht hf _ _ z.2.1.2.2⟩,z.2.2⟩),q,es,ep,hq',h2,h3,h4,h5⟩
 have e4:Ext X.K Z m3 H2 (aS m3 s.heap.objs.size (.n [(ks,x)])) (aI H2 s.heap.objs.size (.dN X.K (bP [] ks w))):=Ext.put ok2 hm g1
 have fin:=k _ _ (.ref s.heap.objs.size) _ q2 (e1.trans (e2.trans e4)) (ok2.put hm g1 ⟨rfl,RKW.put (kvs:=[]) (vs:=[]) rfl rx.rw⟩) ⟨rfl,by rw[aZ];rfl⟩
 exact wpAny_pure (wpAny_pure (wpAny_pure (wpAny_pure ⟨.ref s.heap.objs.size,_,I3,rfl,fin⟩)))
@[simp] def Bi(fo fi fg:DE):DE:=fun d m Q=>fo d m fun o m1=>∃ c,o=.cel c/\(∃ kvs,m1 c=some (.n kvs))/\fi d m1 fun y m2=>∃ ks,gZ y=some ks/\fg d m2 fun z m3=>∃ kvs,m3 c=some (.n kvs)/\match cQ kvs ks with
 | some x=>(∀ b,x=.cel b->(m3 b).isSome=true)/\Q x m3
 | none=>Q z m3
theorem Qn(hu:X.A.units+100<cLine)(ho:PE X o (LE X.K fo))(hi:PE X e (LE X.K fi))(hf:PE X g (LE X.K fg))
  (hbase:attributeBase o "get" X.env (eval o X.env)=eval o X.env:=by rfl)
  (hfew:((backTo cpos (starEach [e,g] X.env)).all (fun x=>!x.1)&&(backToKw cpos (keywordEach [] X.env)).all (fun x=>x.1.isSome)&&decide (([e,g]:List Expr).length+([]:List Keyword).length+(if ([]:List Keyword).isEmpty then 0 else 1)<30))=true:=by rfl)
  (hline:(apos.endLine==cpos.line)=true:=by rfl) (hs:backTo cpos (starEach [e,g] X.env)=[(false,eval e X.env),(false,eval g X.env)]:=by rfl) :
  PE X (.Call (.Attribute o "get" apos) [e,g] [] cpos) (LE X.K (Bi fo fi fg)):=by
 intro pins s σ H Q I h;obtain⟨Z,d,m,R,ok,rs,h,k⟩:=h;refine wpAny_Call_method hbase hfew hline PySem.F.plainAttrs_dict PySem.F.slot_dict_get PySem.F.type_dict_get (aM (ho pins s σ H (fun x H1=>∃ c m1 kvs,x=.ref c/\m1 c=some (.n kvs)/\(fi d m1 fun y m2=>∃ ks,gZ y=some ks/\fg d m2 fun z m3=>∃ kvs,m3 c=some (.n kvs)/\match cQ kvs ks with
   | some x=>(∀ b,x=.cel b->(m3 b).isSome=true)/\R x m3
   | none=>R z m3)/\Ext X.K Z m H m1 H1/\Ok X.K Z m1 H1) I
  ⟨Z,d,m,_,ok,rs,h,fun x m1 v H1 ⟨c,ex,⟨kvs,hm⟩,q⟩ e1 ok1 rd=>by subst ex;exact⟨c,m1,kvs,rd.1,hm,q,e1,ok1⟩⟩) fun u s1 ⟨x,H1,I1,rx,c,m1,kvs1,ex,hm1,q1,e1,ok1⟩=>?_)
 subst ex;obtain rfl:u=Value.ref c:=rx;obtain⟨ws1,g1,_⟩:=ok1.n hm1;obtain⟨_,hdm,xs1,_,dd1⟩:=sW I1 g1;refine⟨dd1.typeIs,fun b q=>?_,?_⟩
 ·cases q
  obtain⟨ob,_,_,h1,h2,_⟩:=dd1;exact⟨ob,h1,h2.2.1⟩
 rw[hs];refine Calls.callWith_builtin rfl (Calls.evalArgs_plain (Calls.spliced_cons (aM (hi pins s1 σ _ (fun v H2=>∃ (ks:List PyData) (b:Addr) (m2:Mu),v=.ref b/\RP X.K Z m2 H2 (.tuple ks) (.ref b)/\(L2.isKs ks=true/\PyData.depthAll ks<=6)/\(fg d m2 fun z m3=>∃ kvs,m3 c=some (.n kvs)/\match cQ kvs ks with
   | some x=>(∀ b,x=.cel b->(m3 b).isSome=true)/\R x m3
   | none=>R z m3)/\Ext X.K Z m H m2 H2/\Ok X.K Z m2 H2) I1 ⟨Z,d,m1,_,ok1,rs.ext e1,q1,fun y m2 v H2 ⟨ks,ey,hq⟩ e2 ok2 r2=>?_⟩) fun iv s2 ⟨y,H2,I2,ry,ks,b,m2,ey,rp,hk,q2,e2,ok2⟩ =>
  Calls.spliced_cons (aM (hf pins s2 σ H2 (fun w H3=>∃ (z:D) (m3:Mu) (kvs:List (List PyData×D)),RD X.K Z m3 H3 z w/\RP X.K Z m3 H3 (.tuple ks) (.ref b)/\m3 c=some (.n kvs)/\(match cQ kvs ks with
   | some x=>(∀ b,x=.cel b->(m3 b).isSome=true)/\R x m3
   | none=>R z m3)/\Ext X.K Z m H m3 H3/\Ok X.K Z m3 H3) I2 ⟨Z,d,m2,_,ok2,rs.ext e2,q2,fun z m3 w H3 ⟨kvs,hm,hq⟩ e3 ok3 r3=>⟨z,m3,kvs,r3,RP.ext e3 _ _ rp,hm,hq,e2.trans e3,ok3⟩⟩) fun fv s3 ⟨w,H3,I3,rw3,z,m3,kvs,rz,rp3,hm,q3,e3,ok3⟩=>Calls.spliced_nil ?_))))
 ·obtain⟨rfl,hk⟩:=Em ey;have r4:=r2
  simp only[RD,RP]at r4;obtain⟨b,vs,rfl,_⟩:=r4;exact⟨ks,b,m2,rfl,r2,hk,hq,e1.trans e2,ok2⟩
 ·subst ey;obtain rfl:iv=Value.ref b:=ry;obtain⟨ws,g1,g2⟩:=ok3.n hm;obtain⟨_,hd,xs,rel,dd⟩:=sW I3 g1;have r3:=RP.nkv (.tuple ks) (.ref b) hk.1 rp3
  refine call_meetsIn PySem.F.slot_dict_get dd.typeIs PySem.F.entry_dict_get (PySem.F.args_dict_get_3 _ _ _) (meetsH_dict_get_default (gY X.prog X.w) c b hd fv) ⟨yT hu,ks,xs,oI I3 ⟨hk.1,hk.2,r3⟩,dd,?_⟩;have rl:=rel.val ks
  cases hv:cQ kvs ks with
  | none =>
   rw[hv]at q3;have hn:bV ws ks=none:=by
    have:=(g2.val (k:=ks)).2
    rw[hv]at this
    cases e:bV ws ks with
    | none=>rfl
    | some _=>rw[e]at this;cases this
   rw[hn]at rl;have:(atKey xs ks).map (·.2)=none:=by
    cases e:(atKey xs ks).map (·.2) with
    | none=>rfl
    | some _=>rw[e]at rl;exact rl.elim
   rw[this];exact⟨w,H3,I3.tok _,rw3,k _ m3 _ H3 q3 e3 ok3 rz⟩
  | some x =>
   rw[hv]at q3;obtain⟨v,hv',rv⟩:=(g2.val (k:=ks)).1 _ hv;obtain⟨w',hw,rw'⟩:=RelO.some_of (v:=v) (o:=(atKey xs ks).map (·.2)) (by rw[<- hv'];exact rl)
   rw[hw];exact⟨v,H3,I3.tok _,rw',k _ m3 _ H3 q3.2 e3 ok3 (rv.rd q3.1)⟩
end
end DL
namespace DL
open PySem PySem.Spec PyProof.Rows L2
section
variable {P:Program}{w:World}{A:Around}{R:Result->Shared->Prop}{I:Addr}{fp wr:List Addr}{G:Array GenState->Array GenState->Prop}{n:Nat}{Pv:Nat->Value->Prop}{St:Nat->Shared->Prop}
theorem U1(W:WalksS P w A.in1 I fp wr G n Pv St)(S:Addr)(hSf:S∉fp)(val:Nat->Str)(hval:∀ i v,Pv i v->∃ t,v=.str (val i) t)(hb:∀ i,i<n->(dY val i).length+1<scanBound) :
  ∀ (k i:Nat) (s:Shared),n-i=k->i<=n->St i s->TSet P w s.heap S (dY val i)->(∀ s',Moved (S::wr) G s s'->TSet P w s'.heap S (dY val n)->R (.ok (.ret .none)) s') ->
   codeAny (model P w) A (.builtin "set.update.loop" ⟨[.ref S,.ref I],[]⟩) R s:=by
 have nw:S∉wr:=fun z=>hSf (W.sub _ z)
 have sub:∀ b∈wr,b∈S::wr:=fun b hb=>List.mem_cons_of_mem _ hb
 intro k
 induction k with
 | zero =>
  intro i s hk hi hst T hR;obtain rfl:i=n:=by omega
  refine codeAny_builtin F.entry_set_update_loop ?_;rw[Around.under_plainId F.plain_set_update_loop _];show wpAny _ A.in1 (pyNext (.ref I)>>=_) _ _ s
  refine wpAny_bind (W.done s _ _ hst fun s' hm=>?_);show wpAny _ A.in1 (ret Value.none) _ _ s'
  exact wpAny_pure (hR s' (hm.mono sub) (T.at fun o e=>hm.heap S _ nw e))
 | succ k ih =>
  intro i s hk hi hst T hR;refine codeAny_builtin F.entry_set_update_loop ?_;rw[Around.under_plainId F.plain_set_update_loop _];show wpAny _ A.in1 (pyNext (.ref I)>>=_) _ _ s
  refine wpAny_bind (W.item i s _ _ (by omega) hst fun v s' hP hst' hm=>?_)
  obtain⟨t,rfl⟩:=hval i v hP;have T':TSet P w s'.heap S (dY val i):=T.at fun o e=>hm.heap S _ nw e
  show wpAny _ A.in1 (holding [Value.str (val i) t] (setAdd S (.str (val i) t))>>=_) _ _ s'
  refine wpAny_bind (wpAny_holding ?_);unfold setAdd;refine wpAny_holding (wpAny_bind ((bD P w).pyHash (k:=.inr (val i)) (Bn _ _) ?_));have room:(dY val i).length+1<scanBound:=hb i (by omega)
  refine Y1 (s:={s' with toks:=s'.toks+1}) (z:=val i) T' room fun b h' sb T2=>?_;have T3:TSet P w h' S (dY val (i+1)):=by rw[Q0];exact T2
  refine wpAny_pure ⟨plainId_quiet F.plain_set_update_loop _,ih (i+1) _ (by omega) (by omega) (W.frame _ s' _ _ hst' (Nat.le_succ _) fun b hb o e=>?_) T3 fun s'' hm'' T4=>?_⟩
  ·rw[sb.2 b (by rintro rfl;exact hSf hb)]
   exact e
  ·refine hR s'' (Moved.trans W.gtrans ((hm.mono sub).then_heap (Nat.le_succ _) fun b o hb e=>?_) hm'') T4;rw[sb.2 b (by rintro rfl;exact hb List.mem_cons_self)]
   exact e
end
section
variable {P:Program}{w:World}{A:Around}{E:Value->Shared->Prop}{s:Shared}
theorem S7{l:Addr}{items:Array Value}{zs:List Str}{Q:Value->Shared->Prop}(hh:A.handled=none)(hl:s.heap.IsList l items)(hi:StrsAre items.toList zs)(hb:∀ i,i<items.size->(dY (fun i=>zs.getD i "") i).length+1<scanBound)
  (h:∀ (h':Heap) (tk:Nat),TSet P w h' s.heap.objs.size (dY (fun i=>zs.getD i "") items.size)->(∀ b o,b<s.heap.objs.size->s.heap.get? b=some o->h'.get? b=some o)->Q (.ref s.heap.objs.size) {s with heap:=h',toks:=tk}) :
  wpAny (model P w) A (call (.type "set") [.ref l]) Q E s:=by
 obtain⟨c,tl,hmro⟩:=F.called_set.mro;have hmade:=F.called_set.made
 have hsub:=F.called_set.sub
 refine wpAny_call (codeAny_of_tree ?_);show wpAny _ _ (callAny (.type "set") _) _ _ _
 refine wpAny_pure ⟨Code.quiet_builtin _ (by decide +kernel),codeAny_builtin F.entry_type_call ?_⟩
 rw[Around.under_plain (weight_type_call_type "set" [.ref l] []) rfl];have h1:=F.called_set.notType
 have h2:=F.called_set.canCreate
 have hct:=PySem.F.typeCall_set_1 (.ref l)
 repeat (any_goals (first | assumption | wp_step))
 refine codeAny_mono (K1 (.ref l) (E:=E) (Q₁:=fun obj s₁=>obj=.ref s.heap.objs.size/\s₁={s with heap:=s.heap.push (gB w)}) ⟨rfl,rfl⟩) fun r s₁ hr=>?_
 cases r with
 | error e=>exact hr
 | ok fl =>
  cases fl with
  | ret obj =>
   obtain⟨rfl,rfl⟩:=hr;have hS:(s.heap.push (gB w)).get? s.heap.objs.size=some (gB w):=Heap.get?_push_size _ rfl
   have hT:Shared.TypeIs {s with heap:=s.heap.push (gB w)} (.ref s.heap.objs.size) "set":=⟨_,hS,rfl⟩
   have hli:=F.called_set.init.lookup
   have hbi:=F.called_set.init.bind (.ref s.heap.objs.size)
   repeat (any_goals (first | assumption | wp_step))
   refine codeAny_mono (codeAny_call_builtin (R:=wants (fun r s₂=>r=.none/\∃ h' tk,s₂={s with heap:=h',toks:=tk}/\TSet P w h' s.heap.objs.size (dY (fun i=>zs.getD i "") items.size) /\
     (∀ b o,b<s.heap.objs.size->s.heap.get? b=some o->h'.get? b=some o)) E) F.called_set.init.plain F.entry_set_init (check_set_init_1 hT ?_)) fun r₂ s₂ hr₂=>?_
   ·obtain⟨ol,hol,hcl,nl,hdl⟩:=hl;obtain⟨ocls,odict,odata,oslots⟩:=ol;simp only at hcl hdl;subst hcl;subst hdl;have hol':(s.heap.push (gB w)).get? l=some {cls:=.type "list",dict:=odict,data:=.seq items nl,slots:=oslots}:=Heap.get?_push_of_some _ hol
    have hsls:=PySem.F.sub_list_set
    have hslf:=PySem.F.sub_list_frozenset
    have hne:(Value.type "list" == Value.type "dict")=false:=by decide
    have hl1:(s.heap.push (gB w)).IsList l items:=⟨_,hol',rfl,nl,rfl⟩
    unfold Builtin.«set.__init__» noKeywords Builtin.Frozenset.updateFrom
    generalize hPI:pyIter=PI
    wp_walk
    subst hPI;refine wpAny_pyIter_list hl1 (wpAny_bind (wpAny_runValue ?_));have ltl:l<s.heap.objs.size:=Heap.lt_size hol
    have hh3:A.in1.in1.in1.handled=none:=by simp[hh]
    have nI:l≠(s.heap.push (gB w)).objs.size:=by rw[Heap.size_push];exact Nat.ne_of_lt (Nat.lt_succ_of_lt ltl)
    have hSf:s.heap.objs.size∉[(s.heap.push (gB w)).objs.size,l]:=by
     rw[Heap.size_push];simp only[List.mem_cons,List.mem_singleton,List.not_mem_nil,or_false,not_or];exact⟨Nat.ne_of_lt (Nat.lt_succ_self _),Nat.ne_of_gt ltl⟩
    have hval:∀ (i:Nat) (v:Value),items[i]?=some v->∃ t,v=.str ((fun i=>zs.getD i "") i) t:=fun i v hv=>by
     have hv:items.toList[i]?=some v:=by rw[Array.getElem?_toList];exact hv
     have hm:v∈items.toList:=List.mem_of_getElem? hv
     obtain⟨x,t,rfl⟩:=hi.all v hm;refine⟨t,?_⟩;have:zs[i]?=some x:=by rw[<- hi.strs,List.getElem?_map,hv];rfl
     show _=Value.str (zs.getD i "") t
     rw[List.getD_eq_getElem?_getD,this];rfl
    refine U1 ((Walks.list hh3 _ l nI items).toS) s.heap.objs.size hSf (fun i=>zs.getD i "") hval hb (items.size-0) 0 _ (by omega) (Nat.zero_le _) ⟨⟨_,Heap.get?_push_size _ rfl,rfl,rfl⟩,(hl1.push _)⟩ ?hS0 ?hR
    case hS0=>exact AF (Heap.get?_push_of_some _ hS)
    case hR =>
     intro s' hm T;obtain⟨h',g',d',tk',os'⟩:=s';have eg:g'=s.gens:=hm.gens
     have ed:d'=s.drawn:=hm.drawn
     have eo:os'=s.os:=hm.os
     subst eg;subst ed;subst eo;show wpAny _ _ _ _ _ _
     refine wpAny_pure ?_;show wpAny _ _ (ret Value.none) _ _ _
     refine wpAny_pure ⟨rfl,h',tk',rfl,T,fun b o hb e=>?_⟩;have n1:b≠s.heap.objs.size:=Nat.ne_of_lt hb
     have n2:b≠(s.heap.push (gB w)).objs.size:=by rw[Heap.size_push];exact Nat.ne_of_lt (Nat.lt_succ_of_lt hb)
     exact hm.heap b o (by simp only[List.mem_cons,List.mem_singleton,List.not_mem_nil,or_false,not_or];exact⟨n1,n2⟩) (Heap.get?_push_of_some _ (Heap.get?_push_of_some _ e))
   ·cases r₂ with
    | error e=>exact hr₂
    | ok fl₂ =>
     cases fl₂ with
     | ret r =>
      obtain⟨rfl,h',tk,rfl,T,hk'⟩:=hr₂
      repeat (any_goals (first | assumption | wp_step))
      exact h _ _ T hk'
     | _=>exact hr₂.elim
  | _=>exact hr.elim
end
theorem yX:∀ {xs ys:List Str},xs.Nodup->(∀ x∈xs,x∈ys)->xs.length<=ys.length
 | [],_,_,_=>Nat.zero_le _
 | x::xs,ys,nd,h=>by
  obtain⟨n1,n2⟩:=List.nodup_cons.mp nd;have hx:=h x List.mem_cons_self
  have:=yX (ys:=ys.erase x) n2 fun z hz=>(List.mem_erase_of_ne (by rintro rfl;exact n1 hz)).mpr (h z (List.mem_cons_of_mem _ hz))
  rw[List.length_erase_of_mem hx]at this;have:=List.length_pos_of_mem hx
  rw[List.length_cons];omega
section
variable {X:Cx}{e:Expr}{f:DE}{pos p pos2 p2:Pos}
@[simp] def Bv(f:DE):DE:=fun d m Q=>f d m fun x m1=>∃ (c:Addr) (zs:List Str),x=.cel c/\m1 c=some (.l (zs.map .str))/\(∃ us:List Str,us.length<=50/\∀ z∈zs,z∈us)/\∀ ys:List Str,ys.Perm (fS zs)->PyProof.Rows.sortedS ys=true->Q (.dat (.list (ys.map .str))) m1
theorem Q7(hc:X.calm=true)(hg:Gl X "sorted")(hm:X.mg "sorted"=none)(hg2:Gl X "set")(hm2:X.mg "set"=none)(he:PE X e (LE X.K f))(hs:starEach [e] X.env=[(false,eval e X.env)]:=by rfl)
  (hs2:starEach [.Call (.Name "set" p2) [e] [] pos2] X.env=[(false,eval (.Call (.Name "set" p2) [e] [] pos2) X.env)]:=by rfl):PE X (.Call (.Name "sorted" p) [.Call (.Name "set" p2) [e] [] pos2] [] pos) (LE X.K (Bv f)):=by
 intro pins s σ H Q I h;obtain⟨Z,d,m,R,ok,rs,h,k⟩:=h;have hA:=kH (X:=X) he lP (by rw[hs];rfl) pos2 pins s σ H (fun vs H1=>∃ (zs:List Str) (m1:Mu) (a:Addr),vs=[V.ref a]/\SqL X.K H1 a (zs.map V.str)/\(∃ us:List Str,us.length<=50/\∀ z∈zs,z∈us)/\(∀ ys:List Str,ys.Perm (fS zs)->PyProof.Rows.sortedS ys=true->R (.dat (.list (ys.map .str))) m1)/\Ext X.K Z m H m1 H1/\Ok X.K Z m1 H1) I ⟨Z,d,m,_,ok,rs,h,fun x m1 v H1 ⟨c,zs,ex,hmc,hn,q⟩ e1 ok1 rd=>by
  subst ex;obtain⟨rfl,_⟩:=rd;obtain⟨vs,h1,h2⟩:=ok1.l hmc
  cases nZ h2
  exact⟨zs,m1,c,rfl,.inl (.inl h1),hn,q,e1,ok1⟩⟩
 refine Call_ (jJ I hg hm Ba (PyProof.Rows.callWith_builtin1 ?_ hs2 rfl));rw[hs2];show wpAny _ _ (spliced ((false,eval (.Call (.Name "set" p2) [e] [] pos2) X.env)::[])) _ _ s
 refine Calls.spliced_cons (Call_ (jJ I hg2 hm2 Rv (PyProof.Rows.callWith_type1 (aM hA fun us s1 ⟨vs,H1,I1,r1,q1⟩=>?_) hs rfl)));obtain⟨zs,m1,a,ev,hq,hn,q,e1,ok1⟩:=q1;subst ev;obtain⟨u,rfl,ru⟩:=eS r1;obtain rfl:u=Value.ref a:=ru;obtain⟨its,r',pl,hz⟩:=I1.list hq;have hlen:=r'.length
 rw[List.length_map]at hlen;obtain⟨us,hus,hsub⟩:=hn;have hsb:∀ i,i<its.toArray.size->(dY (fun i=>zs.getD i "") i).length+1<scanBound:=fun i hi=>by
  have hi:i<zs.length:=by rw[List.size_toArray,<- hlen]at hi;exact hi
  obtain⟨n1,n2,_⟩:=Ej ((List.range i).map fun i=>zs.getD i "");have:(fS ((List.range i).map fun i=>zs.getD i "")).length<=us.length:=yX n1 fun z hz=>by
   obtain⟨j,hj,rfl⟩:=List.mem_map.mp ((n2 z).mp hz);have hj:=List.mem_range.mp hj
   refine hsub _ ?_;rw[List.getD_eq_getElem?_getD,List.getElem?_eq_getElem (by omega)]
   exact List.getElem_mem _
  have this:(dY (fun i=>zs.getD i "") i).length<=us.length:=this
  unfold scanBound;omega
 refine S7 (I1.ok.hd hc) pl.isList (Dt r') hsb fun h' tk T kp=>?_;have em:dY (fun i=>zs.getD i "") its.toArray.size=fS zs:=by rw[List.size_toArray,<- hlen];exact We zs
 rw[em]at T;obtain⟨on1,on2,_⟩:=Ej zs;have on3:(fS zs).length<=us.length:=yX on1 fun z hz=>hsub z ((on2 z).mp hz)
 refine Calls.spliced_nil ?_;refine S2 (s:={s1 with heap:=h',toks:=tk}) (I1.ok.hd hc) T (by omega) fun s' vs' ys e' L hS hp hs' lt hL k2 g2 o2=>?_
 have hv:=Dx hS
 have hvl:=hv.length
 have hpl:=hp.length_eq
 rw[List.length_map]at hvl;have hle:s1.heap.objs.size<=L:=Nat.le_of_lt lt
 have hf:H1 L=none:=I1.hok.fresh hle
 have kk:∀ b ob,s1.heap.get? b=some ob->s'.heap.get? b=some ob:=fun b ob q=>k2 b ob (kp b ob (Heap.lt_size q) q)
 have I2:=I1.laid (t':=s'.toks) (h':=s'.heap) (a:=L) (o:=.lst (ys.map V.str)) kk hle ⟨by rw[List.length_map,sizeLine_eq];omega,vs',e',hv,hL⟩
 have I3:Inv X pins σ (aI H1 L (.lst (ys.map V.str))) s':=Lu I2 rfl g2 o2
 have sm:Same H1 (aI H1 L (.lst (ys.map V.str))):=bX hf
 refine⟨.ref L,_,I3,rfl,k _ m1 _ _ (q ys hp hs') (e1.trans (ok1.ext sm)) (ok1.grow sm) ?_⟩;simp only[RD,RP];exact⟨L,_,rfl,dJ ok1 hf,.inl (.inl bQ),rK ys⟩
end
section
variable {X:Cx}
@[simp] def Df:DC
 | [.dat (.tuple ps)],m,Q=>∃ zs:List Str,ps=zs.map .str/\zs.length<64/\∀ ys:List Str,ys.Perm zs->PyProof.Rows.sortedS ys=true->Q (.dat (.list (ys.map .str))) m
 | _,_,_=>False
theorem t7:CallD X (.builtin "sorted") Df:=by
 intro pins s σ H Z m xs ds us R Q I ok rv rd h k;unfold Df at h
 split at h
 ·obtain⟨v,rfl,r1⟩:=rd.one;obtain⟨zs,rfl,hl,hh⟩:=h;simp only[RD,RP]at r1;obtain⟨a,vs,rfl,h1,h2⟩:=r1
  cases nZ h2
  obtain⟨u,rfl,ru⟩:=eS rv
  cases ru
  obtain⟨its,r',⟨o,ho,hc,n,hd⟩,hz⟩:=I.tuple h1;have hlen:=r'.length
  rw[List.length_map]at hlen;have hS:=Dt r'
  have vl:its.length<64:=by omega
  refine Calls.call_function_entry kind_sorted plain_sorted entry_sorted (args_sorted1 _) ?_;unfold Builtin.«sorted»;refine wpAny_bind (m:=checkCount "sorted" 1 1 _) (wpAny_pure ?_);refine wpAny_bind (wpAny_collect_seq a (.inr rfl) ho hc hd (fun h1 k1=>?_) (by rw[List.size_toArray,sizeLine_eq];omega))
  rw[List.toList_toArray];refine wpAny_bind (wpAny_newList ?_);have I1:Inv X pins σ H {s with heap:=h1,toks:=s.toks}:=I.kept k1
  obtain⟨h2,eh2⟩:∃ h2,h2=h1.push (seqObj "list" its.toArray 0):=⟨_,rfl⟩;have hoL:h2.get? h1.objs.size=some (seqObj "list" its.toArray 0):=by rw[eh2];exact Heap.get?_push_size _ rfl
  show wpAny _ _ _ _ _ {s with heap:=h1.push (seqObj "list" its.toArray 0)}
  rw[<- eh2];refine wpAny_bind (wpAny_holding (wpAny_call_entry slot_list_sort ⟨_,hoL,rfl⟩ entry_list_sort (list_sort_treeK strKind_oneLt (s:={s with heap:=h2}) hoL hS.keysOf (fun v₁ v₂ rest e=>keyKind_strs (by rw[<- e];exact hS)) vl fun st' a1 a2=>⟨_,rfl,?_⟩) (args_list_sort _)))
  obtain⟨ys,b1,b2,b3⟩:=sorted_out_str hS a1 a2;obtain⟨e',he⟩:=sortedHeap_at (h:=h2) (a:=h1.objs.size) (vs:=its) (n:=0) (out:=(arrOf st').map (·.2)) hoL;refine wpAny_pure ⟨_,rfl,?_⟩;have hv:=Dx b1
  have hvl:=hv.length
  have hpl:=b2.length_eq
  rw[List.length_map]at hvl;have hf:H h1.objs.size=none:=I1.hok.fresh (Nat.le_refl _)
  have I2:=I1.laid (t':=s.toks) (h':=sortedHeap h2 h1.objs.size its ((arrOf st').map (·.2))) (a:=h1.objs.size) (o:=.lst (ys.map V.str)) (fun b ob hb=>by
   have lb:b<h1.objs.size:=Heap.lt_size hb
   rw[sortedHeap_old (Nat.ne_of_lt lb) (by rw[eh2,Heap.size_push];exact Nat.lt_succ_of_lt lb),eh2]
   exact Heap.get?_push_of_some _ hb) (Nat.le_refl _) ⟨by rw[List.length_map,sizeLine_eq];omega,_,e',hv,by rw[Array.toArray_toList];exact he⟩
  have sm:Same H (aI H h1.objs.size (.lst (ys.map V.str))):=bX hf
  refine⟨.ref _,_,I2,rfl,k _ m _ _ (hh ys b2 b3) (ok.ext sm) (ok.grow sm) ?_⟩;simp only[RD,RP];exact⟨_,_,rfl,dJ ok hf,.inl (.inl bQ),rK ys⟩
 ·exact h.elim
end
end DL
namespace DL
open PySem PySem.Spec PyProof.Rows L2
def Pg(c:Addr)(d:aU):Prop:=∀ x∈d,x≠some (.cel c)
section
variable {K:PySem.W.Frag}{Z:Addr->Prop}{m m2:Mu}{H H':Hp}{c:Addr}{xs:List PyData}
theorem uT(hm:m c=some (.l xs)):∀ a (vs:List V),(m a=none/\¬ Z a)->SqL K H a vs->(bY m c a=none/\¬ aJ Z c a)/\SqL K H a vs:=fun a vs h1 h2 =>
 ⟨⟨oD h1.1,fun z=>z.elim h1.2 fun e=>by rw[e,hm]at h1;cases h1.1⟩,h2⟩
theorem A0(ok:Ok K Z m H)(hm:m c=some (.l xs)):Ok K (aJ Z c) (bY m c) H:=by
 refine⟨fun a cl h=>?_,fun a h=>?_⟩
 ·unfold bY at h
  split at h
  ·cases h
  ·obtain⟨o,h1,h2⟩:=ok.g a cl h;exact⟨o,h1,h2.lift fun p v q=>RP.tr (fun _ _ q=>q) (uT hm) p v q⟩
 ·rcases h with h | h
  ·exact⟨oD (ok.z a h).1,(ok.z a h).2⟩
  ·subst h;obtain⟨o,h1,_⟩:=ok.g a _ hm;exact⟨by unfold bY;rw[if_pos rfl],by rw[h1];exact fun e=>nomatch e⟩
theorem yZ:∀ a (vs:List V),(m2 a=none/\¬ aJ Z c a)->SqL K H' a vs->(aS m2 c (.l xs) a=none/\¬ Z a)/\SqL K H' a vs:=fun a vs q1 q2 =>
 ⟨⟨by rw[bG fun z=>q1.2 (.inr z)];exact q1.1,fun z=>q1.2 (.inl z)⟩,q2⟩
theorem AV{vs:List V}(ok:Ok K (aJ Z c) m2 H')(nz:¬ Z c)(hH:H' c=some (.lst vs))(hr:RPs K (aJ Z c) m2 H' xs vs):Ok K Z (aS m2 c (.l xs)) H':=by
 refine⟨fun a cl q=>?_,fun a q=>?_⟩
 ·by_cases e:a=c
  ·subst e;rw[aZ]at q
   cases q
   exact⟨_,hH,RPs.tr (fun _ _ q=>q) yZ _ _ hr⟩
  ·rw[bG e]at q;obtain⟨o,q1,q2⟩:=ok.g a cl q;exact⟨o,q1,q2.lift fun p v q3=>RP.tr (fun _ _ q=>q) yZ p v q3⟩
 ·have ne:a≠c:=fun e=>nz (e▸q)
  obtain⟨q1,q2⟩:=ok.z a (.inl q);exact⟨by rw[bG ne];exact q1,q2⟩
theorem AK(e:Ext K (aJ Z c) (bY m c) H m2 H')(hm:m c=some (.l xs))(nz:¬ Z c):Ext K Z m H (aS m2 c (.l xs)) H':=by
 refine⟨e.t,fun a vs h1 h2=>?_,fun a h=>e.z a (.inl h),fun a h=>?_,e.fz,fun a h=>?_⟩
 ·obtain⟨⟨q0,q1⟩,q2⟩:=uT (Z:=Z) hm a vs h1 h2;obtain⟨q3,q4⟩:=e.l a vs ⟨q0,q1⟩ q2;exact⟨by rw[bG fun z=>q1 (.inr z)];exact q3,q4⟩
 ·by_cases ea:a=c
  ·subst ea;rw[aZ];rfl
  ·rw[bG ea];refine e.c a ?_;unfold bY;rw[if_neg ea];exact h
 ·have ne:a≠c:=by rintro rfl;rw[hm]at h;cases h
  have q:=e.fm a (by unfold bY;rw[if_neg ne];exact h)
  rw[bG ne,q];unfold bY;rw[if_neg ne]
theorem M7{vs:List V}(hH:H c=some (.lst vs))(hr:RPs K (aJ Z c) m H xs vs):Pr K (aJ Z c) m H (xs.map .dat) (L2.Itl K c):=by
 intro m2 H2 e;have q1:SqL K H2 c vs:=.inl (.inl ((e.z c (.inr rfl)).trans hH))
 refine⟨fun i x hx=>?_,⟨vs,q1,by rw[hr.length,List.length_map];exact Nat.le_refl _⟩⟩
 obtain⟨p,hp,rfl⟩:=vS hx;obtain⟨v,hv,rv⟩:=hr.get hp;refine⟨⟨vs,v,q1,hv⟩,fun v' H3 y=>.inl ⟨y.1,?_⟩⟩;have:=y.2 vs q1
 rw[hv]at this
 cases this
 exact rv
open Classical in
noncomputable def pQ(c:Addr)(d:aU):aU:=d.map fun x=>if x=some (.cel c) then none else x
open Classical in
theorem Jz{d:aU}{j:Nat}:((pQ c d)[j]?).join=if (d[j]?).join=some (.cel c) then none else (d[j]?).join:=by
 unfold pQ;rw[List.getElem?_map]
 cases e:d[j]? with
 | none=>simp
 | some x=>simp only[Option.map_some,Option.join_some]
theorem Va{src:List (Option Nat)}{d:aU}(h:Pg c (bK src d)):bK src (pQ c d)=bK src d:=by
 unfold bK at h ⊢;refine List.map_congr_left fun o ho=>?_;have hx:=h _ (List.mem_map_of_mem ho)
 cases o with
 | none=>rfl
 | some j =>
  simp only[Option.bind_some]at hx ⊢;rw[Jz,if_neg hx]
theorem AT{d:aU}{σ:L2.St}(rs:RS K Z m H d σ)(hm:m c=some (.l xs)):RS K (aJ Z c) (bY m c) H (pQ c d) σ:=by
 refine⟨by unfold pQ;rw[List.length_map];exact rs.1,fun i x hx=>?_⟩
 have e:=Jz (c:=c) (d:=d) (j:=i)
 rw[hx]at e;simp only[Option.join_some]at e
 split at e
 ·cases e
 ·rename_i ne;have hd:d[i]?=some (some x):=by
   cases q:d[i]? with
   | none=>rw[q]at e;cases e
   | some y=>rw[q]at e;simp only[Option.join_some]at e;rw[e]
  obtain⟨v,q1,q2⟩:=rs.2 i x hd;refine⟨v,q1,?_⟩
  cases x with
  | dat p=>exact RP.tr (fun _ _ q=>q) (uT hm) p v q2
  | cel b =>
   refine⟨q2.1,?_⟩;have nb:b≠c:=by rintro rfl;rw[hd]at ne;exact ne rfl
   unfold bY;rw[if_neg nb];exact q2.2
end
section
variable {X:Cx}{elt tg:Expr}{ifs:List Expr}{scope:Scope}{NC:List Str}{g:DG}{t:DT}{f:DE}{pos npos:Pos}
@[simp] def Fz(i:Nat)(src:List (Option Nat))(g:DG)(t:DT)(f:DE):DE:=fun d m Q=>∃ c xs,d[i]?=some (some (.cel c))/\m c=some (.l xs)/\Pg c (bK src d)/\cJ g t f (xs.map .dat) [] (bK src d) (bY m c) fun ps m2=>Q (.dat (.list ps)) (aS m2 c (.l xs))
theorem W1(i:Nat){x:Str}(NC:List Str)(src:List (Option Nat))(hc:X.calm=true)
  (hg:∀ cl C s2 H2 pins fp,PG (aP X scope cl C NC s2 H2 pins fp) tg (LG X.K g)) (ht:∀ cl C s2 H2 pins fp,PF (aP X scope cl C NC s2 H2 pins fp) ifs (LT X.K t)) (he:∀ cl C s2 H2 pins fp,PE (aP X scope cl C NC s2 H2 pins fp) elt (LE X.K f))
  (hN:X.N[i]?=some x:=by rfl) (hv:fT X.env.scope x:=by first | exact Or.inl rfl | exact Or.inr (Or.inl rfl) | exact Or.inr (Or.inr rfl)) (hd:(x==("__debug__" : Str))=false:=by decide)
  (hcd:(x==("__classdict__" : Str))=false:=by decide)
  (hkind:scope.kind=.function:=by rfl) (hB:chkB scope X.env=true:=by rfl) (hS:chkS X.N scope X.env NC src=true:=by rfl)
  (hs:∀ v,foldedSetIterable (.Name x npos) X.env v=pure v:=by intro _;rfl):PE X (.ListComp elt [⟨tg,.Name x npos,ifs,0⟩] scope pos) (LE X.K (Fz i src g t f)):=by
 intro pins s σ H Q I h;obtain⟨Z,d,m,R,ok,rs,⟨c,xs,hdc,hm,nc,lp⟩,k⟩:=h;obtain⟨vs,hH,rp⟩:=ok.l hm;have nz:¬ Z c:=fun z=>by have:=(ok.z c z).1;rw[hm]at this;cases this
 have ok':=A0 ok hm
 have rs':=AT rs hm
 have rp':RPs X.K (aJ Z c) (bY m c) H xs vs:=RPs.tr (fun _ _ q=>q) (uT hm) _ _ rp
 obtain⟨v,hσ,hv2⟩:=rs.2 i _ hdc;obtain⟨rfl,_⟩:=hv2;rw[eval_ListComp];refine Lp (NC:=NC) src hc (Kd (Gp (pos:=npos) hN hv hd hcd)) hg ht he hkind (chkB.ok hB).1 (chkB.ok hB).2.1 (chkB.ok hB).2.2 (chkS.ok hS) hs (use:=none) (QQ:=EP X pins σ Q) (RL:=fun ps m2=>R (.dat (.list ps)) (aS m2 c (.l xs))) (Z:=aJ Z c) (d:=pQ c d) (m:=bY m c) I ok' rs' ?_ ?_
 ·exact⟨.ref c,hσ,.inl ⟨c,rfl,⟨vs,.inl (.inl hH)⟩,xs.map .dat,bY m c,Ext.refl,ok',M7 hH rp',by rw[Va nc];exact lp⟩⟩
 ·intro s5 C D H' m2 ps q e ok2 rd ⟨mm,hns⟩ I5 off _;have hH':H' c=some (.lst vs):=(e.z c (.inr rfl)).trans hH
  refine⟨mm,hns,fun h' hs'=>⟨.ref D,H',off.inv I5 hs',rfl,k _ (aS m2 c (.l xs)) _ H' q (AK e hm nz) (AV ok2 nz hH' (RPs.ext e _ _ rp')) ?_⟩⟩;exact RP.tr (fun _ _ q=>q) yZ _ _ rd
end
end DL
namespace DL
open PySem PySem.Spec PyProof.Rows L2
structure QE (X:Cx) (e:Expr) (t:TE):Prop where
 pe:PE X e t
structure QA (X:Cx) (e:List Expr) (t:TA):Prop where
 pe:PA X e t
structure QT (X:Cx) (e:Expr) (t:TT):Prop where
 pe:PT X e t
structure QW (X:Cx) (e:Expr) (t:TT):Prop where
 pe:PW X e t
structure QS (X:Cx) (e:Stmt) (t:TS):Prop where
 pe:PS X e t
structure QSs (X:Cx) (e:List Stmt) (t:TS):Prop where
 pe:PSs X e t
structure QG (X:Cx) (e:Expr) (t:TG):Prop where
 pe:PG X e t
structure QGs (X:Cx) (e:List Expr) (t:iF):Prop where
 pe:PGs X e t
structure QO (X:Cx) (e:Option Expr) (t:TO):Prop where
 pe:PO X e t
structure QF (X:Cx) (e:List Expr) (t:TT):Prop where
 pe:PF X e t
structure QI (X:Cx) (tg e:Expr) (t:TI):Prop where
 pe:PI X tg e t
structure QD (X:Cx) (p:Pos) (k:List (Option Expr)) (v:List Expr) (t:List (DE×DE)):Prop where
 pe:PD X p k v t
theorem QW.pt{X:Cx}{e:Expr}{t:TT}(h:QW X e t):QT X e t:=⟨h.pe.pt⟩
section
variable {X:Cx}{pos:Pos}
theorem aE(i:Nat){x:Str}(hN:X.N[i]?=some x:=by rfl)(hv:fT X.env.scope x:=by first | exact Or.inl rfl | exact Or.inr (Or.inl rfl) | exact Or.inr (Or.inr rfl))(hd:(x==("__debug__" : Str))=false:=by decide)(hcd:(x==("__classdict__" : Str))=false:=by decide):QE X (.Name x pos) (LE X.K (aA i)):=⟨R3 (i:=i) (hN:=hN) (hv:=hv) (hd:=hd) (hcd:=hcd)⟩
end
section
variable {X:Cx}{pos:Pos}
theorem aO{i:Int}{j:Nat}:QE X (.Constant (.int i) j pos) (LE X.K (aC (.int i))):=⟨le_int ⟩
end
section
variable {X:Cx}{pos:Pos}
theorem hG{b:Bool}{j:Nat}:QE X (.Constant (.bool b) j pos) (LE X.K (aC (.bool b))):=⟨Yd ⟩
end
section
variable {X:Cx}{pos:Pos}
theorem aQ{x:Str}{j:Nat}:QE X (.Constant (.str x) j pos) (LE X.K (aC (.str x))):=⟨Uc ⟩
end
section
variable {X:Cx}{a b c:Expr}{f g:DE}{pos:Pos}
theorem cC{op:Operator}{r:D2}(ho:cP X (binaryOp op) r)(ha:QE X a (LE X.K f))(hb:QE X b (LE X.K g)):QE X (.BinOp a op b pos) (LE X.K (aN r f g)):=⟨U3 (ho:=ho) (ha:=ha.pe) (hb:=hb.pe)⟩
end
section
variable {X:Cx}{a b c:Expr}{f g:DE}{pos:Pos}
theorem eK{op:CmpOp}{r:D2}(ho:cP X (compareOp op) r)(ha:QE X a (LE X.K f))(hb:QE X b (LE X.K g))(hm:behindInMarks op b=false:=by exact tX _):QE X (.Compare a [op] [b] pos) (LE X.K (aN r f g)):=⟨R1 (ho:=ho) (ha:=ha.pe) (hb:=hb.pe) (hm:=hm)⟩
end
section
variable {X:Cx}{a b c:Expr}{f g:DE}{pos:Pos}
theorem cN{op:CmpOp}{r:D2}(ho:cP X (compareOp op) r)(ha:QE X a (LE X.K f))(hb:QE X b (LE X.K g))(hm:behindInMarks op b=false:=by exact tX _):QT X (.Compare a [op] [b] pos) (LT X.K (bJ (aN r f g))):=⟨Tt (ho:=ho) (ha:=ha.pe) (hb:=hb.pe) (hm:=hm)⟩
end
section
variable {X:Cx}{a b c:Expr}{f g:DE}{pos:Pos}
theorem nA(h:QE X a (LE X.K f))(he:∀ whole,isTrue a X.env whole=(do let v <- whole;standAt a.pos;holding [v] (truthy v)):=by intro _;rfl):QT X a (LT X.K (bJ f)):=⟨E4 (h:=h.pe) (he:=he)⟩
end
section
variable {X:Cx}{a b c:Expr}{rest:List Expr}{f g:DE}{t u:DT}{pos:Pos}
theorem Oc(ha:QT X a (LT X.K t)):QW X (.BoolOp .And [a] pos) (LT X.K t):=⟨y0 (ha:=ha.pe)⟩
end
section
variable {X:Cx}{a b c:Expr}{rest:List Expr}{f g:DE}{t u:DT}{pos:Pos}
theorem vI(ha:QT X a (LT X.K t)):QW X (.BoolOp .Or [a] pos) (LT X.K t):=⟨Y9 (ha:=ha.pe)⟩
end
section
variable {X:Cx}{a b c:Expr}{rest:List Expr}{f g:DE}{t u:DT}{pos:Pos}
theorem Nv(ha:QT X a (LT X.K t))(hb:QW X (.BoolOp .And (b::rest) pos) (LT X.K u)):QW X (.BoolOp .And (a::b::rest) pos) (LT X.K (sP t u)):=⟨Wo (ha:=ha.pe) (hb:=hb.pe)⟩
end
section
variable {X:Cx}{a b c:Expr}{rest:List Expr}{f g:DE}{t u:DT}{pos:Pos}
theorem uH(ha:QT X a (LT X.K t))(hb:QW X (.BoolOp .Or (b::rest) pos) (LT X.K u)):QW X (.BoolOp .Or (a::b::rest) pos) (LT X.K (jV t u)):=⟨j3 (ha:=ha.pe) (hb:=hb.pe)⟩
end
section
variable {X:Cx}{a b c:Expr}{rest:List Expr}{f g:DE}{t u:DT}{pos:Pos}
theorem tH(ha:QT X a (LT X.K t)):QT X (.UnaryOp .Not a pos) (LT X.K (pL t)):=⟨C0 (ha:=ha.pe)⟩
end
section
variable {X:Cx}{a b c:Expr}{rest:List Expr}{f g:DE}{t u:DT}{pos:Pos}
theorem Oj{op:BoolOp}(h:QE X a (LE X.K f)):QE X (.BoolOp op [a] pos) (LE X.K f):=⟨X5 (h:=h.pe)⟩
end
section
variable {X:Cx}{a b c:Expr}{rest:List Expr}{f g:DE}{t u:DT}{pos:Pos}
theorem Hb(ha:QE X a (LE X.K f))(hb:QE X (.BoolOp .And (b::rest) pos) (LE X.K g)):QE X (.BoolOp .And (a::b::rest) pos) (LE X.K (rZ f g)):=⟨Zq (ha:=ha.pe) (hb:=hb.pe)⟩
end
section
variable {X:Cx}{a b c:Expr}{rest:List Expr}{f g:DE}{t u:DT}{pos:Pos}
theorem Ab(hc:QT X c (LT X.K t))(ha:QE X a (LE X.K f))(hb:QE X b (LE X.K g)):QE X (.IfExp c a b pos) (LE X.K (qV t f g)):=⟨E6 (hc:=hc.pe) (ha:=ha.pe) (hb:=hb.pe)⟩
end
section
variable {X:Cx}{e:Expr}{es:List Expr}{f:DE}{g:DA}{pos:Pos}
theorem aG  : QA X [] (LA X.K aF):=⟨Kv ⟩
end
section
variable {X:Cx}{e:Expr}{es:List Expr}{f:DE}{g:DA}{pos:Pos}
theorem aD(ha:QE X e (LE X.K f))(hr:QA X es (LA X.K g))(hs:starEach (e::es) X.env=(false,eval e X.env)::starEach es X.env:=by rfl):QA X (e::es) (LA X.K (aB f g)):=⟨Cl (ha:=ha.pe) (hr:=hr.pe) (hs:=hs)⟩
end
section
variable {X:Cx}{e:Expr}{es:List Expr}{f:DE}{g:DA}{pos:Pos}
theorem bF{j:Nat}(h:QA X es (LA X.K g)):QE X (.Tuple es j pos) (LE X.K (bC g)):=⟨K9 (h:=h.pe)⟩
end
section
variable {X:Cx}{e:Expr}{es:List Expr}{f:DE}{g:DA}{pos:Pos}
theorem jW(h:QA X es (LA X.K g)):QE X (.List es pos) (LE X.K (iE g)):=⟨Q6 (h:=h.pe)⟩
end
section
variable {X:Cx}{e:Expr}{es:List Expr}{f:DE}{g:DA}{pos:Pos}
theorem tP(h:QA X es (LA X.K g)):QE X (.List es pos) (LE X.K (qA g)):=⟨K3 (h:=h.pe)⟩
end
section
variable {X:Cx}{a b c e:Expr}{es:List Expr}{f g:DE}{ga:DA}{pos p2 p:Pos}
theorem Py(ha:QE X a (LE X.K f)):QE X (.UnaryOp .USub a pos) (LE X.K (wK f)):=⟨Vz (ha:=ha.pe)⟩
end
section
variable {X:Cx}{a b c e:Expr}{es:List Expr}{f g:DE}{ga:DA}{pos p2 p:Pos}
theorem dQ(ha:QE X a (LE X.K f))(hb:QE X b (LE X.K g))(hs:Cr b:=by exact fun _ _=>rfl):QE X (.Subscript a b pos) (LE X.K (aN dC f g)):=⟨CH (ha:=ha.pe) (hb:=hb.pe) (hs:=hs)⟩
end
section
variable {X:Cx}{a b c e:Expr}{es:List Expr}{f g:DE}{ga:DA}{pos p2 p:Pos}
theorem pY  : QO X none (LO X.K kR):=⟨J1 ⟩
end
section
variable {X:Cx}{a b c e:Expr}{es:List Expr}{f g:DE}{ga:DA}{pos p2 p:Pos}
theorem oO(ha:QE X a (LE X.K f)):QO X (some a) (LO X.K (kQ f)):=⟨Sz (ha:=ha.pe)⟩
end
section
variable {X:Cx}{a b c e:Expr}{es:List Expr}{f g:DE}{ga:DA}{pos p2 p:Pos}
theorem dW{x:Str}{id:String}{r:DC}(hc:CallD X (.builtin id) r)(hg:Gl X x)(hm:X.mg x=none)(hv:bootBuiltins x=some (.builtin id))(ha:QA X (e::es) (LA X.K ga))(hn:x≠"__name__":=by decide)(hdb:(x==("__debug__" : Str))=false:=by decide)(he:starEach (e::es) X.env=(false,eval e X.env)::starEach es X.env:=by rfl)(hpl:(backTo pos (starEach es X.env)).any (·.1)=false:=by rfl):QE X (.Call (.Name x p) (e::es) [] pos) (LE X.K (bS r ga)):=⟨S6 (hc:=hc) (hg:=hg) (hm:=hm) (hv:=hv) (ha:=ha.pe) (hn:=hn) (hdb:=hdb) (he:=he) (hpl:=hpl)⟩
end
section
variable {X:Cx}{a b c e:Expr}{es:List Expr}{f g:DE}{ga:DA}{pos p2 p:Pos}
theorem fR{x:Str}{T:String}{r:DC}(hc:CallD X (.type T) r)(hg:Gl X x)(hm:X.mg x=none)(hv:bootBuiltins x=some (.type T))(ha:QA X (e::es) (LA X.K ga))(hn:x≠"__name__":=by decide)(hdb:(x==("__debug__" : Str))=false:=by decide)(he:starEach (e::es) X.env=(false,eval e X.env)::starEach es X.env:=by rfl)(hpl:(backTo pos (starEach es X.env)).any (·.1)=false:=by rfl):QE X (.Call (.Name x p) (e::es) [] pos) (LE X.K (bS r ga)):=⟨X7 (hc:=hc) (hg:=hg) (hm:=hm) (hv:=hv) (ha:=ha.pe) (hn:=hn) (hdb:=hdb) (he:=he) (hpl:=hpl)⟩
end
section
variable {X:Cx}{st:Stmt}{rest body orelse:List Stmt}{t u b:DS}{e c tg iter:Expr}{f:DE}{tc:DT}{pos:Pos}
theorem aT  : QSs X [] (LS X.K aR):=⟨X1 ⟩
end
section
variable {X:Cx}{st:Stmt}{rest body orelse:List Stmt}{t u b:DS}{e c tg iter:Expr}{f:DE}{tc:DT}{pos:Pos}
theorem aL(h1:QS X st (LS X.K t))(h2:QSs X rest (LS X.K u)):QSs X (st::rest) (LS X.K (aK t u)):=⟨Vx (h1:=h1.pe) (h2:=h2.pe)⟩
end
section
variable {X:Cx}{st:Stmt}{rest body orelse:List Stmt}{t u b:DS}{e c tg iter:Expr}{f:DE}{tc:DT}{pos:Pos}
theorem pC(he:QE X e (LE X.K f))(hs:swapsWith e none pos.line X.env=pure false:=by rfl):QS X (.Expr e pos) (LS X.K (jO f)):=⟨Rb (he:=he.pe) (hs:=hs)⟩
end
section
variable {X:Cx}{st:Stmt}{rest body orelse:List Stmt}{t u b:DS}{e c tg iter:Expr}{f:DE}{tc:DT}{pos:Pos}
theorem bT(he:QE X e (LE X.K f)):QS X (.Return (some e) pos) (LS X.K (bN f)):=⟨J2 (he:=he.pe)⟩
end
section
variable {X:Cx}{st:Stmt}{rest body orelse:List Stmt}{t u b:DS}{e c tg iter:Expr}{f:DE}{tc:DT}{pos:Pos}
theorem dB(hc:QT X c (LT X.K tc))(h1:QSs X body (LS X.K t))(h2:QSs X orelse (LS X.K u)):QS X (.If c body orelse pos) (LS X.K (cX tc t u)):=⟨AL (hc:=hc.pe) (h1:=h1.pe) (h2:=h2.pe)⟩
end
section
variable {X:Cx}{st:Stmt}{rest body orelse:List Stmt}{t u b:DS}{e c tg iter:Expr}{f:DE}{tc:DT}{pos:Pos}
theorem bU(i:Nat){x:Str}{pos':Pos}(hN:X.N.Nodup)(he:QE X e (LE X.K f))(hi:X.N[i]?=some x:=by rfl)(hx:gH X.env.scope x:=by first | exact Or.inl rfl | exact Or.inr rfl)(hs:swapsWith e (some (.Name x pos')) pos.line X.env=pure false:=by rfl)(hf:X.fn x=true\/X.env.scope.names.lookup x=some .local:=by first | exact .inl rfl | exact .inr rfl):QS X (.Assign [.Name x pos'] e pos) (LS X.K (bI i f)):=⟨Zf (i:=i) (hN:=hN) (he:=he.pe) (hi:=hi) (hx:=hx) (hs:=hs) (hf:=hf)⟩
end
section
variable {X:Cx}{st:Stmt}{rest body orelse:List Stmt}{t u b:DS}{e c tg iter:Expr}{f:DE}{tc:DT}{pos:Pos}
theorem cO(i:Nat){x:Str}(hN:X.N.Nodup)(hi:X.N[i]?=some x:=by rfl)(hx:gH X.env.scope x:=by first | exact Or.inl rfl | exact Or.inr rfl)(hf:X.fn x=true\/X.env.scope.names.lookup x=some .local:=by first | exact .inl rfl | exact .inr rfl):QG X (.Name x pos) (LG X.K (gN i)):=⟨V0 (i:=i) (hN:=hN) (hi:=hi) (hx:=hx) (hf:=hf)⟩
end
section
variable {X:Cx}{st:Stmt}{rest body orelse:List Stmt}{t u b:DS}{e c tg iter:Expr}{f:DE}{tc:DT}{pos:Pos}
theorem Oh  : QGs X [] (jP X.K nR):=⟨Uk ⟩
end
section
variable {X:Cx}{st:Stmt}{rest body orelse:List Stmt}{t u b:DS}{e c tg iter:Expr}{f:DE}{tc:DT}{pos:Pos}
theorem vD{es:List Expr}{g:DG}{r:iW}(h1:QG X e (LG X.K g))(h2:QGs X es (jP X.K r))(hs:(assignEach (e::es) X.env).map (·.2)=assign e X.env::(assignEach es X.env).map (·.2):=by rfl):QGs X (e::es) (jP X.K (hV g r)):=⟨Q5 (h1:=h1.pe) (h2:=h2.pe) (hs:=hs)⟩
end
section
variable {X:Cx}{st:Stmt}{rest body orelse:List Stmt}{t u b:DS}{e c tg iter:Expr}{f:DE}{tc:DT}{pos:Pos}
theorem Lv{es:List Expr}{j n:Nat}{g:iW}(hc:X.calm=true)(h:QGs X es (jP X.K g))(hn:(assignEach es X.env).length=n:=by rfl)(hst:(assignEach es X.env).findIdx? (·.1)=none:=by rfl):QG X (.Tuple es j pos) (LG X.K (gT n g)):=⟨Ux (hc:=hc) (h:=h.pe) (hn:=hn) (hst:=hst)⟩
end
section
variable {X:Cx}{st:Stmt}{rest body orelse:List Stmt}{t u b:DS}{e c tg iter:Expr}{f:DE}{tc:DT}{pos:Pos}
theorem eR(ha:QE X e (LE X.K f)):QI X tg e (LI X.K (eB f)):=⟨P5 (ha:=ha.pe)⟩
end
section
variable {X:Cx}{st:Stmt}{rest body orelse:List Stmt}{t u b:DS}{e c tg iter:Expr}{f:DE}{tc:DT}{pos:Pos}
theorem rQ{p:Pos}(hg:Gl X "range")(hm:X.mg "range"=none)(ha:QE X e (LE X.K f))(hs:starEach [e] X.env=[(false,eval e X.env)]:=by rfl):QI X tg (.Call (.Name "range" p) [e] [] pos) (LI X.K (mW f)):=⟨Sl (hg:=hg) (hm:=hm) (ha:=ha.pe) (hs:=hs)⟩
end
section
variable {X:Cx}{st:Stmt}{rest body orelse:List Stmt}{t u b:DS}{e c tg iter:Expr}{f:DE}{tc:DT}{pos:Pos}
theorem jG{fi:DI}{g:DG}(hp:PassesOwn (model X.prog X.w) X.A X.env X.xe)(hc:X.calm=true)(hi:QI X tg iter (LI X.K fi))(hg:QG X tg (LG X.K g))(hb:QSs X body (LS X.K b))(hs:∀ x,foldedSetIterable iter X.env x=pure x:=by intro _;rfl):QS X (.For tg iter body [] pos) (LS X.K (gJ fi g b)):=⟨N3 (hp:=hp) (hc:=hc) (hi:=hi.pe) (hg:=hg.pe) (hb:=hb.pe) (hs:=hs)⟩
end
section
variable {X:Cx}{a e:Expr}{es:List Expr}{f:DE}{ga:DA}{pos p p1 p2 p3 p4:Pos}
theorem Ah{T:Str}{c:String}(hg:Gl X "isinstance")(hm:X.mg "isinstance"=none)(hgT:Gl X T)(hmT:X.mg T=none)(hv:bootBuiltins T=some (.type c))(hc:c="int"\/c="bool"\/c="str"\/c="tuple"\/c="list")(ha:QE X a (LE X.K f))(hn:T≠"__name__":=by decide)(hd:(T==("__debug__" : Str))=false:=by decide)(he:starEach [a,.Name T p2] X.env=(false,eval a X.env)::starEach [.Name T p2] X.env:=by rfl):QE X (.Call (.Name "isinstance" p1) [a,.Name T p2] [] pos) (LE X.K (pT f c)):=⟨B8 (hg:=hg) (hm:=hm) (hgT:=hgT) (hmT:=hmT) (hv:=hv) (hc:=hc) (ha:=ha.pe) (hn:=hn) (hd:=hd) (he:=he)⟩
end
section
variable {X:Cx}{a e:Expr}{es:List Expr}{f:DE}{ga:DA}{pos p p1 p2 p3 p4:Pos}
theorem bL{k n:Nat}{fa:Addr}{fd:FuncData}{ps:List Str}{sp:DC}{x:Str}(F:FnOk X.prog X.w X.K X.mg X.base aV k fa fd ps (LSp X.K n sp))(hr:Room k X.A)(hm:X.mg x=some (.ref fa))(hk:PySem.W.keepIn X.K (.ref fa)=true)(hb:Binds X.K fd ps [])(hx:X.xe=fun _ _=>False)(ha:QA X (e::es) (LA X.K ga))(hg:Gl X x:=by rfl)(hdb:(x==("__debug__" : Str))=false:=by decide)(he:starEach (e::es) X.env=(false,eval e X.env)::starEach es X.env:=by rfl)(hpl:(backTo pos (starEach es X.env)).any (·.1)=false:=by rfl):QE X (.Call (.Name x p) (e::es) [] pos) (LE X.K (bB n sp ga)):=⟨R4 (F:=F) (hr:=hr) (hm:=hm) (hk:=hk) (hb:=hb) (hx:=hx) (ha:=ha.pe) (hg:=hg) (hdb:=hdb) (he:=he) (hpl:=hpl)⟩
end
section
theorem gK{Y:Cx}:QF Y [] (LT Y.K cW):=⟨BM ⟩
end
section
theorem Bp{Y:Cx}{c:Expr}{t:TT}(h:QT Y c t):QF Y [c] t:=⟨Vc (h:=h.pe)⟩
end
section
variable {X:Cx}{a e o:Expr}{es:List Expr}{f g:DE}{ga:DA}{pos p p1 p2:Pos}
theorem Rj{x:Str}{c:Addr}{zs:List Str}(hg:Gl X x)(hm:X.mg x=some (.ref c))(hk:KT X.K c zs)(hd:(x==("__debug__" : Str))=false:=by decide):QE X (.Name x pos) (LE X.K (aC (.tuple (zs.map .str)))):=⟨Qf (hg:=hg) (hm:=hm) (hk:=hk) (hd:=hd)⟩
end
section
variable {X:Cx}{tg iter elt:Expr}{ifs:List Expr}{scope:Scope}{fi:DI}{g:DG}{t:DT}{f:DE}{pos:Pos}
theorem kD(NC:List Str)(src:List (Option Nat))(hc:X.calm=true)(hi:QI X tg iter (LI X.K fi))(hg:∀ cl C s2 H2 pins fp,QG (aP X scope cl C NC s2 H2 pins fp) tg (LG X.K g))(ht:∀ cl C s2 H2 pins fp,QF (aP X scope cl C NC s2 H2 pins fp) ifs (LT X.K t))(he:∀ cl C s2 H2 pins fp,QE (aP X scope cl C NC s2 H2 pins fp) elt (LE X.K f))(hkind:scope.kind=.function:=by rfl)(hB:chkB scope X.env=true:=by rfl)(hS:chkS X.N scope X.env NC src=true:=by rfl)(hs:∀ x,foldedSetIterable iter X.env x=pure x:=by intro _;rfl):QE X (.ListComp elt [⟨tg,iter,ifs,0⟩] scope pos) (LE X.K (dU src fi g t f)):=⟨Ts (NC:=NC) (src:=src) (hc:=hc) (hi:=hi.pe) (hg:=fun cl C s2 H2 pins fp=>(hg cl C s2 H2 pins fp).pe) (ht:=fun cl C s2 H2 pins fp=>(ht cl C s2 H2 pins fp).pe) (he:=fun cl C s2 H2 pins fp=>(he cl C s2 H2 pins fp).pe) (hkind:=hkind) (hB:=hB) (hS:=hS) (hs:=hs)⟩
end
section
variable {X:Cx}{tg iter elt:Expr}{ifs:List Expr}{scope:Scope}{fi:DI}{g:DG}{t:DT}{f:DE}{pos:Pos}
theorem Lx(i:Nat){y:Str}{py spos:Pos}(NC:List Str)(src:List (Option Nat))(hc:X.calm=true)(hN:X.N.Nodup)(hi:QI X tg iter (LI X.K fi))(hg:∀ cl C s2 H2 pins fp,QG (aP X scope cl C NC s2 H2 pins fp) tg (LG X.K g))(ht:∀ cl C s2 H2 pins fp,QF (aP X scope cl C NC s2 H2 pins fp) ifs (LT X.K t))(he:∀ cl C s2 H2 pins fp,QE (aP X scope cl C NC s2 H2 pins fp) elt (LE X.K f))(hkind:scope.kind=.function:=by rfl)(hB:chkB scope X.env=true:=by rfl)(hS:chkS X.N scope X.env NC src=true:=by rfl)(hi2:X.N[i]?=some y:=by rfl)(hx:gH X.env.scope y:=by first | exact Or.inl rfl | exact Or.inr rfl)(hf:X.fn y=true\/X.env.scope.names.lookup y=some .local:=by first | exact .inl rfl | exact .inr rfl)(hsw:swapsWith (.ListComp elt [⟨tg,iter,ifs,0⟩] scope pos) (some (.Name y py)) spos.line X.env=pure true:=by rfl)(hs:∀ x,foldedSetIterable iter X.env x=pure x:=by intro _;rfl):QS X (.Assign [.Name y py] (.ListComp elt [⟨tg,iter,ifs,0⟩] scope pos) spos) (LS X.K (bI i (dU src fi g t f))):=⟨t4 (i:=i) (NC:=NC) (src:=src) (hc:=hc) (hN:=hN) (hi:=hi.pe) (hg:=fun cl C s2 H2 pins fp=>(hg cl C s2 H2 pins fp).pe) (ht:=fun cl C s2 H2 pins fp=>(ht cl C s2 H2 pins fp).pe) (he:=fun cl C s2 H2 pins fp=>(he cl C s2 H2 pins fp).pe) (hkind:=hkind) (hB:=hB) (hS:=hS) (hi2:=hi2) (hx:=hx) (hf:=hf) (hsw:=hsw) (hs:=hs)⟩
end
section
variable {X:Cx}{a e o:Expr}{es:List Expr}{f g:DE}{ga:DA}{pos p p1 p2:Pos}
theorem xY{apos cpos:Pos}(ho:QE X o (LE X.K f))(he:QE X e (LE X.K g))(hbase:attributeBase o "append" X.env (eval o X.env)=eval o X.env:=by rfl)(hfew:((backTo cpos (starEach [e] X.env)).all (fun x=>!x.1)&&(backToKw cpos (keywordEach [] X.env)).all (fun x=>x.1.isSome)&&decide ([e].length+([]:List Keyword).length+(if ([]:List Keyword).isEmpty then 0 else 1)<30))=true:=by rfl)(hline:(apos.endLine==cpos.line)=true:=by rfl)(hs:starEach [e] X.env=(false,eval e X.env)::starEach [] X.env:=by rfl):QE X (.Call (.Attribute o "append" apos) [e] [] cpos) (LE X.K (qZ f g)):=⟨W6 (ho:=ho.pe) (he:=he.pe) (hbase:=hbase) (hfew:=hfew) (hline:=hline) (hs:=hs)⟩
end
section
variable {X:Cx}{a e o:Expr}{es:List Expr}{f g:DE}{ga:DA}{pos p p1 p2:Pos}
theorem qU{lo hi:Option Expr}{tl th:DO}(ha:QE X a (LE X.K f))(hl:QO X lo (LO X.K tl))(hu:QO X hi (LO X.K th)):QE X (.Subscript a (.Slice lo hi none p2) pos) (LE X.K (mY f tl th)):=⟨T9 (ha:=ha.pe) (hl:=hl.pe) (hu:=hu.pe)⟩
end
section
variable {X:Cx}{o i e:Expr}{fo fi f:DE}{pos tpos:Pos}
theorem uY(hu:X.A.units+100<cLine)(he:QE X e (LE X.K f))(ho:QE X o (LE X.K fo))(hi:QE X i (LE X.K fi))(hs:swapsWith e (some (.Subscript o i tpos)) pos.line X.env=pure false:=by rfl):QS X (.Assign [.Subscript o i tpos] e pos) (LS X.K (qJ fo fi f)):=⟨Vk (hu:=hu) (he:=he.pe) (ho:=ho.pe) (hi:=hi.pe) (hs:=hs)⟩
end
section
variable {X:Cx}{o i e:Expr}{fo fi f:DE}{pos tpos:Pos}
theorem fZ(hu:X.A.units+100<cLine)(ho:QE X o (LE X.K fo))(hi:QE X i (LE X.K fi))(hs:iG i:=by exact fun _ _=>rfl):QE X (.Subscript o i pos) (LE X.K (fL fo fi)):=⟨Rm (hu:=hu) (ho:=ho.pe) (hi:=hi.pe) (hs:=hs)⟩
end
section
variable {X:Cx}{i e g:Expr}{fi f fg:DE}{p pos apos cpos:Pos}
theorem uJ{x:Str}{c:Addr}{kvs:List (Str×PyData)}(hg:Gl X x)(hm:X.mg x=some (.ref c))(hk:KD X.K X.w c kvs)(hi:QE X i (LE X.K fi))(hd:(x==("__debug__" : Str))=false:=by decide)(hs:iG i:=by exact fun _ _=>rfl):QE X (.Subscript (.Name x p) i pos) (LE X.K (kX kvs fi)):=⟨y9 (hg:=hg) (hm:=hm) (hk:=hk) (hi:=hi.pe) (hd:=hd) (hs:=hs)⟩
end
section
variable {X:Cx}{o i e:Expr}{es:List Expr}{fo f:DE}{fa:DA}{pos tpos ipos:Pos}{j:Nat}
theorem G1  : QE X (.Dict [] [] pos) (LE X.K Dn):=⟨j9 ⟩
end
section
variable {X:Cx}{o i e:Expr}{es:List Expr}{fo f:DE}{fa:DA}{pos tpos ipos:Pos}{j:Nat}
theorem Xw(hu:X.A.units+100<cLine)(he:QE X e (LE X.K f))(ho:QE X o (LE X.K fo))(ha:QA X es (LA X.K fa))(hs:swapsWith e (some (.Subscript o (.Tuple es j ipos) tpos)) pos.line X.env=pure false:=by rfl):QS X (.Assign [.Subscript o (.Tuple es j ipos) tpos] e pos) (LS X.K (Fw fo fa f)):=⟨Rc (hu:=hu) (he:=he.pe) (ho:=ho.pe) (ha:=ha.pe) (hs:=hs)⟩
end
section
variable {X:Cx}{tg iter tg2 iter2 elt:Expr}{ifs ifs2:List Expr}{scope:Scope}{NC:List Str}{fi fi2:DI}{g g2:DG}{t t2:DT}{f:DE}{pos:Pos}
theorem N9{k n:Nat}{fa:Addr}{fd:FuncData}{ps:List Str}{sp:DC}{x:Str}{p:Pos}(F:FnOk X.prog X.w X.K X.mg X.base aV k fa fd ps (LSp X.K n sp))(hr:Room k X.A)(hm:X.mg x=some (.ref fa))(hk:PySem.W.keepIn X.K (.ref fa)=true)(hb:Binds X.K fd ps [])(hx:X.xe=fun _ _=>False)(hg:Gl X x:=by rfl)(hdb:(x==("__debug__" : Str))=false:=by decide):QE X (.Call (.Name x p) [] [] pos) (LE X.K (bB n sp aF)):=⟨S8 (F:=F) (hr:=hr) (hm:=hm) (hk:=hk) (hb:=hb) (hx:=hx) (hg:=hg) (hdb:=hdb)⟩
end
section
variable {X:Cx}{tg iter tg2 iter2 elt:Expr}{ifs ifs2:List Expr}{scope:Scope}{NC:List Str}{fi fi2:DI}{g g2:DG}{t t2:DT}{f:DE}{pos:Pos}
theorem p8(NC:List Str)(src:List (Option Nat))(hc:X.calm=true)(hi:QI X tg iter (LI X.K fi))(hg:∀ cl C s2 H2 pins fp,QG (aP X scope cl C NC s2 H2 pins fp) tg (LG X.K g))(ht:∀ cl C s2 H2 pins fp,QF (aP X scope cl C NC s2 H2 pins fp) ifs (LT X.K t))(hi2:∀ cl C s2 H2 pins fp,QI (aP X scope cl C NC s2 H2 pins fp) tg2 iter2 (LI X.K fi2))(hg2:∀ cl C s2 H2 pins fp,QG (aP X scope cl C NC s2 H2 pins fp) tg2 (LG X.K g2))(ht2:∀ cl C s2 H2 pins fp,QF (aP X scope cl C NC s2 H2 pins fp) ifs2 (LT X.K t2))(he:∀ cl C s2 H2 pins fp,QE (aP X scope cl C NC s2 H2 pins fp) elt (LE X.K f))(hkind:scope.kind=.function:=by rfl)(hB:chkB scope X.env=true:=by rfl)(hS:chkS X.N scope X.env NC src=true:=by rfl)(hs2:∀ cl C x,foldedSetIterable iter2 (compEnvC scope cl C X.env) x=pure x:=by intro _ _ _;rfl)(hs:∀ x,foldedSetIterable iter X.env x=pure x:=by intro _;rfl):QE X (.ListComp elt [⟨tg,iter,ifs,0⟩,⟨tg2,iter2,ifs2,0⟩] scope pos) (LE X.K (uE src fi g t fi2 g2 t2 f)):=⟨Vu (NC:=NC) (src:=src) (hc:=hc) (hi:=hi.pe) (hg:=fun cl C s2 H2 pins fp=>(hg cl C s2 H2 pins fp).pe) (ht:=fun cl C s2 H2 pins fp=>(ht cl C s2 H2 pins fp).pe) (hi2:=fun cl C s2 H2 pins fp=>(hi2 cl C s2 H2 pins fp).pe) (hg2:=fun cl C s2 H2 pins fp=>(hg2 cl C s2 H2 pins fp).pe) (ht2:=fun cl C s2 H2 pins fp=>(ht2 cl C s2 H2 pins fp).pe) (he:=fun cl C s2 H2 pins fp=>(he cl C s2 H2 pins fp).pe) (hkind:=hkind) (hB:=hB) (hS:=hS) (hs2:=hs2) (hs:=hs)⟩
end
section
variable {X:Cx}{e g:Expr}{fi fg:DE}{p apos cpos:Pos}
theorem T8{x:Str}{c:Addr}{kvs:List (List Str×PyData)}(hu:X.A.units+100<cLine)(hg:Gl X x)(hm:X.mg x=some (.ref c))(hk:uS X.K X.w c kvs)(he:QE X e (LE X.K fi))(hf:QE X g (LE X.K fg))(hd:(x==("__debug__" : Str))=false:=by decide)(hbase:attributeBase (.Name x p) "get" X.env (eval (.Name x p) X.env)=eval (.Name x p) X.env:=by rfl)(hfew:((backTo cpos (starEach [e,g] X.env)).all (fun x=>!x.1)&&(backToKw cpos (keywordEach [] X.env)).all (fun x=>x.1.isSome)&&decide (([e,g]:List Expr).length+([]:List Keyword).length+(if ([]:List Keyword).isEmpty then 0 else 1)<30))=true:=by rfl)(hline:(apos.endLine==cpos.line)=true:=by rfl)(hs:backTo cpos (starEach [e,g] X.env)=[(false,eval e X.env),(false,eval g X.env)]:=by rfl):QE X (.Call (.Attribute (.Name x p) "get" apos) [e,g] [] cpos) (LE X.K (vQ kvs fi fg)):=⟨AG (hu:=hu) (hg:=hg) (hm:=hm) (hk:=hk) (he:=he.pe) (hf:=hf.pe) (hd:=hd) (hbase:=hbase) (hfew:=hfew) (hline:=hline) (hs:=hs)⟩
end
section
variable {X:Cx}{a:Expr}{f:DE}{pos p2:Pos}
theorem Vf{lo hi:Option Expr}{tl th:DO}(ha:QE X a (LE X.K f))(hl:QO X lo (LO X.K tl))(hu:QO X hi (LO X.K th)):QE X (.Subscript a (.Slice lo hi none p2) pos) (LE X.K (Du f tl th)):=⟨Qx (ha:=ha.pe) (hl:=hl.pe) (hu:=hu.pe)⟩
end
section
variable {X:Cx}{e:Expr}{f:DE}{pos p:Pos}
theorem V3(hc:X.calm=true)(hg:Gl X "dict")(hm:X.mg "dict"=none)(he:QE X e (LE X.K f))(hs:starEach [e] X.env=[(false,eval e X.env)]:=by rfl):QE X (.Call (.Name "dict" p) [e] [] pos) (LE X.K (xV f)):=⟨BB (hc:=hc) (hg:=hg) (hm:=hm) (he:=he.pe) (hs:=hs)⟩
end
section
variable {X:Cx}{pos:Pos}
theorem mJ  : QD X pos [] [] []:=⟨x4 ⟩
end
section
variable {X:Cx}{pos:Pos}
theorem cF{k v:Expr}{ks:List (Option Expr)}{vs:List Expr}{fk fv:DE}{ps:List (DE×DE)}(hk:QE X k (LE X.K fk))(hv:QE X v (LE X.K fv))(hr:QD X pos ks vs ps):QD X pos (some k::ks) (v::vs) ((fk,fv)::ps):=⟨Sj (hk:=hk.pe) (hv:=hv.pe) (hr:=hr.pe)⟩
end
section
variable {X:Cx}{pos:Pos}
theorem lM{keys:List (Option Expr)}{values:List Expr}{ps:List (DE×DE)}(h:QD X pos keys values ps)(hall:keys.all (·.isSome)=true:=by rfl)(hl:keys.length=values.length:=by rfl)(h0:keys≠[]:=by exact List.cons_ne_nil _ _)(h15:keys.length<=15:=by decide):QE X (.Dict keys values pos) (LE X.K (iJ ps)):=⟨BV (h:=h.pe) (hall:=hall) (hl:=hl) (h0:=h0) (h15:=h15)⟩
end
section
variable {X:Cx}{pos:Pos}
variable {o e:Expr}{f g:DE}
theorem Hu{apos cpos:Pos}(ho:QE X o (LE X.K f))(he:QE X e (LE X.K g))(M:M1 X o "update" apos e cpos:=by exact⟨by rfl,by rfl,by rfl,by rfl⟩):QE X (.Call (.Attribute o "update" apos) [e] [] cpos) (LE X.K (wG f g)):=⟨t8 (ho:=ho.pe) (he:=he.pe) (M:=M)⟩
end
section
variable {X:Cx}{a b c:Expr}{f g h:DE}{pos:Pos}
theorem Wh{op op':CmpOp}{r r':D2}(ho:cP X (compareOp op) r)(ho':cP X (compareOp op') r')(ha:QE X a (LE X.K f))(hb:QE X b (LE X.K g))(hc:QE X c (LE X.K h))(hm:lastMarks [op,op'] [b,c]=false:=by with_unfolding_all rfl):QE X (.Compare a [op,op'] [b,c] pos) (LE X.K (xA r r' f g h)):=⟨Td (ho:=ho) (ho':=ho') (ha:=ha.pe) (hb:=hb.pe) (hc:=hc.pe) (hm:=hm)⟩
end
section
variable {X:Cx}{o i e:Expr}{fo fi f:DE}{pos tpos:Pos}
theorem Nc(hu:X.A.units+100<cLine)(he:QE X e (LE X.K f))(ho:QE X o (LE X.K fo))(hi:QE X i (LE X.K fi))(hs:swapsWith e (some (.Subscript o i tpos)) pos.line X.env=pure false:=by rfl):QS X (.Assign [.Subscript o i tpos] e pos) (LS X.K (sI fo fi f)):=⟨Ww (hu:=hu) (he:=he.pe) (ho:=ho.pe) (hi:=hi.pe) (hs:=hs)⟩
end
section
variable {X:Cx}{o e:Expr}{f g:DE}{pos:Pos}
theorem CG{apos cpos:Pos}(ho:QE X o (LE X.K f))(he:QE X e (LE X.K g))(hbase:attributeBase o "extend" X.env (eval o X.env)=eval o X.env:=by rfl)(hfew:((backTo cpos (starEach [e] X.env)).all (fun x=>!x.1)&&(backToKw cpos (keywordEach [] X.env)).all (fun x=>x.1.isSome)&&decide ([e].length+([]:List Keyword).length+(if ([]:List Keyword).isEmpty then 0 else 1)<30))=true:=by rfl)(hline:(apos.endLine==cpos.line)=true:=by rfl)(hs:starEach [e] X.env=(false,eval e X.env)::starEach [] X.env:=by rfl):QE X (.Call (.Attribute o "extend" apos) [e] [] cpos) (LE X.K (Bg f g)):=⟨BK (ho:=ho.pe) (he:=he.pe) (hbase:=hbase) (hfew:=hfew) (hline:=hline) (hs:=hs)⟩
end
section
variable {X:Cx}{elt tg iter:Expr}{ifs:List Expr}{scope:Scope}{NC:List Str}{fi:DI}{g:DG}{t:DT}{f:DE}{pos:Pos}
theorem Y6{p pos2:Pos}(NC:List Str)(src:List (Option Nat))(hc:X.calm=true)(hg0:Gl X "sorted")(hm0:X.mg "sorted"=none)(hi:QI X tg iter (LI X.K fi))(hg:∀ cl C s2 H2 pins fp,QG (aP X scope cl C NC s2 H2 pins fp) tg (LG X.K g))(ht:∀ cl C s2 H2 pins fp,QF (aP X scope cl C NC s2 H2 pins fp) ifs (LT X.K t))(he:∀ cl C s2 H2 pins fp,QE (aP X scope cl C NC s2 H2 pins fp) elt (LE X.K f))(hkind:scope.kind=.function:=by rfl)(hB:chkB scope X.env=true:=by rfl)(hS:chkS X.N scope X.env NC src=true:=by rfl)(hs:∀ x,foldedSetIterable iter X.env x=pure x:=by intro _;rfl)(hs2:starEach [.SetComp elt [⟨tg,iter,ifs,0⟩] scope pos2] X.env=[(false,eval (.SetComp elt [⟨tg,iter,ifs,0⟩] scope pos2) X.env)]:=by rfl):QE X (.Call (.Name "sorted" p) [.SetComp elt [⟨tg,iter,ifs,0⟩] scope pos2] [] pos) (LE X.K (vA src fi g t f)):=⟨Sm (NC:=NC) (src:=src) (hc:=hc) (hg0:=hg0) (hm0:=hm0) (hi:=hi.pe) (hg:=fun cl C s2 H2 pins fp=>(hg cl C s2 H2 pins fp).pe) (ht:=fun cl C s2 H2 pins fp=>(ht cl C s2 H2 pins fp).pe) (he:=fun cl C s2 H2 pins fp=>(he cl C s2 H2 pins fp).pe) (hkind:=hkind) (hB:=hB) (hS:=hS) (hs:=hs) (hs2:=hs2)⟩
end
section
variable {X:Cx}{a b:Expr}{elts:List Expr}{j:Nat}{f g:DE}{pos p p2:Pos}
theorem Zw(hg:Gl X "zip")(hm:X.mg "zip"=none)(ha:QE X a (LE X.K f))(hb:QE X b (LE X.K g))(hs:starEach [a,b] X.env=[(false,eval a X.env),(false,eval b X.env)]:=by rfl)(hs2:starEach [b] X.env=[(false,eval b X.env)]:=by rfl):QI X (.Tuple elts j p2) (.Call (.Name "zip" p) [a,b] [] pos) (LI X.K (uB f g)):=⟨F3 (hg:=hg) (hm:=hm) (ha:=ha.pe) (hb:=hb.pe) (hs:=hs) (hs2:=hs2)⟩
end
section
variable {X:Cx}{o i a tg:Expr}{fo fi f:DE}{pos:Pos}
theorem sB(hu:X.A.units+100<cLine)(ho:QE X o (LE X.K fo))(hi:QE X i (LE X.K fi))(hs:iG i:=by exact fun _ _=>rfl):QE X (.Subscript o i pos) (LE X.K (jE fo fi)):=⟨Qt (hu:=hu) (ho:=ho.pe) (hi:=hi.pe) (hs:=hs)⟩
end
section
variable {X:Cx}{o i a tg:Expr}{fo fi f:DE}{pos:Pos}
theorem Iw{e:Expr}(he:QE X e (LE X.K f)):QE X e (LE X.K (sE f)):=⟨Z5 (he:=he.pe)⟩
end
section
variable {X:Cx}{a tg:Expr}{f:DE}
theorem O5(ha:QE X a (LE X.K f)):QI X tg a (LI X.K (wQ f)):=⟨V9 (ha:=ha.pe)⟩
end
section
variable {X:Cx}{a tg:Expr}{f:DE}
theorem Q4(ha:QE X a (LE X.K f)):QI X tg a (LI X.K (Ds f)):=⟨Tm (ha:=ha.pe)⟩
end
section
variable {X:Cx}{o i:Expr}{fo fi:DE}{pos:Pos}
theorem D3(hu:X.A.units+100<cLine)(ho:QE X o (LE X.K fo))(hi:QE X i (LE X.K fi))(hs:iG i:=by exact fun _ _=>rfl):QE X (.Subscript o i pos) (LE X.K (uW fo fi)):=⟨CJ (hu:=hu) (ho:=ho.pe) (hi:=hi.pe) (hs:=hs)⟩
end
section
variable {X:Cx}{o i e g ek:Expr}{fo fi f fg fk:DE}{pos apos cpos:Pos}
theorem AQ(hu:X.A.units+100<cLine)(hk:QE X ek (LE X.K fk))(he:QE X e (LE X.K f))(hsh:(evalEachOpt [some ek] X.env).zip ((evalEach [e] X.env).map fun v=>do let x <- v;standAt pos;pure x)=[(some (eval ek X.env),do let x <- eval e X.env;standAt pos;pure x)]:=by rfl):QE X (.Dict [some ek] [e] pos) (LE X.K (Ax fk f)):=⟨Yi (hu:=hu) (hk:=hk.pe) (he:=he.pe) (hsh:=hsh)⟩
end
section
variable {X:Cx}{o i e g ek:Expr}{fo fi f fg fk:DE}{pos apos cpos:Pos}
theorem Wc(hu:X.A.units+100<cLine)(ho:QE X o (LE X.K fo))(hi:QE X e (LE X.K fi))(hf:QE X g (LE X.K fg))(hbase:attributeBase o "get" X.env (eval o X.env)=eval o X.env:=by rfl)(hfew:((backTo cpos (starEach [e,g] X.env)).all (fun x=>!x.1)&&(backToKw cpos (keywordEach [] X.env)).all (fun x=>x.1.isSome)&&decide (([e,g]:List Expr).length+([]:List Keyword).length+(if ([]:List Keyword).isEmpty then 0 else 1)<30))=true:=by rfl)(hline:(apos.endLine==cpos.line)=true:=by rfl)(hs:backTo cpos (starEach [e,g] X.env)=[(false,eval e X.env),(false,eval g X.env)]:=by rfl):QE X (.Call (.Attribute o "get" apos) [e,g] [] cpos) (LE X.K (Bi fo fi fg)):=⟨Qn (hu:=hu) (ho:=ho.pe) (hi:=hi.pe) (hf:=hf.pe) (hbase:=hbase) (hfew:=hfew) (hline:=hline) (hs:=hs)⟩
end
section
variable {X:Cx}{e:Expr}{f:DE}{pos p pos2 p2:Pos}
theorem Tq(hc:X.calm=true)(hg:Gl X "sorted")(hm:X.mg "sorted"=none)(hg2:Gl X "set")(hm2:X.mg "set"=none)(he:QE X e (LE X.K f))(hs:starEach [e] X.env=[(false,eval e X.env)]:=by rfl)(hs2:starEach [.Call (.Name "set" p2) [e] [] pos2] X.env=[(false,eval (.Call (.Name "set" p2) [e] [] pos2) X.env)]:=by rfl):QE X (.Call (.Name "sorted" p) [.Call (.Name "set" p2) [e] [] pos2] [] pos) (LE X.K (Bv f)):=⟨Q7 (hc:=hc) (hg:=hg) (hm:=hm) (hg2:=hg2) (hm2:=hm2) (he:=he.pe) (hs:=hs) (hs2:=hs2)⟩
end
section
variable {X:Cx}{elt tg:Expr}{ifs:List Expr}{scope:Scope}{NC:List Str}{g:DG}{t:DT}{f:DE}{pos npos:Pos}
theorem CI(i:Nat){x:Str}(NC:List Str)(src:List (Option Nat))(hc:X.calm=true)(hg:∀ cl C s2 H2 pins fp,QG (aP X scope cl C NC s2 H2 pins fp) tg (LG X.K g))(ht:∀ cl C s2 H2 pins fp,QF (aP X scope cl C NC s2 H2 pins fp) ifs (LT X.K t))(he:∀ cl C s2 H2 pins fp,QE (aP X scope cl C NC s2 H2 pins fp) elt (LE X.K f))(hN:X.N[i]?=some x:=by rfl)(hv:fT X.env.scope x:=by first | exact Or.inl rfl | exact Or.inr (Or.inl rfl) | exact Or.inr (Or.inr rfl))(hd:(x==("__debug__" : Str))=false:=by decide)(hcd:(x==("__classdict__" : Str))=false:=by decide)(hkind:scope.kind=.function:=by rfl)(hB:chkB scope X.env=true:=by rfl)(hS:chkS X.N scope X.env NC src=true:=by rfl)(hs:∀ v,foldedSetIterable (.Name x npos) X.env v=pure v:=by intro _;rfl):QE X (.ListComp elt [⟨tg,.Name x npos,ifs,0⟩] scope pos) (LE X.K (Fz i src g t f)):=⟨W1 (i:=i) (NC:=NC) (src:=src) (hc:=hc) (hg:=fun cl C s2 H2 pins fp=>(hg cl C s2 H2 pins fp).pe) (ht:=fun cl C s2 H2 pins fp=>(ht cl C s2 H2 pins fp).pe) (he:=fun cl C s2 H2 pins fp=>(he cl C s2 H2 pins fp).pe) (hN:=hN) (hv:=hv) (hd:=hd) (hcd:=hcd) (hkind:=hkind) (hB:=hB) (hS:=hS) (hs:=hs)⟩
end
section
variable {P:Program}{w:World}{K:PySem.W.Frag}{mg:Str->Option Value}{base:Heap}
theorem cU{x qual:Str}{st:Stmt}{fa:Addr}{fd:FuncData}{N ps:List Str}{k:Nat}{sp:DC}{body:DS}(F:Fun K x qual st fa fd)(S:FnScope N ps (aY st))
  (hb:∀ (cdv:Value) (A:Around) (outer:List Env) (s:Shared) (H:Hp) (E:XK),Room k (A.deeper (envOfC qual (aY st) s.heap.objs.size fa cdv))->QSs (kC aV P w K mg base N qual (aY st) fa cdv A outer s H E).nox (cA st) (LS K body))
  (hv:∀ ds m R,ds.length=ps.length->sp ds m R->body {nx:=fun _ m=>R (.dat .none) m,rt:=R} (bA N ds) m):FnOk P w K mg base aV (k+1) fa fd ps (LSp K ps.length sp):=BQ F S (fun cdv A outer s H E hr=>(hb cdv A outer s H E hr).pe) hv
end
end DL
set_option maxHeartbeats 1000000
namespace K01
open PySem PySem.Spec PyProof.Rows L2 DL
def Bd(n:Nat)(i:Int):Prop:=i.natAbs<2^n
theorem Bd.mono{m n:Nat}{i:Int}(h:Bd m i)(hl:m<=n):Bd n i:=Nat.lt_of_lt_of_le h (Nat.pow_le_pow_right (by decide) hl)
theorem Bd.mul{m n:Nat}{i j:Int}(h:Bd m i)(g:Bd n j):Bd (m+n) (i*j):=by
 unfold Bd at *;rw[Int.natAbs_mul,Nat.pow_add];exact Nat.mul_lt_mul'' h g
theorem Bd.add{n:Nat}{i j:Int}(h:Bd n i)(g:Bd n j):Bd (n+1) (i+j):=by
 unfold Bd at *;have:=Int.natAbs_add_le i j
 rw[Nat.pow_succ];omega
theorem Bd.neg{n:Nat}{i:Int}(h:Bd n i):Bd n (-i):=by
 unfold Bd at *;rw[Int.natAbs_neg];exact h
theorem Bd.sub{n:Nat}{i j:Int}(h:Bd n i)(g:Bd n j):Bd (n+1) (i-j):=by
 rw[Int.sub_eq_add_neg];exact h.add g.neg
end K01
namespace K01
open PySem PySem.Spec PyProof.Rows L2 DL
def Sv(B w e:Nat)(p:PyData):Prop:=p.showable=true/\p.leavesShort B=true/\p.weight<=w/\p.depth<=e
theorem Sv.mono{B w e w' e':Nat}{p:PyData}(h:Sv B w e p)(h1:w<=w')(h2:e<=e'):Sv B w' e' p:=⟨h.1,h.2.1,Nat.le_trans h.2.2.1 h1,Nat.le_trans h.2.2.2 h2⟩
end K01
namespace K38
open PySem PySem.Spec PyProof.Rows L2 DL K01
def Kn(m m':Mu):Prop:=∀ c,(m c).isSome=true->m' c=m c
abbrev I(i:Int):D:=.dat (.int i)
def hU:List Str:=["ahead","meets","overlaps","begins","within","ends","same","ended","holds","begun","lapped","met","behind"]
def kd(k:Bool):Str:=if k then "stretch" else "point"
def WS:Bool->Bool->List Str
 | true,true=>hU
 | false,false=>["ahead","same","behind"]
 | false,true=>["ahead","begins","within","ends","behind"]
 | true,false=>["ahead","ended","holds","begun","behind"]
abbrev bH(k l:Bool):PyData:=.tuple [.str (kd k),.str (kd l)]
def WT:List (Str×List Int):=[("ahead",[-1,-1,-1,-1]),("meets",[-1,-1,0,-1]),("overlaps",[-1,-1,1,-1]),("begins",[0,-1,1,-1]),("within",[1,-1,1,-1]),("ends",[1,-1,1,0]),("same",[0,-1,1,0]),("ended",[-1,-1,1,0]),("holds",[-1,-1,1,1]),("begun",[0,-1,1,1]),("lapped",[1,-1,1,1]),("met",[1,0,1,1]),("behind",[1,1,1,1])]
def w4(z:Str):List Int:=((WT.find? fun kv=>decide (kv.1=z)).map (·.2)).getD []
def WB(k l:Bool)(z:Str):List Int:=match k,l with
 | true,true=>w4 z
 | false,false=>(w4 z).take 1
 | _,_=>[(w4 z).getD 0 0,(w4 z).getD 3 0]
def aW(k:Bool):Nat:=if k then 2 else 1
def FD(ns:List PyData)(i j t:Int):List (aH×PyData):=[(.inr "cells",.list ns),(.inr "at",.int i),(.inr "left",.int j),(.inr "turn",.int t)]
def Tp(n:Int)(m:Mu)(a:Addr):Prop:=∃ (ns:List Int) (i j t:Int),m a=some (.d (FD (ns.map .int) i j t))/\0<=t/\t<=n
def Fed(b:Int)(n:Int)(m m':Mu)(a:Addr):Prop:=Tp (n+b) m' a/\∀ c,c≠a->(m c).isSome=true->m' c=m c
def bW(k l:Bool)(x y:Nat)(z:Str):Int:=(WB k l z).getD (x*aW l+y) 0
def dG(k l:Bool)(zs:List Str)(x y:Nat):List Int:=eG (zs.foldl (fun acc z=>cG acc (bW k l x y z)) [])
def bM(s:List Int):List Int:=if -1∈s/\1∈s then [-1,0,1] else s
def eJ(k l:Bool)(zs:List Str):List (List Int):=((List.range (aW k)).map fun x=>(List.range (aW l)).map fun y=>bM (dG k l zs x y)).flatten
def PA(k l:Bool)(zs:List Str):List Str:=(WS k l).filter fun z=>((WB k l z).zip (eJ k l zs)).all fun p=>decide (p.1∈p.2)
def rT:DC:=fun ds m R=>∃ k l,ds=[.dat (bH k l)]/\R (.dat (.tuple ((WS k l).map .str))) m
def jZ:DC:=fun ds m R=>∃ k l z,ds=[.dat (bH k l),.dat (.str z)]/\z∈hU/\R (.dat (.tuple ((WB k l z).map .int))) m
def oP:DC:=fun ds m R=>∃ (k l:Bool) (z:Str) (x y:Nat),ds=[.dat (bH k l),.dat (.str z),I (x:Int),I (y:Int)]/\z∈WS k l/\x<aW k/\y<aW l/\R (I (bW k l x y z)) m
def pJ:DC:=fun ds m R=>∃ (k l:Bool) (zs:List Str) (x y:Nat),ds=[.dat (bH k l),.dat (.tuple (zs.map .str)),I (x:Int),I (y:Int)]/\(∀ z∈zs,z∈WS k l)/\x<aW k/\y<aW l/\R (.dat (.tuple ((dG k l zs x y).map .int))) m
def pH:DC:=fun ds m R=>∃ s:List Int,ds=[.dat (.tuple (s.map .int))]/\R (.dat (.tuple ((bM s).map .int))) m
def rS:DC:=fun ds m R=>∃ (k l:Bool) (zs:List Str),ds=[.dat (bH k l),.dat (.tuple (zs.map .str))]/\(∀ z∈zs,z∈WS k l)/\R (.dat (.list ((eJ k l zs).map fun s=>.tuple (s.map .int)))) m
def jH:DC:=fun ds m R=>∃ (k l:Bool) (zs:List Str),ds=[.dat (bH k l),.dat (.tuple (zs.map .str))]/\(∀ z∈zs,z∈WS k l)/\R (.dat (.tuple ((PA k l zs).map .str))) m
def qB:DC:=fun ds m R=>∃ (k l:Bool) (zs:List Str),ds=[.dat (bH k l),.dat (.tuple (zs.map .str))]/\(∀ z∈zs,z∈WS k l)/\R (.dat (.bool (decide (PA k l zs=zs)))) m
def Pl(k l:Bool)(zs:List Str):Prop:=(∀ z∈zs,z∈WS k l)/\PA k l zs=zs
def rG:DC:=fun ds m R=>∃ ns:List Int,ds=[.dat (.list (ns.map .int))]/\ns.length<=63/\∀ a m',Tp 0 m' a->R (.cel a) m'
def dH:DC:=fun ds m R=>∃ (a:Addr) (n L:Int),ds=[.cel a,I n]/\0<n/\n<=1000/\L<=10000000/\Tp L m a/\∀ (r:Int) m',0<=r->r<n->Fed 1 L m m' a->R (I r) m'
def sg(x y:Int):Int:=(if y<x then 1 else 0)-(if x<y then 1 else 0)
def oth(l:Bool):Int×Int:=if l then (4,8) else (5,5)
def dL:Bool->Bool->List (Str×Int×Int)
 | true,true=>[("ahead",1,2),("meets",1,4),("overlaps",1,6),("begins",4,6),("within",5,7),("ends",6,8),("same",4,8),("ended",1,8),("holds",1,9),("begun",4,9),("lapped",6,9),("met",8,9),("behind",9,10)]
 | false,true=>[("ahead",1,1),("begins",4,4),("within",6,6),("ends",8,8),("behind",9,9)]
 | true,false=>[("ahead",1,2),("ended",1,5),("holds",1,9),("begun",5,9),("behind",8,9)]
 | false,false=>[("ahead",1,1),("same",5,5),("behind",9,9)]
def SG(a b c d:Int):List (List aH×PyData):=[([.inl 0,.inl 0],.int (sg a c)),([.inl 0,.inl 1],.int (sg a d)),([.inl 1,.inl 0],.int (sg b c)),([.inl 1,.inl 1],.int (sg b d))]
def SF(a b c d:Int):List (PyData×PyData):=[(.tuple [.int 0,.int 0],.int (sg a c)),(.tuple [.int 0,.int 1],.int (sg a d)),(.tuple [.int 1,.int 0],.int (sg b c)),(.tuple [.int 1,.int 1],.int (sg b d))]
def LY(k l:Bool):List (aH×PyData):=(dL k l).map fun x=>(.inr x.1,cZ (SF x.2.1 x.2.2 (oth l).1 (oth l).2))
def LF(k l:Bool):List (PyData×PyData):=(dL k l).map fun x=>(.str x.1,cZ (SF x.2.1 x.2.2 (oth l).1 (oth l).2))
def Aj(k l:Bool)(z:Str):Int×Int:=(((dL k l).find? fun x=>decide (x.1=z)).map (·.2)).getD (0,0)
def pk(p:Int×Int)(x:Nat):Int:=if x=0 then p.1 else p.2
def LW(k l:Bool)(x y:Nat)(z:Str):Int:=sg (pk (Aj k l z) x) (pk (oth l) y)
def cD(k l:Bool)(zs:List Str)(z:Str)(x y:Nat):Bool:=(zs.any fun u=>decide (LW k l x y u<=LW k l x y z))&&zs.any fun u=>decide (LW k l x y z<=LW k l x y u)
def AR(k l:Bool)(zs:List Str):List Str:=(WS k l).filter fun z=>!zs.isEmpty&&cD k l zs z 0 0&&cD k l zs z 0 1&&cD k l zs z 1 0&&cD k l zs z 1 1
abbrev May(k l:Bool)(zs:List Str):Prop:=zs.Sublist (WS k l)
abbrev TS(zs:List Str):PyData:=.tuple (zs.map .str)
def sA:DC:=fun ds m R=>ds=[]/\R (.dat (.list (hU.map .str))) m
def gF:DC:=fun ds m R=>∃ k l,ds=[.dat (bH k l)]/\∀ m',Kn m m'->R (.dat (.list ((WS k l).map .str))) m'
def pA:DC:=fun ds m R=>∃ a b c d:Int,ds=[.dat (.tuple [.int a,.int b]),.dat (.tuple [.int c,.int d])]/\∀ (p:Addr) m',m p=none->Kn m m'->m' p=some (.t (SG a b c d))->R (.cel p) m'
def qX:DC:=fun ds m R=>∃ k l,ds=[.dat (bH k l)]/\∀ (p:Addr) m',m p=none->Kn m m'->m' p=some (.d (LY k l))->R (.cel p) m'
def iA:DC:=fun ds m R=>∃ k l zs,ds=[.dat (bH k l),.dat (TS zs)]/\May k l zs/\∀ m',Kn m m'->R (.dat (TS (AR k l zs))) m'
def rF:DC:=fun ds m R=>∃ (a:Addr) (k l:Bool) (w:Str) (L:Int),ds=[.cel a,.dat (bH k l),.dat (.str w)]/\w∈WS k l/\L<=9000000/\Tp L m a/\∀ (zs:List Str) m',May k l zs->w∈zs->Fed 14 L m m' a->R (.dat (TS zs)) m'
def rL:DC:=fun ds m R=>∃ (a:Addr) (k l:Bool) (L:Int),ds=[.cel a,.dat (bH k l)]/\L<=8000000/\Tp L m a/\∀ (zs:List Str) m',May k l zs->Fed 30 L m m' a->R (.dat (TS zs)) m'
def rA:DC:=fun ds m R=>∃ (k l:Bool) (may:List Str) (w:Str),ds=[.dat (bH k l),.dat (TS may),.dat (.str w)]/\May k l may/\w∈may/\∀ P:List Str,Pl k l P->(∀ z∈P,z∈may)->w∈P->R (.dat (TS P)) m
structure Parts (k l:Bool) (may:List Str) (Ps:List (List Str)):Prop where
 pl:∀ P∈Ps,Pl k l P
 ne:∀ P∈Ps,P≠[]
 sub:∀ P∈Ps,∀ z∈P,z∈may
 all:∀ w∈may,∃ P∈Ps,w∈P
 len:Ps.length<=13
abbrev TP(Ps:List (List Str)):PyData:=.tuple (Ps.map TS)
def lK:DC:=fun ds m R=>∃ (k l:Bool) (may:List Str),ds=[.dat (bH k l),.dat (TS may)]/\May k l may/\∀ Ps m',Kn m m'->Parts k l may Ps->R (.dat (TP Ps)) m'
def nW:DC:=fun ds m R=>∃ (k l:Bool) (zs:List Str),ds=[.dat (bH k l),.dat (TS zs)]/\May k l zs/\∀ m',Kn m m'->R (.dat (.bool true)) m'
def rN:DC:=fun ds m R=>∃ (k l:Bool) (may:List Str) (Ps:List (List Str)),ds=[.dat (bH k l),.dat (TS may),.dat (TP Ps)]/\May k l may/\Parts k l may Ps/\∀ m',Kn m m'->R (.dat (.bool true)) m'
def qL:DC:=fun ds m R=>∃ (k l:Bool) (may:List Str),ds=[.dat (bH k l),.dat (TS may)]/\May k l may/\∀ m',Kn m m'->R (.dat (.bool true)) m'
def nN:DC:=fun ds m R=>∃ ns:List Int,ds=[.dat (.list (ns.map .int))]/\ns.length<=63/\∀ m',R (.dat (.bool true)) m'
end K38
namespace K38
open PySem PySem.Spec PyProof.Rows L2 DL
-- ranks: words_of 1,ways_by 1,how_ends 2,signs_in 3,span_of 1,spans_of 4,plain_around 5,is_plain 6,grown_part 6,plain_parts 7,_law_feed 1,_law_draw 1,_law_order 1,_law_words 2,_law_signs 1,_law_lays 2,_law_around 3,_law_some 3,_law_drawn 4,_law_is_may 3,_law_parts_right 4,_law_right 8,law 9
def cV(i:Nat):Stmt:=PySem.Challenge.pw_whens_k38_plain_mays_and_parts.main.body.getD i (.Pass ⟨0,0,0,0⟩)
abbrev uA:List (Str×PyData):=[("ahead",.tuple [.int (-1),.int (-1),.int (-1),.int (-1)]),("meets",.tuple [.int (-1),.int (-1),.int (0),.int (-1)]),("overlaps",.tuple [.int (-1),.int (-1),.int (1),.int (-1)]),("begins",.tuple [.int (0),.int (-1),.int (1),.int (-1)]),("within",.tuple [.int (1),.int (-1),.int (1),.int (-1)]),("ends",.tuple [.int (1),.int (-1),.int (1),.int (0)]),("same",.tuple [.int (0),.int (-1),.int (1),.int (0)]),("ended",.tuple [.int (-1),.int (-1),.int (1),.int (0)]),("holds",.tuple [.int (-1),.int (-1),.int (1),.int (1)]),("begun",.tuple [.int (0),.int (-1),.int (1),.int (1)]),("lapped",.tuple [.int (1),.int (-1),.int (1),.int (1)]),("met",.tuple [.int (1),.int (0),.int (1),.int (1)]),("behind",.tuple [.int (1),.int (1),.int (1),.int (1)])]
abbrev lB:List (Str×PyData):=[("point",.int (1)),("stretch",.int (2))]
abbrev Et:List (List Str×PyData):=[(["point","point"],.tuple (List.map PyData.str ["ahead","same","behind"])),(["point","stretch"],.tuple (List.map PyData.str ["ahead","begins","within","ends","behind"])),(["stretch","point"],.tuple (List.map PyData.str ["ahead","ended","holds","begun","behind"]))]
abbrev lR:Stmt:=cV 5
abbrev Cp:List Str:=["kinds"]
abbrev lE:List Str:=["kinds"]
theorem Ji:FnScope Cp lE (aY lR):=⟨rfl,rfl,rfl,by decide +kernel,rfl,by decide +kernel,by decide +kernel⟩
def sQ:DS:=(aK (bN (vQ Et (aA 0) (aC (.tuple (List.map PyData.str ["ahead","meets","overlaps","begins","within","ends","same","ended","holds","begun","lapped","met","behind"]))))) aR)
abbrev kG:Stmt:=cV 6
abbrev An:List Str:=["kinds","word","ways"]
abbrev jD:List Str:=["kinds","word"]
theorem Ol:FnScope An jD (aY kG):=⟨rfl,rfl,rfl,by decide +kernel,rfl,by decide +kernel,by decide +kernel⟩
def Jj:DS:=(aK (bN (bC (aB (aN dC (aA 2) (aC (.int 0))) (aB (aN dC (aA 2) (aC (.int 3))) aF)))) aR)
def Ny:DS:=(aK (cX (bJ (aN cK (aA 0) (bC (aB (aC (.str "point")) (aB (aC (.str "point")) aF))))) (aK (bN (mY (aA 2) kR (kQ (aC (.int 1))))) aR) aR) Jj)
def Lw:DS:=(aK (cX (bJ (aN cK (aA 0) (bC (aB (aC (.str "stretch")) (aB (aC (.str "stretch")) aF))))) (aK (bN (aA 2)) aR) aR) Ny)
def wI:DS:=(aK (bI 2 (kX uA (aA 1))) Lw)
abbrev kW:Stmt:=cV 7
abbrev Db:List Str:=["kinds","word","x","y"]
abbrev mB:List Str:=["kinds","word","x","y"]
theorem Hf:FnScope Db mB (aY kW):=⟨rfl,rfl,rfl,by decide +kernel,rfl,by decide +kernel,by decide +kernel⟩
def Ag:DS:=(aK (bN (aN dC (bB 2 jZ (aB (aA 0) (aB (aA 1) aF))) (aN dZ (aN nB (aA 2) (kX lB (aN dC (aA 0) (aC (.int 1))))) (aA 3)))) aR)
abbrev nM:Stmt:=cV 9
abbrev zZ:List Str:=["kinds","may","x","y"]
abbrev mE:List Str:=["kinds","may","x","y"]
theorem Nr:FnScope zZ mE (aY nM):=⟨rfl,rfl,rfl,by decide +kernel,rfl,by decide +kernel,by decide +kernel⟩
theorem G8:List.Nodup (["word","kinds","x","y"]:List Str):=by decide +kernel
def yP:DS:=(aK (bN (bS kA (aB (vA [none,some 0,some 2,some 3] (eB (aA 1)) (gN 0) cW (bB 4 oP (aB (aA 1) (aB (aA 0) (aB (aA 2) (aB (aA 3) aF)))))) aF))) aR)
abbrev mP:Stmt:=cV 10
abbrev Bf:List Str:=["signs"]
abbrev mC:List Str:=["signs"]
theorem Nw:FnScope Bf mC (aY mP):=⟨rfl,rfl,rfl,by decide +kernel,rfl,by decide +kernel,by decide +kernel⟩
def zT:DS:=(aK (bN (qV (sP (bJ (aN eA (wK (aC (.int 1))) (aA 0))) (bJ (aN eA (aC (.int 1)) (aA 0)))) (bC (aB (wK (aC (.int 1))) (aB (aC (.int 0)) (aB (aC (.int 1)) aF)))) (aA 0))) aR)
abbrev mI:Stmt:=cV 11
abbrev yY:List Str:=["kinds","may"]
abbrev nD:List Str:=["kinds","may"]
theorem Jq:FnScope yY nD (aY mI):=⟨rfl,rfl,rfl,by decide +kernel,rfl,by decide +kernel,by decide +kernel⟩
theorem Ke:List.Nodup (["x","y","kinds","may"]:List Str):=by decide +kernel
def wT:DS:=(aK (bN (uE [none,none,some 0,some 1] (mW (kX lB (aN dC (aA 0) (aC (.int 0))))) (gN 0) cW (mW (kX lB (aN dC (aA 2) (aC (.int 1))))) (gN 1) cW (bB 1 pH (aB (bB 4 pJ (aB (aA 2) (aB (aA 3) (aB (aA 0) (aB (aA 1) aF))))) aF)))) aR)
abbrev iX:Stmt:=cV 12
abbrev Ci:List Str:=["kinds","may","spans"]
abbrev gO:List Str:=["kinds","may"]
theorem Og:FnScope Ci gO (aY iX):=⟨rfl,rfl,rfl,by decide +kernel,rfl,by decide +kernel,by decide +kernel⟩
theorem Vh:List.Nodup (["word","kinds","spans"]:List Str):=by decide +kernel
theorem Jn:List.Nodup (["way","span"]:List Str):=by decide +kernel
def R8:DS:=(aK (bN (bS kA (aB (dU [none,some 0,some 2] (eB (bB 1 rT (aB (aA 0) aF))) (gN 0) (bJ (bS rB (aB (dU [none,none] (uB (bB 2 jZ (aB (aA 1) (aB (aA 0) aF))) (aA 2)) (gT 2 (hV (gN 0) (hV (gN 1) nR))) cW (aN eA (aA 0) (aA 1))) aF))) (aA 0)) aF))) aR)
def zO:DS:=(aK (bI 2 (bB 2 rS (aB (aA 0) (aB (aA 1) aF)))) R8)
abbrev kY:Stmt:=cV 13
abbrev Am:List Str:=["kinds","may"]
abbrev mV:List Str:=["kinds","may"]
theorem Gi:FnScope Am mV (aY kY):=⟨rfl,rfl,rfl,by decide +kernel,rfl,by decide +kernel,by decide +kernel⟩
def wU:DS:=(aK (bN (aN cK (bB 2 jH (aB (aA 0) (aB (aA 1) aF))) (aA 1))) aR)
abbrev lI:Stmt:=cV 14
abbrev Cg:List Str:=["kinds","may","word","part","other","wider"]
abbrev lS:List Str:=["kinds","may","word"]
theorem Ia:FnScope Cg lS (aY lI):=⟨rfl,rfl,rfl,by decide +kernel,rfl,by decide +kernel,by decide +kernel⟩
theorem G6:List.Nodup (["chosen","may"]:List Str):=by decide +kernel
def T5:DS:=(aK (cX (bJ (bS rB (aB (dU [none,some 1] (eB (aA 5)) (gN 0) cW (aN eA (aA 0) (aA 1))) aF))) (aK (bI 3 (aA 5)) aR) aR) aR)
def Tz:DS:=(aK (bI 5 (bB 2 jH (aB (aA 0) (aB (aN dZ (aA 3) (bC (aB (aA 4) aF))) aF)))) T5)
def x6:DS:=(aK (bN (aA 3)) aR)
def x8:DS:=(aK (gJ (eB (aA 1)) (gN 4) Tz) x6)
def wN:DS:=(aK (bI 3 (bC (aB (aA 2) aF))) x8)
abbrev kK:Stmt:=cV 15
abbrev Af:List Str:=["kinds","may","parts","word"]
abbrev jI:List Str:=["kinds","may"]
theorem Pi:FnScope Af jI (aY kK):=⟨rfl,rfl,rfl,by decide +kernel,rfl,by decide +kernel,by decide +kernel⟩
theorem Rg:List.Nodup (["part","word"]:List Str):=by decide +kernel
def Me:DS:=(aK (cX (pL (bJ (bS Ft (aB (Fz 2 [none,some 3] (gN 0) cW (aN eA (aA 1) (aA 0))) aF)))) (aK (jO (qZ (aA 2) (bB 3 rA (aB (aA 0) (aB (aA 1) (aB (aA 3) aF)))))) aR) aR) aR)
def Y4:DS:=(aK (bN (bS kA (aB (aA 2) aF))) aR)
def CA:DS:=(aK (gJ (eB (aA 1)) (gN 3) Me) Y4)
def zP:DS:=(aK (bI 2 (qA aF)) CA)
abbrev nJ:Stmt:=cV 17
abbrev Eb:List Str:=["_law_script"]
abbrev mL:List Str:=["_law_script"]
theorem Hc:FnScope Eb mL (aY nJ):=⟨rfl,rfl,rfl,by decide +kernel,rfl,by decide +kernel,by decide +kernel⟩
def vG:DS:=(aK (bN (iJ [((aC (.str "cells")),(bS tM (aB (mY (aA 0) kR (kQ (aC (.int 63)))) aF))),((aC (.str "at")),(aC (.int 0))),((aC (.str "left")),(aC (.int 0))),((aC (.str "turn")),(aC (.int 0)))])) aR)
abbrev iQ:Stmt:=cV 18
abbrev Dd:List Str:=["_law_feed_here","_law_many","_law_found","_law_spot","_law_cell","_law_mixed"]
abbrev gC:List Str:=["_law_feed_here","_law_many"]
theorem Nt:FnScope Dd gC (aY iQ):=⟨rfl,rfl,rfl,by decide +kernel,rfl,by decide +kernel,by decide +kernel⟩
def J9:DS:=(aK (bN (aA 2)) aR)
def Vb:DS:=(aK (qJ (aA 0) (aC (.str "left")) (aN pE (fL (aA 0) (aC (.str "left"))) (aA 1))) J9)
def Zr:DS:=(aK (bN (aN iK (aA 4) (aA 1))) aR)
def Yg:DS:=(aK (qJ (aA 0) (aC (.str "left")) (aN pE (aA 4) (aA 1))) Zr)
def CB:DS:=(aK (bN (aN iK (aN pE (aA 5) (aC (.int 64))) (aA 1))) aR)
def Wp:DS:=(aK (bI 5 (aN iK (aN nB (aN dZ (aN pE (aA 5) (aC (.int 64))) (aN nB (aC (.int 37)) (fL (aA 0) (aC (.str "turn"))))) (aC (.int 69621))) (aC (.int 2147483587)))) CB)
def Ks:DS:=(aK (bI 5 (aN iK (aN nB (aN dZ (aN iK (aA 4) (aC (.int 2147483629))) (aN nB (aC (.int 1013)) (fL (aA 0) (aC (.str "turn"))))) (aC (.int 48271))) (aC (.int 2147483647)))) Wp)
def Ls:DS:=(aK (cX (sP (bJ (aN Cy (aA 4) (aN Cj (aC (.int 10)) (aC (.int 18))))) (bJ (aN vB (aA 3) (bS iI (aB (fL (aA 0) (aC (.str "cells"))) aF))))) Yg aR) Ks)
def Xd:DS:=(aK (cX (bJ (aN sD (fL (aA 0) (aC (.str "cells"))) (iE aF))) (aK (bI 4 (aN dC (fL (aA 0) (aC (.str "cells"))) (aN iK (aA 3) (bS iI (aB (fL (aA 0) (aC (.str "cells"))) aF))))) aR) aR) Ls)
def Nq:DS:=(aK (bI 4 (aC (.int 0))) Xd)
def R5:DS:=(aK (qJ (aA 0) (aC (.str "at")) (aN dZ (aA 3) (aC (.int 1)))) Nq)
def S9:DS:=(aK (bI 3 (fL (aA 0) (aC (.str "at")))) R5)
def AA:DS:=(aK (cX (bJ (aN iS (fL (aA 0) (aC (.str "left"))) (aC (.int 0)))) Vb aR) S9)
def Mb:DS:=(aK (bI 2 (aN iK (fL (aA 0) (aC (.str "left"))) (aA 1))) AA)
def Dg:DS:=(aK (qJ (aA 0) (aC (.str "turn")) (aN dZ (fL (aA 0) (aC (.str "turn"))) (aC (.int 1)))) Mb)
abbrev lU:Stmt:=cV 19
abbrev Eg:List Str:=["_law_some_here"]
abbrev lX:List Str:=[]
theorem Mz:FnScope Eg lX (aY lU):=⟨rfl,rfl,rfl,by decide +kernel,rfl,by decide +kernel,by decide +kernel⟩
def L7:DS:=(aK (bN (aN dZ (aA 0) (iE (aB (aC (.str "ended")) (aB (aC (.str "holds")) (aB (aC (.str "begun")) (aB (aC (.str "lapped")) (aB (aC (.str "met")) (aB (aC (.str "behind")) aF))))))))) aR)
def Ea:DS:=(aK (bI 0 (iE (aB (aC (.str "ahead")) (aB (aC (.str "meets")) (aB (aC (.str "overlaps")) (aB (aC (.str "begins")) (aB (aC (.str "within")) (aB (aC (.str "ends")) (aB (aC (.str "same")) aF))))))))) L7)
abbrev gW:Stmt:=cV 20
abbrev Ay:List Str:=["_law_kinds","_law_some_here"]
abbrev fD:List Str:=["_law_kinds"]
theorem Hs:FnScope Ay fD (aY gW):=⟨rfl,rfl,rfl,by decide +kernel,rfl,by decide +kernel,by decide +kernel⟩
def Yl:DS:=(aK (bN (Bi (aA 1) (aA 0) (bB 0 sA aF))) aR)
def Qb:DS:=(aK (sI (aA 1) (bC (aB (aC (.str "stretch")) (aB (aC (.str "point")) aF))) (iE (aB (aC (.str "ahead")) (aB (aC (.str "ended")) (aB (aC (.str "holds")) (aB (aC (.str "begun")) (aB (aC (.str "behind")) aF))))))) Yl)
def C5:DS:=(aK (sI (aA 1) (bC (aB (aC (.str "point")) (aB (aC (.str "stretch")) aF))) (iE (aB (aC (.str "ahead")) (aB (aC (.str "begins")) (aB (aC (.str "within")) (aB (aC (.str "ends")) (aB (aC (.str "behind")) aF))))))) Qb)
def xE:DS:=(aK (bI 1 (Ax (bC (aB (aC (.str "point")) (aB (aC (.str "point")) aF))) (iE (aB (aC (.str "ahead")) (aB (aC (.str "same")) (aB (aC (.str "behind")) aF)))))) C5)
abbrev nF:Stmt:=cV 21
abbrev Ep:List Str:=["_law_one","_law_other","_law_found","_law_x","_law_y"]
abbrev mN:List Str:=["_law_one","_law_other"]
theorem Hj:FnScope Ep mN (aY nF):=⟨rfl,rfl,rfl,by decide +kernel,rfl,by decide +kernel,by decide +kernel⟩
def Ko:DS:=(aK (Fw (aA 2) (aB (aA 3) (aB (aA 4) aF)) (aN Es (bS oW (aB (aN iS (aN dC (aA 0) (aA 3)) (aN dC (aA 1) (aA 4))) aF)) (bS oW (aB (aN vB (aN dC (aA 0) (aA 3)) (aN dC (aA 1) (aA 4))) aF)))) aR)
def C8:DS:=(aK (gJ (mW (aC (.int 2))) (gN 4) Ko) aR)
def V4:DS:=(aK (bN (aA 2)) aR)
def Qc:DS:=(aK (gJ (mW (aC (.int 2))) (gN 3) C8) V4)
def Eh:DS:=(aK (bI 2 Dn) Qc)
abbrev mF:Stmt:=cV 22
abbrev zX:List Str:=["_law_kinds","_law_other","_law_some_here"]
abbrev nL:List Str:=["_law_kinds"]
theorem Om:FnScope zX nL (aY mF):=⟨rfl,rfl,rfl,by decide +kernel,rfl,by decide +kernel,by decide +kernel⟩
theorem U0:List.Nodup (["_law_word","_law_other","_law_some_here"]:List Str):=by decide +kernel
def Nb:DS:=(aK (bN (xV (dU [none,some 1,some 2] (Ds (aA 2)) (gN 0) cW (bC (aB (aA 0) (aB (sE (bB 2 pA (aB (uW (aA 2) (aA 0)) (aB (aA 1) aF)))) aF)))))) aR)
def Lk:DS:=(aK (cX (bJ (aN cK (aA 0) (bC (aB (aC (.str "point")) (aB (aC (.str "point")) aF))))) (aK (bI 2 (iJ [((aC (.str "ahead")),(bC (aB (aC (.int 1)) (aB (aC (.int 1)) aF)))),((aC (.str "same")),(bC (aB (aC (.int 5)) (aB (aC (.int 5)) aF)))),((aC (.str "behind")),(bC (aB (aC (.int 9)) (aB (aC (.int 9)) aF))))])) aR) aR) Nb)
def W7:DS:=(aK (cX (bJ (aN cK (aA 0) (bC (aB (aC (.str "stretch")) (aB (aC (.str "point")) aF))))) (aK (bI 2 (iJ [((aC (.str "ahead")),(bC (aB (aC (.int 1)) (aB (aC (.int 2)) aF)))),((aC (.str "ended")),(bC (aB (aC (.int 1)) (aB (aC (.int 5)) aF)))),((aC (.str "holds")),(bC (aB (aC (.int 1)) (aB (aC (.int 9)) aF)))),((aC (.str "begun")),(bC (aB (aC (.int 5)) (aB (aC (.int 9)) aF)))),((aC (.str "behind")),(bC (aB (aC (.int 8)) (aB (aC (.int 9)) aF))))])) aR) aR) Lk)
def Oq:DS:=(aK (cX (bJ (aN cK (aA 0) (bC (aB (aC (.str "point")) (aB (aC (.str "stretch")) aF))))) (aK (bI 2 (iJ [((aC (.str "ahead")),(bC (aB (aC (.int 1)) (aB (aC (.int 1)) aF)))),((aC (.str "begins")),(bC (aB (aC (.int 4)) (aB (aC (.int 4)) aF)))),((aC (.str "within")),(bC (aB (aC (.int 6)) (aB (aC (.int 6)) aF)))),((aC (.str "ends")),(bC (aB (aC (.int 8)) (aB (aC (.int 8)) aF)))),((aC (.str "behind")),(bC (aB (aC (.int 9)) (aB (aC (.int 9)) aF))))])) aR) aR) W7)
def BU:DS:=(aK (jO (wG (aA 2) (iJ [((aC (.str "met")),(bC (aB (aC (.int 8)) (aB (aC (.int 9)) aF)))),((aC (.str "behind")),(bC (aB (aC (.int 9)) (aB (aC (.int 10)) aF))))]))) Oq)
def BG:DS:=(aK (jO (wG (aA 2) (iJ [((aC (.str "same")),(bC (aB (aC (.int 4)) (aB (aC (.int 8)) aF)))),((aC (.str "ended")),(bC (aB (aC (.int 1)) (aB (aC (.int 8)) aF)))),((aC (.str "holds")),(bC (aB (aC (.int 1)) (aB (aC (.int 9)) aF)))),((aC (.str "begun")),(bC (aB (aC (.int 4)) (aB (aC (.int 9)) aF)))),((aC (.str "lapped")),(bC (aB (aC (.int 6)) (aB (aC (.int 9)) aF))))]))) BU)
def Ms:DS:=(aK (bI 2 (iJ [((aC (.str "ahead")),(bC (aB (aC (.int 1)) (aB (aC (.int 2)) aF)))),((aC (.str "meets")),(bC (aB (aC (.int 1)) (aB (aC (.int 4)) aF)))),((aC (.str "overlaps")),(bC (aB (aC (.int 1)) (aB (aC (.int 6)) aF)))),((aC (.str "begins")),(bC (aB (aC (.int 4)) (aB (aC (.int 6)) aF)))),((aC (.str "within")),(bC (aB (aC (.int 5)) (aB (aC (.int 7)) aF)))),((aC (.str "ends")),(bC (aB (aC (.int 6)) (aB (aC (.int 8)) aF))))])) BG)
def Cm:DS:=(aK (bI 1 (qV (bJ (aN cK (aN dC (aA 0) (aC (.int 1))) (aC (.str "stretch")))) (bC (aB (aC (.int 4)) (aB (aC (.int 8)) aF))) (bC (aB (aC (.int 5)) (aB (aC (.int 5)) aF))))) Ms)
abbrev iP:Stmt:=cV 23
abbrev Fe:List Str:=["_law_kinds","_law_words_here","_law_lays_here","_law_found","_law_word","_law_good","_law_spot","_law_some_here"]
abbrev gD:List Str:=["_law_kinds","_law_words_here"]
theorem Hg:FnScope Fe gD (aY iP):=⟨rfl,rfl,rfl,by decide +kernel,rfl,by decide +kernel,by decide +kernel⟩
theorem CK:List.Nodup (["_law_one","_law_lays_here","_law_spot"]:List Str):=by decide +kernel
def A3:DS:=(aK (bI 5 (rZ (aA 5) (xA tU tU (bS Bt (aB (aA 7) aF)) (jE (jE (aA 2) (aA 4)) (aA 6)) (bS Aq (aB (aA 7) aF))))) aR)
def Lc:DS:=(aK (bI 7 (dU [none,some 2,some 6] (eB (aA 1)) (gN 0) cW (jE (jE (aA 1) (aA 0)) (aA 2)))) A3)
def N7:DS:=(aK (cX (bJ (aA 5)) (aK (jO (qZ (aA 3) (aA 4))) aR) aR) aR)
def Pf:DS:=(aK (gJ (wQ (jE (aA 2) (aA 4))) (gN 6) Lc) N7)
def xU:DS:=(aK (bI 5 (aN iS (bS iI (aB (aA 1) aF)) (aC (.int 0)))) Pf)
def i5:DS:=(aK (bN (bS kA (aB (aA 3) aF))) aR)
def j8:DS:=(aK (gJ (eB (bB 1 gF (aB (aA 0) aF))) (gN 4) xU) i5)
def Uv:DS:=(aK (bI 3 (qA aF)) j8)
def Bk:DS:=(aK (bI 2 (sE (bB 1 qX (aB (aA 0) aF)))) Uv)
abbrev lT:Stmt:=cV 24
abbrev Cd:List Str:=["_law_feed_here","_law_kinds","_law_word","_law_share","_law_found"]
abbrev lH:List Str:=["_law_feed_here","_law_kinds","_law_word"]
theorem Jf:FnScope Cd lH (aY lT):=⟨rfl,rfl,rfl,by decide +kernel,rfl,by decide +kernel,by decide +kernel⟩
theorem CC:List.Nodup (["_law_one","_law_feed_here","_law_word","_law_share"]:List Str):=by decide +kernel
def R9:DS:=(aK (bN (bS kA (aB (aA 4) aF))) aR)
def K0:DS:=(aK (bI 4 (dU [none,some 0,some 2,some 3] (eB (bB 1 gF (aB (aA 1) aF))) (gN 0) (jV (bJ (aN cK (aA 0) (aA 2))) (bJ (aN cK (bB 2 dH (aB (aA 1) (aB (aN dZ (aC (.int 1)) (aA 3)) aF))) (aC (.int 0))))) (aA 0))) R9)
def wR:DS:=(aK (bI 3 (aN dZ (aC (.int 1)) (bB 2 dH (aB (aA 0) (aB (aC (.int 3)) aF))))) K0)
abbrev lO:Stmt:=cV 25
abbrev xW:List Str:=["_law_feed_here","_law_kinds","_law_way","_law_every","_law_words_here","_law_at"]
abbrev mG:List Str:=["_law_feed_here","_law_kinds"]
theorem Of:FnScope xW mG (aY lO):=⟨rfl,rfl,rfl,by decide +kernel,rfl,by decide +kernel,by decide +kernel⟩
def Yh:DS:=(aK (bN (qV (bJ (aN cK (aA 2) (aC (.int 3)))) (aN dZ (mY (aA 4) kR (kQ (aA 5))) (mY (aA 4) (kQ (aN dZ (aA 5) (aC (.int 1)))) kR)) (aA 4))) aR)
def Xn:DS:=(aK (bI 5 (bB 2 dH (aB (aA 0) (aB (bS iI (aB (aA 4) aF)) aF)))) Yh)
def O9:DS:=(aK (bI 4 (bB 2 iA (aB (aA 1) (aB (mY (aA 4) kR (kQ (aN dZ (aC (.int 1)) (bB 2 dH (aB (aA 0) (aB (aC (.int 3)) aF)))))) aF)))) Xn)
def A8:DS:=(aK (cX (bJ (aN cK (aA 2) (aC (.int 2)))) (aK (bN (aA 4)) aR) aR) O9)
def Ul:DS:=(aK (cX (bJ (aN cK (aA 2) (aC (.int 1)))) (aK (bN (bC (aB (aN dC (aA 3) (bB 2 dH (aB (aA 0) (aB (bS iI (aB (aA 3) aF)) aF)))) aF))) aR) aR) A8)
def Uu:DS:=(aK (bI 4 (bB 3 rF (aB (aA 0) (aB (aA 1) (aB (aN dC (aA 3) (bB 2 dH (aB (aA 0) (aB (bS iI (aB (aA 3) aF)) aF)))) aF))))) Ul)
def u3:DS:=(aK (cX (bJ (aN cK (aA 2) (aC (.int 0)))) (aK (bN (aN dC (iE (aB (bC aF) (aB (bS kA (aB (aA 3) aF)) aF))) (bB 2 dH (aB (aA 0) (aB (aC (.int 2)) aF))))) aR) aR) Uu)
def O6:DS:=(aK (bI 3 (bB 1 gF (aB (aA 1) aF))) u3)
def Fr:DS:=(aK (bI 2 (bB 2 dH (aB (aA 0) (aB (aC (.int 6)) aF)))) O6)
abbrev nG:Stmt:=cV 26
abbrev Bb:List Str:=["_law_kinds","_law_thing"]
abbrev kZ:List Str:=["_law_kinds","_law_thing"]
theorem Pc:FnScope Bb kZ (aY nG):=⟨rfl,rfl,rfl,by decide +kernel,rfl,by decide +kernel,by decide +kernel⟩
theorem G3:List.Nodup (["_law_one"]:List Str):=by decide +kernel
theorem Sf:List.Nodup (["_law_word","_law_thing"]:List Str):=by decide +kernel
def L0:DS:=(aK (bN (aN cK (bS tM (aB (aA 1) aF)) (dU [none,some 1] (eB (bB 1 gF (aB (aA 0) aF))) (gN 0) (bJ (aN eA (aA 0) (aA 1))) (aA 0)))) aR)
def zK:DS:=(aK (cX (jV (pL (bJ (pT (aA 1) "tuple"))) (bJ (aN eA (aC (.bool false)) (dU [none] (eB (aA 1)) (gN 0) cW (pT (aA 0) "str"))))) (aK (bN (aC (.bool false))) aR) aR) L0)
abbrev mS:Stmt:=cV 27
abbrev xM:List Str:=["_law_kinds","_law_words_here","_law_found","_law_every","_law_one"]
abbrev lQ:List Str:=["_law_kinds","_law_words_here","_law_found"]
theorem Nu:FnScope xM lQ (aY mS):=⟨rfl,rfl,rfl,by decide +kernel,rfl,by decide +kernel,by decide +kernel⟩
theorem Rw:List.Nodup (["_law_one","_law_kinds"]:List Str):=by decide +kernel
theorem Qo:List.Nodup (["_law_one","_law_kinds"]:List Str):=by decide +kernel
def Lf:DS:=(aK (jO (Bg (aA 3) (aA 4))) aR)
def U4:DS:=(aK (bN (aN cK (Bv (aA 3)) (bS Df (aB (aA 1) aF)))) aR)
def t6:DS:=(aK (gJ (eB (aA 2)) (gN 4) Lf) U4)
def X2:DS:=(aK (bI 3 (qA aF)) t6)
def Wn:DS:=(aK (cX (bJ (aN eA (aC (.bool false)) (dU [none,some 0] (eB (aA 2)) (gN 0) cW (aN cK (bB 2 iA (aB (aA 1) (aB (aA 0) aF))) (aA 0))))) (aK (bN (aC (.bool false))) aR) aR) X2)
def Fb:DS:=(aK (cX (jV (pL (bJ (pT (aA 2) "tuple"))) (bJ (aN eA (aC (.bool false)) (dU [none,some 0] (eB (aA 2)) (gN 0) cW (rZ (bB 2 nW (aB (aA 1) (aB (aA 0) aF))) (aN iS (bS iI (aB (aA 0) aF)) (aC (.int 0)))))))) (aK (bN (aC (.bool false))) aR) aR) Wn)
abbrev mT:Stmt:=cV 28
abbrev zV:List Str:=["_law_kinds","_law_words_here","_law_due"]
abbrev nC:List Str:=["_law_kinds","_law_words_here"]
theorem Hn:FnScope zV nC (aY mT):=⟨rfl,rfl,rfl,by decide +kernel,rfl,by decide +kernel,by decide +kernel⟩
def Ro:DS:=(aK (bN (bB 3 rN (aB (aA 0) (aB (aA 1) (aB (bB 2 lK (aB (aA 0) (aB (aA 1) aF))) aF))))) aR)
def Z8:DS:=(aK (cX (jV (bJ (aN sD (bS pV (aB (bB 2 qB (aB (aA 0) (aB (aA 1) aF))) aF)) (bS pV (aB (aN cK (aA 1) (aA 2)) aF)))) (bJ (aN Dw (bB 2 qB (aB (aA 0) (aB (aA 2) aF))) (aC (.bool true))))) (aK (bN (aC (.bool false))) aR) aR) Ro)
def x9:DS:=(aK (cX (bJ (aN sD (bS pV (aB (bB 2 jH (aB (aA 0) (aB (aA 1) aF))) aF)) (bS pV (aB (aA 2) aF)))) (aK (bN (aC (.bool false))) aR) aR) Z8)
def zY:DS:=(aK (bI 2 (bB 2 iA (aB (aA 0) (aB (aA 1) aF)))) x9)
abbrev iM:Stmt:=cV 29
abbrev Gd:List Str:=["_law_script","_law_feed_here","_law_some_here","_law_asked_of","_law_k","_law_kinds","_law_words_here"]
abbrev vO:List Str:=["_law_script"]
theorem Li:FnScope Gd vO (aY iM):=⟨rfl,rfl,rfl,by decide +kernel,rfl,by decide +kernel,by decide +kernel⟩
def Qk:DS:=(aK (jO (qZ (aA 3) (bC (aB (aA 5) (aB (bB 2 rL (aB (aA 1) (aB (aA 5) aF))) aF))))) aR)
def AN:DS:=(aK (bI 5 (bC (aB (aN dC (aA 2) (bS oW (aB (aN iS (bB 2 dH (aB (aA 1) (aB (aC (.int 4)) aF))) (aC (.int 0))) aF))) (aB (aN dC (aA 2) (bS oW (aB (aN iS (bB 2 dH (aB (aA 1) (aB (aC (.int 4)) aF))) (aC (.int 0))) aF))) aF)))) Qk)
def E8:DS:=(aK (cX (pL (bJ (bB 2 qL (aB (aA 5) (aB (aA 6) aF))))) (aK (bN (aC (.bool false))) aR) aR) aR)
def F8:DS:=(aK (bN (aN cK (bB 2 lK (aB (bC (aB (aC (.str "stretch")) (aB (aC (.str "point")) aF))) (aB (bC aF) aF))) (bC aF))) aR)
def e6:DS:=(aK (gJ (eB (aN dZ (aA 3) (Du (aA 3) kR (kQ (aC (.int 2)))))) (gT 2 (hV (gN 5) (hV (gN 6) nR))) E8) F8)
def P4:DS:=(aK (gJ (mW (aC (.int 12))) (gN 4) AN) e6)
def Si:DS:=(aK (bI 3 (qA aF)) P4)
def Vm:DS:=(aK (bI 2 (iE (aB (aC (.str "point")) (aB (aC (.str "stretch")) aF)))) Si)
def zS:DS:=(aK (bI 1 (bB 1 rG (aB (aA 0) aF))) Vm)
end K38
namespace K38
open PySem PySem.Spec PyProof.Rows L2 DL
section
variable {P:Program}{w:World}{K:PySem.W.Frag}{mg:Str->Option Value}{base:Heap}
theorem d6{nS:Addr}{oN:FuncData}(kU:Fun K "words_of" "words_of" lR nS oN){kL:Addr}(wZ:mg "POINT_WORDS"=some (.ref kL))(xF:uS K w kL Et){lD:Addr}(yG:mg "ORDER"=some (.ref lD))(Dc:KT K lD ["ahead","meets","overlaps","begins","within","ends","same","ended","holds","begun","lapped","met","behind"])
  (vc:∀ ds m R,ds.length=lE.length->rT ds m R->sQ {nx:=fun _ m=>R (.dat .none) m,rt:=R} (bA Cp ds) m):FnOk P w K mg base aV 1 nS oN lE (LSp K 1 rT) :=
 cU (k:=0) kU Ji (body:=sQ) (fun cdv A outer s H E hr=>have nd:=(Ji).nd;(aL (bT (T8 hr.u100 rfl wZ xF (aE 0) (Rj rfl yG Dc))) aT)) vc
theorem Xo{iB:Addr}{gQ:FuncData}(gS:Fun K "ways_by" "ways_by" kG iB gQ){kF:Addr}(Bu:mg "WAYS"=some (.ref kF))(xN:KD K w kF uA)
  (vc:∀ ds m R,ds.length=jD.length->jZ ds m R->wI {nx:=fun _ m=>R (.dat .none) m,rt:=R} (bA An ds) m):FnOk P w K mg base aV 1 iB gQ jD (LSp K 2 jZ) :=
 cU (k:=0) gS Ol (body:=wI) (fun cdv A outer s H E hr=>have nd:=(Ol).nd;(aL (bU 2 nd (uJ rfl Bu xN (aE 1))) (aL (dB (cN (dI hr.u100) (aE 0) (bF (aD aQ (aD aQ aG)))) (aL (bT (aE 2)) aT) aT) (aL (dB (cN (dI hr.u100) (aE 0) (bF (aD aQ (aD aQ aG)))) (aL (bT (qU (aE 2) pY (oO aO))) aT) aT) (aL (bT (bF (aD (dQ (aE 2) aO) (aD (dQ (aE 2) aO) aG)))) aT))))) vc
theorem S3{nY:Addr}{oM:FuncData}(mO:Fun K "how_ends" "how_ends" kW nY oM){iB:Addr}{gQ:FuncData}(gS:Fun K "ways_by" "ways_by" kG iB gQ)(oR:Binds K gQ jD [])(pU:mg "ways_by"=some (.ref iB))(qH:FnOk P w K mg base aV 1 iB gQ jD (LSp K 2 jZ)){gI:Addr}(mZ:mg "END_COUNTS"=some (.ref gI))(nH:KD K w gI lB)
  (vc:∀ ds m R,ds.length=mB.length->oP ds m R->Ag {nx:=fun _ m=>R (.dat .none) m,rt:=R} (bA Db ds) m):FnOk P w K mg base aV 2 nY oM mB (LSp K 4 oP) :=
 cU (k:=1) mO Hf (body:=Ag) (fun cdv A outer s H E hr=>have nd:=(Hf).nd;(aL (bT (dQ (bL qH (hr.mono (by decide)) pU gS.kp oR rfl (aD (aE 0) (aD (aE 1) aG))) (cC eY (cC qR (aE 2) (uJ rfl mZ nH (dQ (aE 0) aO))) (aE 3)))) aT)) vc
theorem y8{qF:Addr}{oV:FuncData}(lV:Fun K "signs_in" "signs_in" nM qF oV){nY:Addr}{oM:FuncData}(mO:Fun K "how_ends" "how_ends" kW nY oM)(Ew:Binds K oM mB [])(En:mg "how_ends"=some (.ref nY))(Au:FnOk P w K mg base aV 2 nY oM mB (LSp K 4 oP))(cR:mg "tuple"=none)(mM:mg "sorted"=none)
  (vc:∀ ds m R,ds.length=mE.length->pJ ds m R->yP {nx:=fun _ m=>R (.dat .none) m,rt:=R} (bA zZ ds) m):FnOk P w K mg base aV 3 qF oV mE (LSp K 4 pJ) :=
 cU (k:=2) lV Nr (body:=yP) (fun cdv A outer s H E hr=>have nd:=(Nr).nd;(aL (bT (fR qE rfl cR kE (aD (Y6 ["word","kinds","x","y"] [none,some 0,some 2,some 3] rfl rfl mM (eR (aE 1)) (fun cl C s2 H2 pins fp=>(cO 0 G8)) (fun cl C s2 H2 pins fp=>gK) (fun cl C s2 H2 pins fp=>(bL Au (hr.mono (by decide)) En mO.kp Ew rfl (aD (aE 1) (aD (aE 0) (aD (aE 2) (aD (aE 3) aG))))))) aG))) aT)) vc
theorem L3{pR:Addr}{pF:FuncData}(mR:Fun K "span_of" "span_of" mP pR pF) 
  (vc:∀ ds m R,ds.length=mC.length->pH ds m R->zT {nx:=fun _ m=>R (.dat .none) m,rt:=R} (bA Bf ds) m):FnOk P w K mg base aV 1 pR pF mC (LSp K 1 pH) :=
 cU (k:=0) mR Nw (body:=zT) (fun cdv A outer s H E hr=>have nd:=(Nw).nd;(aL (bT (Ab (QW.pt (Nv (cN jA (Py aO) (aE 0) (hm:=by with_unfolding_all rfl)) (Oc (cN jA aO (aE 0) (hm:=by with_unfolding_all rfl))))) (bF (aD (Py aO) (aD aO (aD aO aG)))) (aE 0))) aT)) vc
theorem w9{oF:Addr}{oX:FuncData}(lC:Fun K "spans_of" "spans_of" mI oF oX){pR:Addr}{pF:FuncData}(mR:Fun K "span_of" "span_of" mP pR pF)(yE:Binds K pF mC [])(Bo:mg "span_of"=some (.ref pR))(Bc:FnOk P w K mg base aV 1 pR pF mC (LSp K 1 pH)){qF:Addr}{oV:FuncData}(lV:Fun K "signs_in" "signs_in" nM qF oV)(yV:Binds K oV mE [])(Fy:mg "signs_in"=some (.ref qF))(wX:FnOk P w K mg base aV 3 qF oV mE (LSp K 4 pJ)){gI:Addr}(mZ:mg "END_COUNTS"=some (.ref gI))(nH:KD K w gI lB)(gM:mg "range"=none)
  (vc:∀ ds m R,ds.length=nD.length->rS ds m R->wT {nx:=fun _ m=>R (.dat .none) m,rt:=R} (bA yY ds) m):FnOk P w K mg base aV 4 oF oX nD (LSp K 2 rS) :=
 cU (k:=3) lC Jq (body:=wT) (fun cdv A outer s H E hr=>have nd:=(Jq).nd;(aL (bT (p8 ["x","y","kinds","may"] [none,none,some 0,some 1] rfl (rQ rfl gM (uJ rfl mZ nH (dQ (aE 0) aO))) (fun cl C s2 H2 pins fp=>(cO 0 Ke)) (fun cl C s2 H2 pins fp=>gK) (fun cl C s2 H2 pins fp=>(rQ rfl gM (uJ rfl mZ nH (dQ (aE 2) aO)))) (fun cl C s2 H2 pins fp=>(cO 1 Ke)) (fun cl C s2 H2 pins fp=>gK) (fun cl C s2 H2 pins fp=>(bL Bc (hr.mono (by decide)) Bo mR.kp yE rfl (aD (bL wX (hr.mono (by decide)) Fy lV.kp yV rfl (aD (aE 2) (aD (aE 3) (aD (aE 0) (aD (aE 1) aG))))) aG))))) aT)) vc
theorem Uq{eO:Addr}{eN:FuncData}(fM:Fun K "plain_around" "plain_around" iX eO eN){oF:Addr}{oX:FuncData}(lC:Fun K "spans_of" "spans_of" mI oF oX)(Aa:Binds K oX nD [])(Bs:mg "spans_of"=some (.ref oF))(xS:FnOk P w K mg base aV 4 oF oX nD (LSp K 2 rS)){nS:Addr}{oN:FuncData}(kU:Fun K "words_of" "words_of" lR nS oN)(yW:Binds K oN lE [])(Ai:mg "words_of"=some (.ref nS))(zE:FnOk P w K mg base aV 1 nS oN lE (LSp K 1 rT)){iB:Addr}{gQ:FuncData}(gS:Fun K "ways_by" "ways_by" kG iB gQ)(oR:Binds K gQ jD [])(pU:mg "ways_by"=some (.ref iB))(qH:FnOk P w K mg base aV 1 iB gQ jD (LSp K 2 jZ))(cR:mg "tuple"=none)(nU:mg "all"=none)(El:mg "zip"=none)
  (vc:∀ ds m R,ds.length=gO.length->jH ds m R->zO {nx:=fun _ m=>R (.dat .none) m,rt:=R} (bA Ci ds) m):FnOk P w K mg base aV 5 eO eN gO (LSp K 2 jH) :=
 cU (k:=4) fM Og (body:=zO) (fun cdv A outer s H E hr=>have nd:=(Og).nd;(aL (bU 2 nd (bL xS (hr.mono (by decide)) Bs lC.kp Aa rfl (aD (aE 0) (aD (aE 1) aG)))) (aL (bT (fR qE rfl cR kE (aD (kD ["word","kinds","spans"] [none,some 0,some 2] rfl (eR (bL zE (hr.mono (by decide)) Ai kU.kp yW rfl (aD (aE 0) aG))) (fun cl C s2 H2 pins fp=>(cO 0 Vh)) (fun cl C s2 H2 pins fp=>(Bp (nA (dW (Od rfl) rfl nU Ja (aD (kD ["way","span"] [none,none] rfl (Zw rfl El (bL qH (hr.mono (by decide)) pU gS.kp oR rfl (aD (aE 1) (aD (aE 0) aG))) (aE 2)) (fun cl C s2 H2 pins fp=>(Lv rfl (vD (cO 0 Jn) (vD (cO 1 Jn) Oh)))) (fun cl C s2 H2 pins fp=>gK) (fun cl C s2 H2 pins fp=>(eK jA (aE 0) (aE 1) (hm:=by with_unfolding_all rfl)))) aG))))) (fun cl C s2 H2 pins fp=>(aE 0))) aG))) aT))) vc
theorem Xr{oZ:Addr}{qK:FuncData}(jN:Fun K "is_plain" "is_plain" kY oZ qK){eO:Addr}{eN:FuncData}(fM:Fun K "plain_around" "plain_around" iX eO eN)(iV:Binds K eN gO [])(iO:mg "plain_around"=some (.ref eO))(jB:FnOk P w K mg base aV 5 eO eN gO (LSp K 2 jH))
  (vc:∀ ds m R,ds.length=mV.length->qB ds m R->wU {nx:=fun _ m=>R (.dat .none) m,rt:=R} (bA Am ds) m):FnOk P w K mg base aV 6 oZ qK mV (LSp K 2 qB) :=
 cU (k:=5) jN Gi (body:=wU) (fun cdv A outer s H E hr=>have nd:=(Gi).nd;(aL (bT (eK (dI hr.u100) (bL jB (hr.mono (by decide)) iO fM.kp iV rfl (aD (aE 0) (aD (aE 1) aG))) (aE 1))) aT)) vc
theorem X0{pZ:Addr}{nT:FuncData}(nK:Fun K "grown_part" "grown_part" lI pZ nT){eO:Addr}{eN:FuncData}(fM:Fun K "plain_around" "plain_around" iX eO eN)(iV:Binds K eN gO [])(iO:mg "plain_around"=some (.ref eO))(jB:FnOk P w K mg base aV 5 eO eN gO (LSp K 2 jH))(nU:mg "all"=none)
  (vc:∀ ds m R,ds.length=lS.length->rA ds m R->wN {nx:=fun _ m=>R (.dat .none) m,rt:=R} (bA Cg ds) m):FnOk P w K mg base aV 6 pZ nT lS (LSp K 3 rA) :=
 cU (k:=5) nK Ia (body:=wN) (fun cdv A outer s H E hr=>have nd:=(Ia).nd;(aL (bU 3 nd (bF (aD (aE 2) aG))) (aL (jG PassesOwn.never rfl (eR (aE 1)) (cO 4 nd) (aL (bU 5 nd (bL jB (hr.mono (by decide)) iO fM.kp iV rfl (aD (aE 0) (aD (cC eY (aE 3) (bF (aD (aE 4) aG))) aG)))) (aL (dB (nA (dW (Od rfl) rfl nU Ja (aD (kD ["chosen","may"] [none,some 1] rfl (eR (aE 5)) (fun cl C s2 H2 pins fp=>(cO 0 G6)) (fun cl C s2 H2 pins fp=>gK) (fun cl C s2 H2 pins fp=>(eK jA (aE 0) (aE 1) (hm:=by with_unfolding_all rfl)))) aG))) (aL (bU 3 nd (aE 5)) aT) aT) aT))) (aL (bT (aE 3)) aT)))) vc
theorem BY{iH:Addr}{gV:FuncData}(gU:Fun K "plain_parts" "plain_parts" kK iH gV){pZ:Addr}{nT:FuncData}(nK:Fun K "grown_part" "grown_part" lI pZ nT)(wY:Binds K nT lS [])(Bq:mg "grown_part"=some (.ref pZ))(Fg:FnOk P w K mg base aV 6 pZ nT lS (LSp K 3 rA))(Fu:mg "any"=none)(cR:mg "tuple"=none)
  (vc:∀ ds m R,ds.length=jI.length->lK ds m R->zP {nx:=fun _ m=>R (.dat .none) m,rt:=R} (bA Af ds) m):FnOk P w K mg base aV 7 iH gV jI (LSp K 2 lK) :=
 cU (k:=6) gU Pi (body:=zP) (fun cdv A outer s H E hr=>have nd:=(Pi).nd;(aL (bU 2 nd (tP aG)) (aL (jG PassesOwn.never rfl (eR (aE 1)) (cO 3 nd) (aL (dB (tH (nA (dW (CP rfl) rfl Fu S1 (aD (CI 2 ["part","word"] [none,some 3] rfl (fun cl C s2 H2 pins fp=>(cO 0 Rg)) (fun cl C s2 H2 pins fp=>gK) (fun cl C s2 H2 pins fp=>(eK jA (aE 1) (aE 0) (hm:=by with_unfolding_all rfl)))) aG)))) (aL (pC (xY (aE 2) (bL Fg (hr.mono (by decide)) Bq nK.kp wY rfl (aD (aE 0) (aD (aE 1) (aD (aE 3) aG)))))) aT) aT) aT)) (aL (bT (fR qE rfl cR kE (aD (aE 2) aG))) aT)))) vc
theorem Yp{oE:Addr}{oQ:FuncData}(mQ:Fun K "_law_feed" "_law_feed" nJ oE oQ)(pN:mg "list"=none)
  (vc:∀ ds m R,ds.length=mL.length->rG ds m R->vG {nx:=fun _ m=>R (.dat .none) m,rt:=R} (bA Eb ds) m):FnOk P w K mg base aV 1 oE oQ mL (LSp K 1 rG) :=
 cU (k:=0) mQ Hc (body:=vG) (fun cdv A outer s H E hr=>have nd:=(Hc).nd;(aL (bT (lM (cF aQ (fR Gz rfl pN Nh (aD (qU (aE 0) pY (oO aO)) aG)) (cF aQ aO (cF aQ aO (cF aQ aO mJ)))))) aT)) vc
theorem Qz{eP:Addr}{eT:FuncData}(dA:Fun K "_law_draw" "_law_draw" iQ eP eT)(eM:mg "len"=none)
  (vc:∀ ds m R,ds.length=gC.length->dH ds m R->Dg {nx:=fun _ m=>R (.dat .none) m,rt:=R} (bA Dd ds) m):FnOk P w K mg base aV 1 eP eT gC (LSp K 2 dH) :=
 cU (k:=0) dA Nt (body:=Dg) (fun cdv A outer s H E hr=>have nd:=(Nt).nd;(aL (uY hr.u100 (cC eY (fZ hr.u100 (aE 0) aQ) aO) (aE 0) aQ) (aL (bU 2 nd (cC mH (fZ hr.u100 (aE 0) aQ) (aE 1))) (aL (dB (cN oK (fZ hr.u100 (aE 0) aQ) aO) (aL (uY hr.u100 (cC uR (fZ hr.u100 (aE 0) aQ) (aE 1)) (aE 0) aQ) (aL (bT (aE 2)) aT)) aT) (aL (bU 3 nd (fZ hr.u100 (aE 0) aQ)) (aL (uY hr.u100 (cC eY (aE 3) aO) (aE 0) aQ) (aL (bU 4 nd aO) (aL (dB (cN (Bx hr.u100) (fZ hr.u100 (aE 0) aQ) (jW aG)) (aL (bU 4 nd (dQ (fZ hr.u100 (aE 0) aQ) (cC mH (aE 3) (dW lA rfl eM lN (aD (fZ hr.u100 (aE 0) aQ) aG))))) aT) aT) (aL (dB (QW.pt (Nv (cN M8 (aE 4) (cC AY aO aO)) (Oc (cN Ot (aE 3) (dW lA rfl eM lN (aD (fZ hr.u100 (aE 0) aQ) aG)))))) (aL (uY hr.u100 (cC uR (aE 4) (aE 1)) (aE 0) aQ) (aL (bT (cC mH (aE 4) (aE 1))) aT)) aT) (aL (bU 5 nd (cC mH (cC qR (cC eY (cC mH (aE 4) aO) (cC qR aO (fZ hr.u100 (aE 0) aQ))) aO) aO)) (aL (bU 5 nd (cC mH (cC qR (cC eY (cC uR (aE 5) aO) (cC qR aO (fZ hr.u100 (aE 0) aQ))) aO) aO)) (aL (bT (cC mH (cC uR (aE 5) aO) (aE 1))) aT)))))))))))) vc
theorem Zx{pP:Addr}{nV:FuncData}(mU:Fun K "_law_order" "_law_order" lU pP nV) 
  (vc:∀ ds m R,ds.length=lX.length->sA ds m R->Ea {nx:=fun _ m=>R (.dat .none) m,rt:=R} (bA Eg ds) m):FnOk P w K mg base aV 1 pP nV lX (LSp K 0 sA) :=
 cU (k:=0) mU Mz (body:=Ea) (fun cdv A outer s H E hr=>have nd:=(Mz).nd;(aL (bU 0 nd (jW (aD aQ (aD aQ (aD aQ (aD aQ (aD aQ (aD aQ (aD aQ aG))))))))) (aL (bT (cC eY (aE 0) (jW (aD aQ (aD aQ (aD aQ (aD aQ (aD aQ (aD aQ aG))))))))) aT))) vc
theorem y7{dP:Addr}{dM:FuncData}(eC:Fun K "_law_words" "_law_words" gW dP dM){pP:Addr}{nV:FuncData}(mU:Fun K "_law_order" "_law_order" lU pP nV)(Ee:Binds K nV lX [])(xP:mg "_law_order"=some (.ref pP))(wM:FnOk P w K mg base aV 1 pP nV lX (LSp K 0 sA))
  (vc:∀ ds m R,ds.length=fD.length->gF ds m R->xE {nx:=fun _ m=>R (.dat .none) m,rt:=R} (bA Ay ds) m):FnOk P w K mg base aV 2 dP dM fD (LSp K 1 gF) :=
 cU (k:=1) eC Hs (body:=xE) (fun cdv A outer s H E hr=>have nd:=(Hs).nd;(aL (bU 1 nd (AQ hr.u100 (bF (aD aQ (aD aQ aG))) (jW (aD aQ (aD aQ (aD aQ aG)))))) (aL (Nc hr.u100 (jW (aD aQ (aD aQ (aD aQ (aD aQ (aD aQ aG)))))) (aE 1) (bF (aD aQ (aD aQ aG)))) (aL (Nc hr.u100 (jW (aD aQ (aD aQ (aD aQ (aD aQ (aD aQ aG)))))) (aE 1) (bF (aD aQ (aD aQ aG)))) (aL (bT (Wc hr.u100 (aE 1) (aE 0) (N9 wM (hr.mono (by decide)) xP mU.kp Ee rfl))) aT))))) vc
theorem Xs{oJ:Addr}{oG:FuncData}(kT:Fun K "_law_signs" "_law_signs" nF oJ oG)(kB:mg "int"=none)(gM:mg "range"=none)
  (vc:∀ ds m R,ds.length=mN.length->pA ds m R->Eh {nx:=fun _ m=>R (.dat .none) m,rt:=R} (bA Ep ds) m):FnOk P w K mg base aV 1 oJ oG mN (LSp K 2 pA) :=
 cU (k:=0) kT Hj (body:=Eh) (fun cdv A outer s H E hr=>have nd:=(Hj).nd;(aL (bU 2 nd G1) (aL (jG PassesOwn.never rfl (rQ rfl gM aO) (cO 3 nd) (aL (jG PassesOwn.never rfl (rQ rfl gM aO) (cO 4 nd) (aL (Xw hr.u100 (cC Rn (fR vC rfl kB vH (aD (eK oK (dQ (aE 0) (aE 3)) (dQ (aE 1) (aE 4))) aG)) (fR vC rfl kB vH (aD (eK Ot (dQ (aE 0) (aE 3)) (dQ (aE 1) (aE 4))) aG))) (aE 2) (aD (aE 3) (aD (aE 4) aG))) aT)) aT)) (aL (bT (aE 2)) aT)))) vc
theorem Xz{oT:Addr}{oA:FuncData}(kS:Fun K "_law_lays" "_law_lays" mF oT oA){oJ:Addr}{oG:FuncData}(kT:Fun K "_law_signs" "_law_signs" nF oJ oG)(xD:Binds K oG mN [])(zG:mg "_law_signs"=some (.ref oJ))(yM:FnOk P w K mg base aV 1 oJ oG mN (LSp K 2 pA))(Ca:mg "dict"=none)
  (vc:∀ ds m R,ds.length=nL.length->qX ds m R->Cm {nx:=fun _ m=>R (.dat .none) m,rt:=R} (bA zX ds) m):FnOk P w K mg base aV 2 oT oA nL (LSp K 1 qX) :=
 cU (k:=1) kS Om (body:=Cm) (fun cdv A outer s H E hr=>have nd:=(Om).nd;(aL (bU 1 nd (Ab (cN (dI hr.u100) (dQ (aE 0) aO) aQ) (bF (aD aO (aD aO aG))) (bF (aD aO (aD aO aG))))) (aL (bU 2 nd (lM (cF aQ (bF (aD aO (aD aO aG))) (cF aQ (bF (aD aO (aD aO aG))) (cF aQ (bF (aD aO (aD aO aG))) (cF aQ (bF (aD aO (aD aO aG))) (cF aQ (bF (aD aO (aD aO aG))) (cF aQ (bF (aD aO (aD aO aG))) mJ)))))))) (aL (pC (Hu (aE 2) (lM (cF aQ (bF (aD aO (aD aO aG))) (cF aQ (bF (aD aO (aD aO aG))) (cF aQ (bF (aD aO (aD aO aG))) (cF aQ (bF (aD aO (aD aO aG))) (cF aQ (bF (aD aO (aD aO aG))) mJ)))))))) (aL (pC (Hu (aE 2) (lM (cF aQ (bF (aD aO (aD aO aG))) (cF aQ (bF (aD aO (aD aO aG))) mJ))))) (aL (dB (cN (dI hr.u100) (aE 0) (bF (aD aQ (aD aQ aG)))) (aL (bU 2 nd (lM (cF aQ (bF (aD aO (aD aO aG))) (cF aQ (bF (aD aO (aD aO aG))) (cF aQ (bF (aD aO (aD aO aG))) (cF aQ (bF (aD aO (aD aO aG))) (cF aQ (bF (aD aO (aD aO aG))) mJ))))))) aT) aT) (aL (dB (cN (dI hr.u100) (aE 0) (bF (aD aQ (aD aQ aG)))) (aL (bU 2 nd (lM (cF aQ (bF (aD aO (aD aO aG))) (cF aQ (bF (aD aO (aD aO aG))) (cF aQ (bF (aD aO (aD aO aG))) (cF aQ (bF (aD aO (aD aO aG))) (cF aQ (bF (aD aO (aD aO aG))) mJ))))))) aT) aT) (aL (dB (cN (dI hr.u100) (aE 0) (bF (aD aQ (aD aQ aG)))) (aL (bU 2 nd (lM (cF aQ (bF (aD aO (aD aO aG))) (cF aQ (bF (aD aO (aD aO aG))) (cF aQ (bF (aD aO (aD aO aG))) mJ))))) aT) aT) (aL (bT (V3 rfl rfl Ca (kD ["_law_word","_law_other","_law_some_here"] [none,some 1,some 2] rfl (Q4 (aE 2)) (fun cl C s2 H2 pins fp=>(cO 0 U0)) (fun cl C s2 H2 pins fp=>gK) (fun cl C s2 H2 pins fp=>(bF (aD (aE 0) (aD (Iw (bL yM (hr.mono (by decide)) zG kT.kp xD rfl (aD (D3 hr.u100 (aE 2) (aE 0)) (aD (aE 1) aG)))) aG))))))) aT))))))))) vc
theorem S5{eU:Addr}{eQ:FuncData}(eV:Fun K "_law_around" "_law_around" iP eU eQ){oT:Addr}{oA:FuncData}(kS:Fun K "_law_lays" "_law_lays" mF oT oA)(yA:Binds K oA nL [])(Cf:mg "_law_lays"=some (.ref oT))(Dk:FnOk P w K mg base aV 2 oT oA nL (LSp K 1 qX)){dP:Addr}{dM:FuncData}(eC:Fun K "_law_words" "_law_words" gW dP dM)(fQ:Binds K dM fD [])(fX:mg "_law_words"=some (.ref dP))(fV:FnOk P w K mg base aV 2 dP dM fD (LSp K 1 gF))(eM:mg "len"=none)(Ak:mg "min"=none)(yH:mg "max"=none)(cR:mg "tuple"=none)
  (vc:∀ ds m R,ds.length=gD.length->iA ds m R->Bk {nx:=fun _ m=>R (.dat .none) m,rt:=R} (bA Fe ds) m):FnOk P w K mg base aV 3 eU eQ gD (LSp K 2 iA) :=
 cU (k:=2) eV Hg (body:=Bk) (fun cdv A outer s H E hr=>have nd:=(Hg).nd;(aL (bU 2 nd (Iw (bL Dk (hr.mono (by decide)) Cf kS.kp yA rfl (aD (aE 0) aG)))) (aL (bU 3 nd (tP aG)) (aL (jG PassesOwn.never rfl (eR (bL fV (hr.mono (by decide)) fX eC.kp fQ rfl (aD (aE 0) aG))) (cO 4 nd) (aL (bU 5 nd (eK oK (dW lA rfl eM lN (aD (aE 1) aG)) aO)) (aL (jG PassesOwn.never rfl (O5 (sB hr.u100 (aE 2) (aE 4))) (cO 6 nd) (aL (Lx 7 ["_law_one","_law_lays_here","_law_spot"] [none,some 2,some 6] rfl nd (eR (aE 1)) (fun cl C s2 H2 pins fp=>(cO 0 CK)) (fun cl C s2 H2 pins fp=>gK) (fun cl C s2 H2 pins fp=>(sB hr.u100 (sB hr.u100 (aE 1) (aE 0)) (aE 2)))) (aL (bU 5 nd (Hb (aE 5) (Oj (Wh Ka Ka (dW (Sh rfl) rfl Ak Uy (aD (aE 7) aG)) (sB hr.u100 (sB hr.u100 (aE 2) (aE 4)) (aE 6)) (dW (M0 rfl) rfl yH v6 (aD (aE 7) aG)))))) aT))) (aL (dB (nA (aE 5)) (aL (pC (xY (aE 3) (aE 4))) aT) aT) aT)))) (aL (bT (fR qE rfl cR kE (aD (aE 3) aG))) aT))))) vc
theorem i4{qD:Addr}{nX:FuncData}(lJ:Fun K "_law_some" "_law_some" lT qD nX){eP:Addr}{eT:FuncData}(dA:Fun K "_law_draw" "_law_draw" iQ eP eT)(eD:Binds K eT gC [])(eE:mg "_law_draw"=some (.ref eP))(eF:FnOk P w K mg base aV 1 eP eT gC (LSp K 2 dH)){dP:Addr}{dM:FuncData}(eC:Fun K "_law_words" "_law_words" gW dP dM)(fQ:Binds K dM fD [])(fX:mg "_law_words"=some (.ref dP))(fV:FnOk P w K mg base aV 2 dP dM fD (LSp K 1 gF))(cR:mg "tuple"=none)
  (vc:∀ ds m R,ds.length=lH.length->rF ds m R->wR {nx:=fun _ m=>R (.dat .none) m,rt:=R} (bA Cd ds) m):FnOk P w K mg base aV 3 qD nX lH (LSp K 3 rF) :=
 cU (k:=2) lJ Jf (body:=wR) (fun cdv A outer s H E hr=>have nd:=(Jf).nd;(aL (bU 3 nd (cC eY aO (bL eF (hr.mono (by decide)) eE dA.kp eD rfl (aD (aE 0) (aD aO aG))))) (aL (Lx 4 ["_law_one","_law_feed_here","_law_word","_law_share"] [none,some 0,some 2,some 3] rfl nd (eR (bL fV (hr.mono (by decide)) fX eC.kp fQ rfl (aD (aE 1) aG))) (fun cl C s2 H2 pins fp=>(cO 0 CC)) (fun cl C s2 H2 pins fp=>(Bp (QW.pt (uH (cN (dI hr.u100) (aE 0) (aE 2)) (vI (cN (dI hr.u100) (bL eF (hr.mono (by decide)) eE dA.kp eD rfl (aD (aE 1) (aD (cC eY aO (aE 3)) aG))) aO)))))) (fun cl C s2 H2 pins fp=>(aE 0))) (aL (bT (fR qE rfl cR kE (aD (aE 4) aG))) aT)))) vc
theorem D1{pX:Addr}{pO:FuncData}(lL:Fun K "_law_drawn" "_law_drawn" lO pX pO){eP:Addr}{eT:FuncData}(dA:Fun K "_law_draw" "_law_draw" iQ eP eT)(eD:Binds K eT gC [])(eE:mg "_law_draw"=some (.ref eP))(eF:FnOk P w K mg base aV 1 eP eT gC (LSp K 2 dH)){dP:Addr}{dM:FuncData}(eC:Fun K "_law_words" "_law_words" gW dP dM)(fQ:Binds K dM fD [])(fX:mg "_law_words"=some (.ref dP))(fV:FnOk P w K mg base aV 2 dP dM fD (LSp K 1 gF)){qD:Addr}{nX:FuncData}(lJ:Fun K "_law_some" "_law_some" lT qD nX)(wP:Binds K nX lH [])(zN:mg "_law_some"=some (.ref qD))(Da:FnOk P w K mg base aV 3 qD nX lH (LSp K 3 rF)){eU:Addr}{eQ:FuncData}(eV:Fun K "_law_around" "_law_around" iP eU eQ)(iY:Binds K eQ gD [])(jC:mg "_law_around"=some (.ref eU))(iU:FnOk P w K mg base aV 3 eU eQ gD (LSp K 2 iA))(cR:mg "tuple"=none)(eM:mg "len"=none)
  (vc:∀ ds m R,ds.length=mG.length->rL ds m R->Fr {nx:=fun _ m=>R (.dat .none) m,rt:=R} (bA xW ds) m):FnOk P w K mg base aV 4 pX pO mG (LSp K 2 rL) :=
 cU (k:=3) lL Of (body:=Fr) (fun cdv A outer s H E hr=>have nd:=(Of).nd;(aL (bU 2 nd (bL eF (hr.mono (by decide)) eE dA.kp eD rfl (aD (aE 0) (aD aO aG)))) (aL (bU 3 nd (bL fV (hr.mono (by decide)) fX eC.kp fQ rfl (aD (aE 1) aG))) (aL (dB (cN (dI hr.u100) (aE 2) aO) (aL (bT (dQ (jW (aD (bF aG) (aD (fR qE rfl cR kE (aD (aE 3) aG)) aG))) (bL eF (hr.mono (by decide)) eE dA.kp eD rfl (aD (aE 0) (aD aO aG))))) aT) aT) (aL (bU 4 nd (bL Da (hr.mono (by decide)) zN lJ.kp wP rfl (aD (aE 0) (aD (aE 1) (aD (dQ (aE 3) (bL eF (hr.mono (by decide)) eE dA.kp eD rfl (aD (aE 0) (aD (dW lA rfl eM lN (aD (aE 3) aG)) aG)))) aG))))) (aL (dB (cN (dI hr.u100) (aE 2) aO) (aL (bT (bF (aD (dQ (aE 3) (bL eF (hr.mono (by decide)) eE dA.kp eD rfl (aD (aE 0) (aD (dW lA rfl eM lN (aD (aE 3) aG)) aG)))) aG))) aT) aT) (aL (dB (cN (dI hr.u100) (aE 2) aO) (aL (bT (aE 4)) aT) aT) (aL (bU 4 nd (bL iU (hr.mono (by decide)) jC eV.kp iY rfl (aD (aE 1) (aD (qU (aE 4) pY (oO (cC eY aO (bL eF (hr.mono (by decide)) eE dA.kp eD rfl (aD (aE 0) (aD aO aG)))))) aG)))) (aL (bU 5 nd (bL eF (hr.mono (by decide)) eE dA.kp eD rfl (aD (aE 0) (aD (dW lA rfl eM lN (aD (aE 4) aG)) aG)))) (aL (bT (Ab (cN (dI hr.u100) (aE 2) aO) (cC eY (qU (aE 4) pY (oO (aE 5))) (qU (aE 4) (oO (cC eY (aE 5) aO)) pY)) (aE 4))) aT)))))))))) vc
theorem Rf{oH:Addr}{pS:FuncData}(mK:Fun K "_law_is_may" "_law_is_may" nG oH pS){dP:Addr}{dM:FuncData}(eC:Fun K "_law_words" "_law_words" gW dP dM)(fQ:Binds K dM fD [])(fX:mg "_law_words"=some (.ref dP))(fV:FnOk P w K mg base aV 2 dP dM fD (LSp K 1 gF))(lG:mg "isinstance"=none)(cR:mg "tuple"=none)(zL:mg "str"=none)(pN:mg "list"=none)
  (vc:∀ ds m R,ds.length=kZ.length->nW ds m R->zK {nx:=fun _ m=>R (.dat .none) m,rt:=R} (bA Bb ds) m):FnOk P w K mg base aV 3 oH pS kZ (LSp K 2 nW) :=
 cU (k:=2) mK Pc (body:=zK) (fun cdv A outer s H E hr=>have nd:=(Pc).nd;(aL (dB (QW.pt (uH (tH (nA (Ah rfl lG rfl cR kE (Or.inr (Or.inr (Or.inr (Or.inl rfl)))) (aE 1)))) (vI (cN jA hG (kD ["_law_one"] [none] rfl (eR (aE 1)) (fun cl C s2 H2 pins fp=>(cO 0 G3)) (fun cl C s2 H2 pins fp=>gK) (fun cl C s2 H2 pins fp=>(Ah rfl lG rfl zL j7 (Or.inr (Or.inr (Or.inl rfl))) (aE 0)))) (hm:=by with_unfolding_all rfl))))) (aL (bT hG) aT) aT) (aL (bT (eK (dI hr.u100) (fR Gz rfl pN Nh (aD (aE 1) aG)) (kD ["_law_word","_law_thing"] [none,some 1] rfl (eR (bL fV (hr.mono (by decide)) fX eC.kp fQ rfl (aD (aE 0) aG))) (fun cl C s2 H2 pins fp=>(cO 0 Sf)) (fun cl C s2 H2 pins fp=>(Bp (cN jA (aE 0) (aE 1) (hm:=by with_unfolding_all rfl)))) (fun cl C s2 H2 pins fp=>(aE 0))))) aT))) vc
theorem A7{oC:Addr}{pK:FuncData}(nE:Fun K "_law_parts_right" "_law_parts_right" mS oC pK){oH:Addr}{pS:FuncData}(mK:Fun K "_law_is_may" "_law_is_may" nG oH pS)(Dp:Binds K pS kZ [])(zC:mg "_law_is_may"=some (.ref oH))(Bj:FnOk P w K mg base aV 3 oH pS kZ (LSp K 2 nW)){eU:Addr}{eQ:FuncData}(eV:Fun K "_law_around" "_law_around" iP eU eQ)(iY:Binds K eQ gD [])(jC:mg "_law_around"=some (.ref eU))(iU:FnOk P w K mg base aV 3 eU eQ gD (LSp K 2 iA))(lG:mg "isinstance"=none)(cR:mg "tuple"=none)(eM:mg "len"=none)(mM:mg "sorted"=none)(Dl:mg "set"=none)
  (vc:∀ ds m R,ds.length=lQ.length->rN ds m R->Fb {nx:=fun _ m=>R (.dat .none) m,rt:=R} (bA xM ds) m):FnOk P w K mg base aV 4 oC pK lQ (LSp K 3 rN) :=
 cU (k:=3) nE Nu (body:=Fb) (fun cdv A outer s H E hr=>have nd:=(Nu).nd;(aL (dB (QW.pt (uH (tH (nA (Ah rfl lG rfl cR kE (Or.inr (Or.inr (Or.inr (Or.inl rfl)))) (aE 2)))) (vI (cN jA hG (kD ["_law_one","_law_kinds"] [none,some 0] rfl (eR (aE 2)) (fun cl C s2 H2 pins fp=>(cO 0 Rw)) (fun cl C s2 H2 pins fp=>gK) (fun cl C s2 H2 pins fp=>(Hb (bL Bj (hr.mono (by decide)) zC mK.kp Dp rfl (aD (aE 1) (aD (aE 0) aG))) (Oj (eK oK (dW lA rfl eM lN (aD (aE 0) aG)) aO))))) (hm:=by with_unfolding_all rfl))))) (aL (bT hG) aT) aT) (aL (dB (cN jA hG (kD ["_law_one","_law_kinds"] [none,some 0] rfl (eR (aE 2)) (fun cl C s2 H2 pins fp=>(cO 0 Qo)) (fun cl C s2 H2 pins fp=>gK) (fun cl C s2 H2 pins fp=>(eK (dI hr.u100) (bL iU (hr.mono (by decide)) jC eV.kp iY rfl (aD (aE 1) (aD (aE 0) aG))) (aE 0)))) (hm:=by with_unfolding_all rfl)) (aL (bT hG) aT) aT) (aL (bU 3 nd (tP aG)) (aL (jG PassesOwn.never rfl (eR (aE 2)) (cO 4 nd) (aL (pC (CG (aE 3) (aE 4))) aT)) (aL (bT (eK (dI hr.u100) (Tq rfl rfl mM rfl Dl (aE 3)) (dW t7 rfl mM Ba (aD (aE 1) aG)))) aT)))))) vc
theorem Um{pG:Addr}{oB:FuncData}(mX:Fun K "_law_right" "_law_right" mT pG oB){eU:Addr}{eQ:FuncData}(eV:Fun K "_law_around" "_law_around" iP eU eQ)(iY:Binds K eQ gD [])(jC:mg "_law_around"=some (.ref eU))(iU:FnOk P w K mg base aV 3 eU eQ gD (LSp K 2 iA)){eO:Addr}{eN:FuncData}(fM:Fun K "plain_around" "plain_around" iX eO eN)(iV:Binds K eN gO [])(iO:mg "plain_around"=some (.ref eO))(jB:FnOk P w K mg base aV 5 eO eN gO (LSp K 2 jH)){oZ:Addr}{qK:FuncData}(jN:Fun K "is_plain" "is_plain" kY oZ qK)(sF:Binds K qK mV [])(uF:mg "is_plain"=some (.ref oZ))(tD:FnOk P w K mg base aV 6 oZ qK mV (LSp K 2 qB)){oC:Addr}{pK:FuncData}(nE:Fun K "_law_parts_right" "_law_parts_right" mS oC pK)(Ff:Binds K pK lQ [])(Bm:mg "_law_parts_right"=some (.ref oC))(xB:FnOk P w K mg base aV 4 oC pK lQ (LSp K 3 rN)){iH:Addr}{gV:FuncData}(gU:Fun K "plain_parts" "plain_parts" kK iH gV)(oY:Binds K gV jI [])(pD:mg "plain_parts"=some (.ref iH))(qG:FnOk P w K mg base aV 7 iH gV jI (LSp K 2 lK))(nQ:mg "repr"=none)
  (vc:∀ ds m R,ds.length=nC.length->qL ds m R->zY {nx:=fun _ m=>R (.dat .none) m,rt:=R} (bA zV ds) m):FnOk P w K mg base aV 8 pG oB nC (LSp K 2 qL) :=
 cU (k:=7) mX Hn (body:=zY) (fun cdv A outer s H E hr=>have nd:=(Hn).nd;(aL (bU 2 nd (bL iU (hr.mono (by decide)) jC eV.kp iY rfl (aD (aE 0) (aD (aE 1) aG)))) (aL (dB (cN (Bx hr.u100) (dW (sK hr.u200 hr.gd) rfl nQ tO (aD (bL jB (hr.mono (by decide)) iO fM.kp iV rfl (aD (aE 0) (aD (aE 1) aG))) aG)) (dW (sK hr.u200 hr.gd) rfl nQ tO (aD (aE 2) aG))) (aL (bT hG) aT) aT) (aL (dB (QW.pt (uH (cN (Bx hr.u100) (dW (sK hr.u200 hr.gd) rfl nQ tO (aD (bL tD (hr.mono (by decide)) uF jN.kp sF rfl (aD (aE 0) (aD (aE 1) aG))) aG)) (dW (sK hr.u200 hr.gd) rfl nQ tO (aD (eK (dI hr.u100) (aE 1) (aE 2)) aG))) (vI (cN Zo (bL tD (hr.mono (by decide)) uF jN.kp sF rfl (aD (aE 0) (aD (aE 2) aG))) hG)))) (aL (bT hG) aT) aT) (aL (bT (bL xB (hr.mono (by decide)) Bm nE.kp Ff rfl (aD (aE 0) (aD (aE 1) (aD (bL qG (hr.mono (by decide)) pD gU.kp oY rfl (aD (aE 0) (aD (aE 1) aG))) aG))))) aT))))) vc
theorem Zv{Lb:Addr}{Lq:FuncData}(yQ:Fun K "law" "law" iM Lb Lq){oE:Addr}{oQ:FuncData}(mQ:Fun K "_law_feed" "_law_feed" nJ oE oQ)(Ed:Binds K oQ mL [])(Ex:mg "_law_feed"=some (.ref oE))(Ct:FnOk P w K mg base aV 1 oE oQ mL (LSp K 1 rG)){eP:Addr}{eT:FuncData}(dA:Fun K "_law_draw" "_law_draw" iQ eP eT)(eD:Binds K eT gC [])(eE:mg "_law_draw"=some (.ref eP))(eF:FnOk P w K mg base aV 1 eP eT gC (LSp K 2 dH)){pX:Addr}{pO:FuncData}(lL:Fun K "_law_drawn" "_law_drawn" lO pX pO)(Cb:Binds K pO mG [])(By:mg "_law_drawn"=some (.ref pX))(Ck:FnOk P w K mg base aV 4 pX pO mG (LSp K 2 rL)){pG:Addr}{oB:FuncData}(mX:Fun K "_law_right" "_law_right" mT pG oB)(xC:Binds K oB nC [])(zM:mg "_law_right"=some (.ref pG))(De:FnOk P w K mg base aV 8 pG oB nC (LSp K 2 qL)){iH:Addr}{gV:FuncData}(gU:Fun K "plain_parts" "plain_parts" kK iH gV)(oY:Binds K gV jI [])(pD:mg "plain_parts"=some (.ref iH))(qG:FnOk P w K mg base aV 7 iH gV jI (LSp K 2 lK))(kB:mg "int"=none)(gM:mg "range"=none)
  (vc:∀ ds m R,ds.length=vO.length->nN ds m R->zS {nx:=fun _ m=>R (.dat .none) m,rt:=R} (bA Gd ds) m):FnOk P w K mg base aV 9 Lb Lq vO (LSp K 1 nN) :=
 cU (k:=8) yQ Li (body:=zS) (fun cdv A outer s H E hr=>have nd:=(Li).nd;(aL (bU 1 nd (bL Ct (hr.mono (by decide)) Ex mQ.kp Ed rfl (aD (aE 0) aG))) (aL (bU 2 nd (jW (aD aQ (aD aQ aG)))) (aL (bU 3 nd (tP aG)) (aL (jG PassesOwn.never rfl (rQ rfl gM aO) (cO 4 nd) (aL (bU 5 nd (bF (aD (dQ (aE 2) (fR vC rfl kB vH (aD (eK oK (bL eF (hr.mono (by decide)) eE dA.kp eD rfl (aD (aE 1) (aD aO aG))) aO) aG))) (aD (dQ (aE 2) (fR vC rfl kB vH (aD (eK oK (bL eF (hr.mono (by decide)) eE dA.kp eD rfl (aD (aE 1) (aD aO aG))) aO) aG))) aG)))) (aL (pC (xY (aE 3) (bF (aD (aE 5) (aD (bL Ck (hr.mono (by decide)) By lL.kp Cb rfl (aD (aE 1) (aD (aE 5) aG))) aG))))) aT))) (aL (jG PassesOwn.never rfl (eR (cC eY (aE 3) (Vf (aE 3) pY (oO aO)))) (Lv rfl (vD (cO 5 nd) (vD (cO 6 nd) Oh))) (aL (dB (tH (nA (bL De (hr.mono (by decide)) zM mX.kp xC rfl (aD (aE 5) (aD (aE 6) aG))))) (aL (bT hG) aT) aT) aT)) (aL (bT (eK (dI hr.u100) (bL qG (hr.mono (by decide)) pD gU.kp oY rfl (aD (bF (aD aQ (aD aQ aG))) (aD (bF aG) aG))) (bF aG))) aT))))))) vc
end
end K38
namespace K38
open PySem PySem.Spec PyProof.Rows L2 DL K01
@[simp] theorem tY:PyData.strOk (Str.ofString "point")=true:=by decide +kernel
@[simp] theorem Kw:PyData.strOk (Str.ofString "stretch")=true:=by decide +kernel
@[simp] theorem Xf(x:PyData)(xs:List PyData):cS (x::xs) 0=some x:=by simp[cS,gP]
@[simp] theorem Bl(x y:PyData)(xs:List PyData):cS (x::y::xs) 1=some y:=by
 have:(1:Int)<xs.length+1+1:=by omega
 simp[cS,gP,this]
abbrev EN(R:DK):Ends2:={nx:=fun _ m=>R (.dat .none) m,rt:=R}
theorem sz{n:Nat}(h:n<=1000):n<=sizeLine:=Nat.le_trans h (by rw[sizeLine_eq];decide)
theorem xO{i j:Int}(h:Bd 64 i):IntMulOk i j:=IntMulOk.of_left (intBits_le_iff.mpr h)
theorem Ki{i j:Int}(h:Bd 64 j):IntMulOk i j:=IntMulOk.of_right (intBits_le_iff.mpr h)
set_option exponentiation.threshold 3000 in
theorem sH{i:Int}{n:Nat}(h:i.natAbs<2^n:=by decide):Bd n i:=h
theorem Ez{g:DG}{b:DS}{E:Ends2}(J:aU->Mu->Prop)(hd:∀ d m,J d m->E.nx d m):∀ (xs:List D),
  (∀ x∈xs,∀ (k:aU->Mu->Prop),(∀ d m,J d m->k d m)->∀ d m,J d m->g x d m fun d' m'=>b {E with nx:=k,ct:=k,bk:=E.nx} d' m')->∀ d m,J d m->gE g b E xs d m
 | [],_,d,m,h=>hd d m h
 | x::xs,step,d,m,h=>step x List.mem_cons_self _ (Ez J hd xs fun y hy=>step y (List.mem_cons_of_mem _ hy)) d m h
theorem Jh{xs:List PyData}{P:PyData->Prop}{r:Int}(h:∀ p∈xs,P p)(h0:0<=r)(h1:r<(xs.length:Int)):∃ p,cS xs r=some p/\P p:=by
 obtain⟨k,rfl⟩:∃ k:Nat,r=k:=⟨r.toNat,by omega⟩
 have hk:k<xs.length:=by omega
 exact⟨xs[k],Ig (List.getElem?_eq_getElem hk),h _ (List.getElem_mem hk)⟩
theorem Wr:∀ z∈hU,dF uA z=some (.tuple ((w4 z).map .int))/\∃ a b c d,w4 z=[a,b,c,d]:=by
 intro z hz;unfold hU at hz;simp only[List.mem_cons,List.not_mem_nil,or_false]at hz;rcases hz with rfl | rfl | rfl | rfl | rfl | rfl | rfl | rfl | rfl | rfl | rfl | rfl | rfl<;>exact⟨rfl,_,_,_,_,rfl⟩
theorem C7:∀ ds m R,ds.length=jD.length->jZ ds m R->wI (EN R) (bA An ds) m:=by
 rintro ds m R hl ⟨k,l,z,rfl,hz,h⟩;obtain⟨v,a,b,c,d,e⟩:=Wr z hz;unfold wI;simp only[aK,bI,kX,aA,bA];refine⟨_,rfl,z,_,rfl,v,?_⟩;unfold WB at h;rw[e]at h ⊢
 cases k<;>cases l<;>simp (decide:=true) [Lw,Ny,Jj,kd,PyData.eqv,PyData.eqvAll,PyData.canLay0,PyData.canLayAll0,PyData.depth,PyData.depthAll,cS,gP,and_assoc,sz]at h ⊢
 all_goals exact h
theorem Ie(k l:Bool):(WS k l).Nodup:=by cases k<;>cases l<;>decide +kernel
theorem vN(k l:Bool):∀ z∈WS k l,z∈hU:=by cases k<;>cases l<;>decide +kernel
theorem Fx:∀ ns:List Int,PyData.canLayAll0 (ns.map .int)=true/\PyData.depthAll (ns.map .int)<=1
 | []=>by simp[PyData.canLayAll0,PyData.depthAll]
 | n::ns=>by
  obtain⟨h1,h2⟩:=Fx ns;simp only[List.map_cons,PyData.canLayAll0,PyData.depthAll,PyData.canLay0,PyData.depth,h1,Bool.and_self];exact⟨trivial,by omega⟩
theorem B6{i:Int}(h0:-100000000<=i)(h1:i<=100000000):Bd 64 i:=by
 unfold Bd;have e:(2:Nat)^64=18446744073709551616:=by decide
 omega
theorem Hm{n i:Nat}(h:i<n):(dS 0 n).drop i=I (i:Int)::(dS 0 n).drop (i+1):=by
 have hl:i<(dS 0 n).length:=by unfold dS;simpa using h
 rw[List.drop_eq_getElem_cons hl]
 congr 1
 unfold dS;simp
theorem Oz{n:Nat}:(dS 0 n).drop n=[]:=by
 rw[List.drop_eq_nil_iff];unfold dS;simp
theorem C2{g:DG}{b:DS}{E:Ends2}{n:Nat}(J:Nat->aU->Mu->Prop)(hd:∀ d m,J n d m->E.nx d m)
  (step:∀ i,i<n->∀ (k:aU->Mu->Prop),(∀ d m,J (i+1) d m->k d m)->∀ d m,J i d m->g (I (i:Int)) d m fun d' m'=>b {E with nx:=k,ct:=k,bk:=E.nx} d' m'):∀ d m,J 0 d m->gE g b E (dS 0 n) d m:=by
 have key:∀ (r i:Nat),r+i=n->∀ d m,J i d m->gE g b E ((dS 0 n).drop i) d m:=by
  intro r
  induction r with
  | zero =>
   intro i hi d m hj;have:i=n:=by omega
   subst this;rw[Oz];exact hd d m hj
  | succ r ih =>
   intro i hi d m hj;rw[Hm (by omega)]
   exact step i (by omega) _ (ih (i+1) (by omega)) d m hj
 intro d m h;have:=key n 0 (by omega) d m h
 simpa using this
theorem Kn.refl{m:Mu}:Kn m m:=fun _ _=>rfl
theorem Kn.trans{m m1 m2:Mu}(h:Kn m m1)(g:Kn m1 m2):Kn m m2:=fun c hc=>by
 have e:=h c hc
 rw[g c (by rw[e];exact hc),e]
theorem Kn.new{m m1:Mu}{c:Addr}{x:Cel}(h:Kn m m1)(hc:m c=none):Kn m (aS m1 c x):=fun y hy=>by
 have ne:y≠c:=by rintro rfl;rw[hc]at hy;cases hy
 rw[bG ne];exact h y hy
theorem lY(k l:Bool):1<=(WS k l).length/\(WS k l).length<=13:=by cases k<;>cases l<;>decide
theorem B9:∀ ds m R,ds.length=lE.length->rT ds m R->sQ (EN R) (bA Cp ds) m:=by
 rintro ds m R hl ⟨k,l,rfl,h⟩;unfold sQ;simp only[aK,bN,vQ,aA,aC,bA];refine⟨_,rfl,[kd k,kd l],rfl,?_⟩
 cases k<;>cases l<;>exact h
theorem jT(k:Bool):1<=aW k/\aW k<=2:=by cases k<;>decide
theorem Mx{st:qY}{Q:List PyData->aU->Mu->Prop}{n:Nat}(J:Nat->List PyData->aU->Mu->Prop)(fin:∀ acc d m,J n acc d m->Q acc d m)
  (step:∀ i acc d m (K:List PyData->aU->Mu->Prop),i<n->J i acc d m->(∀ acc' d' m',J (i+1) acc' d' m'->K acc' d' m')->st (I (i:Int)) acc d m K):∀ acc d m,J 0 acc d m->cI st (dS 0 n) acc d m Q:=by
 have key:∀ (r i:Nat),r+i=n->∀ acc d m,J i acc d m->cI st ((dS 0 n).drop i) acc d m Q:=by
  intro r
  induction r with
  | zero =>
   intro i hi acc d m hj;have:i=n:=by omega
   subst this;rw[Oz];exact fin acc d m hj
  | succ r ih =>
   intro i hi acc d m hj;rw[Hm (by omega)]
   exact step i acc d m _ (by omega) hj fun acc' d' m' h'=>ih (i+1) (by omega) acc' d' m' h'
 intro acc d m h;have:=key n 0 (by omega) acc d m h
 simpa using this
theorem Bh{α:Type}(f:Nat->Nat->α){c:Nat}(hc:c<=2):∀ x:Nat,(((List.range x).map fun i=>(List.range c).map (f i)).flatten).length<=2*x
 | 0=>by simp
 | x+1=>by
  have ih:=Bh f hc x
  rw[List.range_succ,List.map_append,List.flatten_append,List.length_append];have e:(([x].map fun i=>(List.range c).map (f i)).flatten).length=c:=by simp
  rw[e];omega
theorem sJ{α β:Type}(f:α->β)(xs:List α)(lo hi:Option Int):cM (xs.map f) lo hi=(cM xs lo hi).map f:=by
 unfold cM;rw[List.length_map,List.map_take,List.map_drop]
theorem zF(l:Bool):dF lB (kd l)=some (.int (aW l)):=by cases l<;>rfl
theorem Cq(k l:Bool):∀ z∈WS k l,(WB k l z).length=aW k*aW l:=by cases k<;>cases l<;>decide +kernel
theorem wD(k:Bool):PyData.strOk (kd k)=true:=by cases k<;>decide +kernel
theorem To:∀ z∈hU,PyData.strOk z=true:=by decide +kernel
theorem cL{c:Bool}{a b:Prop}(e:c=true)(h:a):if c=true then a else b:=by rw[if_pos e];exact h
theorem bR{c:Bool}{a b:Prop}(e:c=false)(h:b):if c=true then a else b:=by rw[if_neg (by rw[e];decide)];exact h
theorem N6:∀ ds m R,ds.length=mB.length->oP ds m R->Ag (EN R) (bA Db ds) m:=by
 rintro ds m R hl ⟨k,l,z,x,y,rfl,hz,hx,hy,h⟩;have ck:=jT k
 have cl:=jT l
 have lz:=Cq k l z hz
 have lt:x*aW l+y<(WB k l z).length:=by
  rw[lz];have:(x+1)*aW l<=aW k*aW l:=Nat.mul_le_mul_right _ hx
  rw[Nat.add_mul]at this;omega
 refine⟨_,rfl,_,rfl,rfl,k,l,z,rfl,vN k l z hz,?_⟩;refine⟨_,rfl,_,rfl,_,Bl _ _ _,kd l,.int (aW l),rfl,zF l,xO (B6 (by omega) (by omega)),_,rfl,.int (bW k l x y z),?_,h⟩
 rw[show((x:Int)*(aW l:Int)+(y:Int))=((x*aW l+y:Nat):Int) by simp]
 refine Ig ?_;rw[List.getElem?_map,List.getElem?_eq_getElem lt];simp[bW,lt]
theorem G9:∀ k l:Bool,∀ z∈WS k l,∀ i∈WB k l z,i∈([0,1,-1]:List Int):=by intro k l;cases k<;>cases l<;>decide +kernel
theorem Di{k l:Bool}{x y:Nat}{z:Str}(hz:z∈WS k l)(hx:x<aW k)(hy:y<aW l):bW k l x y z∈([0,1,-1]:List Int):=by
 have lt:x*aW l+y<(WB k l z).length:=by
  rw[Cq k l z hz];have:(x+1)*aW l<=aW k*aW l:=Nat.mul_le_mul_right _ hx
  rw[Nat.add_mul]at this;omega
 refine G9 k l z hz _ ?_;simp[bW,lt]
theorem U8:∀ ds m R,ds.length=mE.length->pJ ds m R->yP (EN R) (bA zZ ds) m:=by
 rintro ds m R hl ⟨k,l,zs,x,y,rfl,hz,hx,hy,h⟩;refine⟨_,rfl,.inr ⟨_,rfl,?_⟩⟩;have key:∀ (todo:List Str) (acc:List Int) (o:Option D),(∀ z∈todo,z∈WS k l)->R (.dat (.tuple ((eG (todo.foldl (fun acc z=>cG acc (bW k l x y z)) acc)).map .int))) m ->
   fA (gN 0) cW (fun d m zs Q=>bB 4 oP (aB (aA 1) (aB (aA 0) (aB (aA 2) (aB (aA 3) aF)))) d m fun x m1=>∃ z,sL x z/\Q (cG zs z) m1) ((todo.map .str).map .dat) acc [o,some (.dat (bH k l)),some (I x),some (I y)] m fun zs m2=>R (.dat (.tuple ((eG zs).map .int))) m2:=by
  intro todo
  induction todo with
  | nil=>exact fun acc o _ h=>h
  | cons z todo ih =>
   intro acc o ha h;have hz:=ha z List.mem_cons_self
   refine⟨_,rfl,_,rfl,_,rfl,_,rfl,rfl,k,l,z,x,y,rfl,hz,hx,hy,bW k l x y z,⟨rfl,Di hz hx hy⟩,?_⟩;exact ih _ _ (fun w hw=>ha w (List.mem_cons_of_mem _ hw)) h
 have:=key zs [] none hz h
 exact this
theorem x3:∀ ds m R,ds.length=mC.length->pH ds m R->zT (EN R) (bA Bf ds) m:=by
 rintro ds m R hl ⟨s,rfl,h⟩;refine⟨_,rfl,_,rfl,s,rfl,_,rfl,?_⟩;unfold bM at h
 by_cases c:-1∈s
 ·refine cL (decide_eq_true c) ⟨_,rfl,s,rfl,_,rfl,?_⟩
  by_cases d:1∈s
  ·rw[if_pos ⟨c,d⟩]at h;exact cL (decide_eq_true d) ⟨_,rfl,_,rfl,sz (by decide),h⟩
  ·rw[if_neg fun q=>d q.2]at h;exact bR (decide_eq_false d) ⟨_,rfl,h⟩
 ·rw[if_neg fun q=>c q.1]at h;exact bR (decide_eq_false c) (bR rfl ⟨_,rfl,h⟩)
theorem Ud:∀ ds m R,ds.length=nD.length->rS ds m R->wT (EN R) (bA yY ds) m:=by
 rintro ds m R hl ⟨k,l,zs,rfl,hz,h⟩;have ck:=jT k
 have cl:=jT l
 have one:∀ (x y:Nat) (Q:DK),x<aW k->y<aW l->Q (.dat (.tuple ((bM (dG k l zs x y)).map .int))) m->bB 1 pH (aB (bB 4 pJ (aB (aA 2) (aB (aA 3) (aB (aA 0) (aB (aA 1) aF))))) aF)
   [some (I x),some (I y),some (.dat (bH k l)),some (.dat (.tuple (zs.map .str)))] m Q:=fun x y Q hx hy hq =>
  ⟨_,rfl,_,rfl,_,rfl,_,rfl,rfl,k,l,zs,x,y,rfl,hz,hx,hy,rfl,_,rfl,hq⟩
 refine⟨_,rfl,_,Xf _ _,kd k,.int (aW k),rfl,zF k,(aW k:Int),rfl,by omega,by omega,?_⟩
 show cI _ (dS 0 (aW k)) [] [none,none,some (.dat (bH k l)),some (.dat (.tuple (zs.map .str)))] m _
 refine Mx (n:=aW k) (fun i acc d m'=>m'=m/\acc=(((List.range i).map fun x=>(List.range (aW l)).map fun y=>bM (dG k l zs x y)).flatten).map (fun s=>PyData.tuple (s.map .int))/\∃ o0 o1,d=[o0,o1,some (.dat (bH k l)),some (.dat (.tuple (zs.map .str)))]) ?_ ?_ _ _ _ ⟨rfl,rfl,_,_,rfl⟩
 ·rintro acc d m' ⟨rfl,rfl,_⟩;exact h
 ·rintro x acc d m' K hx ⟨rfl,rfl,o0,o1,rfl⟩ hK;refine⟨_,rfl,_,Bl _ _ _,kd l,.int (aW l),rfl,zF l,(aW l:Int),rfl,by omega,by omega,?_⟩
  show cI _ (dS 0 (aW l)) _ [some (I x),o1,some (.dat (bH k l)),some (.dat (.tuple (zs.map .str)))] m' _
  refine Mx (n:=aW l) (fun j acc d m''=>m''=m'/\acc=((((List.range x).map fun x=>(List.range (aW l)).map fun y=>bM (dG k l zs x y)).flatten)++(List.range j).map fun y=>bM (dG k l zs x y)).map (fun s=>PyData.tuple (s.map .int))/\∃ o1,d=[some (I x),o1,some (.dat (bH k l)),some (.dat (.tuple (zs.map .str)))]) ?_ ?_ _ _ _ ⟨rfl,by simp,_,rfl⟩
  ·rintro acc d m'' ⟨rfl,rfl,o1,rfl⟩;refine hK _ _ _ ⟨rfl,?_,_,_,rfl⟩;rw[List.range_succ];simp
  ·rintro y acc d m'' K2 hy ⟨rfl,rfl,o1,rfl⟩ hK2;have al:((((List.range x).map fun x=>(List.range (aW l)).map fun y=>bM (dG k l zs x y)).flatten)++(List.range y).map fun y=>bM (dG k l zs x y)).length<=10:=by
    have q:=Bh (fun x y=>bM (dG k l zs x y)) cl.2 x
    rw[List.length_append,List.length_map,List.length_range];exact Nat.le_trans (Nat.add_le_add (show _<=2*x from q) (Nat.le_of_lt hy)) (by omega)
   refine one x y _ hx hy ⟨_,rfl,?_,hK2 _ _ _ ⟨rfl,?_,_,rfl⟩⟩
   ·rw[List.length_map];exact Nat.lt_of_lt_of_le (Nat.lt_of_le_of_lt al (by decide)) (sz (n:=11) (by decide))
   ·rw[List.range_succ];simp
theorem CM(k l:Bool)(zs:List Str):(eJ k l zs).length<=4:=by
 have q:=Bh (fun x y=>bM (dG k l zs x y)) (jT l).2 (aW k)
 have:=jT k
 exact Nat.le_trans (show(eJ k l zs).length<=2*aW k from q) (by omega)
theorem Pw{ws:List Int}{ss:List (List Int)}{m:Mu}{Q:List PyData->Mu->Prop}:∀ (ps:List (Int×List Int)) (acc:List Bool) (o0 o1:Option D),acc.length+ps.length<=100->Q ((acc++ps.map fun p=>decide (p.1∈p.2)).map .bool) m ->
  cJ (gT 2 (hV (gN 0) (hV (gN 1) nR))) cW (aN eA (aA 0) (aA 1)) (ps.map fun p=>.dat (.tuple [.int p.1,.tuple (p.2.map .int)])) (acc.map .bool) [o0,o1] m Q
 | [],acc,o0,o1,_,h=>by rw[List.map_nil,List.append_nil]at h;exact h
 | p::ps,acc,o0,o1,hl,h=>by
  refine⟨_,rfl,rfl,rfl,_,rfl,_,rfl,p.2,rfl,_,rfl,?_,?_⟩
  ·rw[List.length_map];exact Nat.lt_of_lt_of_le (by simp at hl;omega:acc.length<101) (sz (by decide))
  ·have:=Pw (ws:=ws) (ss:=ss) (m:=m) (Q:=Q) ps (acc++[decide (p.1∈p.2)]) (some (I p.1)) (some (.dat (.tuple (p.2.map .int)))) (by simp at hl ⊢;omega) (by simpa using h)
   rw[List.map_append]at this;exact this
theorem O8:∀ ds m R,ds.length=gO.length->jH ds m R->zO (EN R) (bA Ci ds) m:=by
 rintro ds m R hl ⟨k,l,zs,rfl,hz,h⟩;refine⟨_,rfl,_,rfl,rfl,k,l,zs,rfl,hz,?_⟩;refine⟨_,rfl,rfl,k,l,rfl,.inr ⟨_,rfl,?_⟩⟩;have key:∀ (done todo:List Str) (o:Option D),done++todo=WS k l->cJ (gN 0) (bJ (bS rB (aB (dU [none,none] (uB (bB 2 jZ (aB (aA 1) (aB (aA 0) aF))) (aA 2)) (gT 2 (hV (gN 0) (hV (gN 1) nR))) cW (aN eA (aA 0) (aA 1))) aF))) (aA 0) ((todo.map .str).map .dat)
   ((done.filter fun z=>((WB k l z).zip (eJ k l zs)).all fun p=>decide (p.1∈p.2)).map .str) [o,some (.dat (bH k l)),some (.dat (.list ((eJ k l zs).map fun s=>.tuple (s.map .int))))] m fun ps m2=>R (.dat (.tuple ps)) m2:=by
  intro done todo
  induction todo generalizing done with
  | nil =>
   intro o e;rw[List.append_nil]at e;subst e;exact h
  | cons z todo ih =>
   intro o e;have hzw:z∈WS k l:=by rw[<- e];simp
   refine⟨_,rfl,_,rfl,rfl,k,l,z,rfl,vN k l z hzw,_,rfl,(WB k l z).map .int,(eJ k l zs).map fun s=>.tuple (s.map .int),rfl,rfl,?_⟩;have ez:((((WB k l z).map PyData.int).zip ((eJ k l zs).map fun s=>PyData.tuple (s.map .int))).map fun q=>D.dat (.tuple [q.1,q.2]))=((WB k l z).zip (eJ k l zs)).map fun p=>.dat (.tuple [.int p.1,.tuple (p.2.map .int)]):=by
    rw[List.zip_map,List.map_map];rfl
   rw[ez];refine Pw (ws:=[]) (ss:=[]) _ [] _ _ ?_ ?_
   ·have:=CM k l zs
    simp[List.length_zip];omega
   refine⟨((WB k l z).zip (eJ k l zs)).map fun p=>decide (p.1∈p.2),rfl,_,rfl,?_⟩;have e2:(done++[z])++todo=WS k l:=by rw[<- e];simp
   have e3:(((WB k l z).zip (eJ k l zs)).map fun p=>decide (p.1∈p.2)).all id=((WB k l z).zip (eJ k l zs)).all fun p=>decide (p.1∈p.2):=by rw[List.all_map];rfl
   have n13:∀ pr:Str->Bool,(done.filter pr).length<=13:=fun pr=>by
    have:=(lY k l).2
    rw[<- e]at this;simp at this;exact Nat.le_trans (List.length_filter_le _ _) (by omega)
   have I2:=ih (done++[z]) (some (.dat (.str z))) e2
   rw[List.filter_append]at I2
   by_cases c:(((WB k l z).zip (eJ k l zs)).all fun p=>decide (p.1∈p.2))=true
   ·refine cL (e3.trans c) ⟨_,rfl,_,rfl,?_,?_⟩
    ·rw[List.length_map];exact Nat.lt_of_le_of_lt (n13 _) (Nat.lt_of_lt_of_le (by decide:13<100) (sz (by decide)))
    ·rw[List.filter_cons_of_pos (by exact c),List.filter_nil,List.map_append]at I2
     exact I2
   ·refine bR (e3.trans (by simpa using c)) ?_
    rw[List.filter_cons_of_neg (by exact c),List.filter_nil,List.append_nil]at I2
    exact I2
 exact key [] (WS k l) none rfl
theorem Fd(k l:Bool):∀ z∈WS k l,PyData.strOk z=true:=fun z hz=>To z (vN k l z hz)
theorem Fk{zs:List Str}(h:∀ z∈zs,PyData.strOk z=true):PyData.canLayAll0 (zs.map .str)=true:=by
 induction zs with
 | nil=>simp[PyData.canLayAll0]
 | cons z zs ih =>
  simp only[List.map_cons,PyData.canLayAll0,PyData.canLay0,h z List.mem_cons_self,ih fun y hy=>h y (List.mem_cons_of_mem _ hy),Bool.and_self]
theorem sX:∀ zs:List Str,PyData.depthAll (zs.map .str)<=1
 | []=>by simp[PyData.depthAll]
 | z::zs=>by
  have:=sX zs
  simp only[List.map_cons,PyData.depthAll,PyData.depth];omega
theorem uZ:∀ xs ys:List Str,PyData.eqvAll (xs.map .str) (ys.map .str)=decide (xs=ys)
 | [],[]=>by simp[PyData.eqvAll]
 | [],_::_=>by simp[PyData.eqvAll]
 | _::_,[]=>by simp[PyData.eqvAll]
 | x::xs,y::ys=>by
  rw[Bool.eq_iff_iff];simp[PyData.eqvAll,PyData.eqv,uZ xs ys]
theorem Ve:∀ ds m R,ds.length=mV.length->qB ds m R->wU (EN R) (bA Am ds) m:=by
 rintro ds m R hl ⟨k,l,zs,rfl,hz,h⟩;refine⟨_,rfl,_,rfl,rfl,k,l,zs,rfl,hz,_,rfl,?_⟩;refine⟨Fk fun z q=>Fd k l z (List.mem_filter.mp q).1,Fk fun z q=>Fd k l z (hz z q),?_,?_⟩
 ·have:=sX (PA k l zs)
  simp only[PyData.depth];omega
 ·have e:PyData.eqv (.tuple ((PA k l zs).map .str)) (.tuple (zs.map .str))=decide (PA k l zs=zs):=by
   rw[<- uZ];simp[PyData.eqv]
  rw[e];exact h
section
variable {ns:List PyData}{i j t:Int}
theorem tE:dF (FD ns i j t) (.inr "cells")=some (.list ns):=rfl
theorem w6:dF (FD ns i j t) (.inr "at")=some (.int i):=rfl
theorem xT:dF (FD ns i j t) (.inr "left")=some (.int j):=rfl
theorem Ef:dF (FD ns i j t) (.inr "turn")=some (.int t):=rfl
theorem Hh{x:Int}:fN (FD ns i j t) (.inr "left") (.int x)=FD ns i x t:=rfl
end
theorem z4:4<sizeLine:=Nat.lt_of_lt_of_le (by decide:4<100) (sz (by decide))
theorem G0:∀ ds m R,ds.length=mL.length->rG ds m R->vG (EN R) (bA Eb ds) m:=by
 rintro ds m R hl ⟨ns,rfl,hn,h⟩;simp[vG];intro p hp;refine⟨aZ,h p _ ⟨cM ns none (some 63),0,0,0,?_,by decide,by decide⟩⟩
 rw[aZ,sJ];rfl
theorem Im{n:Int}(h0:0<n)(h1:n<=1000):n.natAbs.log2<9000:=by
 have:n.natAbs<2^10:=by omega
 exact Nat.lt_of_le_of_lt (Nat.log2_le_self _) (by omega)
theorem Tn:∀ ds m R,ds.length=gC.length->dH ds m R->Dg (EN R) (bA Dd ds) m:=by
 rintro ds m R hl ⟨a,n,L,rfl,n0,n1,hL,⟨ns,i,j,t,hm,t0,t1⟩,h⟩;have fin:∀ (r:Int) m' (ns':List Int) i' j',0<=r->r<n->m' a=some (.d (FD (ns'.map .int) i' j' (t+1)))->(∀ c,c≠a->m' c=m c)->R (I r) m':=fun r m' ns' i' j' r0 r1 e k =>
  h r m' r0 r1 ⟨⟨ns',i',j',t+1,e,by omega,by omega⟩,fun c hc _=>k c hc⟩
 have nz:n≠0:=by omega
 have m0:∀ x:Int,0<=x.fmod n/\x.fmod n<n:=fun x=>⟨Int.fmod_nonneg_of_pos _ n0,Int.fmod_lt_of_pos _ n0⟩
 refine⟨_,rfl,a,.inr "turn",_,_,rfl,rfl,hm,Ef,_,rfl,a,.inr "turn",_,_,rfl,rfl,rfl,hm,z4,?_⟩;obtain⟨m1,em1⟩:∃ m1,m1=aS m a (.d (FD (ns.map .int) i j (t+1))):=⟨_,rfl⟩;have hm1:m1 a=some (.d (FD (ns.map .int) i j (t+1))):=by rw[em1,aZ]
 have k1:∀ c,c≠a->m1 c=m c:=fun c hc=>by rw[em1,bG hc]
 show Mb (EN R) [some (.cel a),some (I n),none,none,none,none] (aS m a (.d (FD (ns.map .int) i j (t+1))))
 rw[<- em1];refine⟨_,rfl,a,.inr "left",_,_,rfl,rfl,hm1,xT,_,rfl,nz,?_⟩;refine⟨_,rfl,a,.inr "left",_,_,rfl,rfl,hm1,xT,_,rfl,?_⟩
 by_cases hj:0<j
 ·refine cL (decide_eq_true hj) ?_;refine⟨_,rfl,a,.inr "left",_,_,rfl,rfl,hm1,xT,_,rfl,nz,Im n0 n1,_,rfl,a,.inr "left",_,_,rfl,rfl,rfl,hm1,z4,_,rfl,?_⟩;exact fin _ _ ns i _ (m0 _).1 (m0 _).2 (by rw[aZ,Hh]) fun c hc=>by rw[bG hc];exact k1 c hc
 ·refine bR (decide_eq_false hj) ?_;refine⟨_,rfl,a,.inr "at",_,_,rfl,rfl,hm1,w6,?_⟩;refine⟨_,rfl,_,rfl,a,.inr "at",_,_,rfl,rfl,rfl,hm1,z4,?_⟩;obtain⟨m2,em2⟩:∃ m2,m2=aS m1 a (.d (FD (ns.map .int) (i+1) j (t+1))):=⟨_,rfl⟩;have hm2:m2 a=some (.d (FD (ns.map .int) (i+1) j (t+1))):=by rw[em2,aZ]
  have k2:∀ c,c≠a->m2 c=m c:=fun c hc=>by rw[em2,bG hc];exact k1 c hc
  have rest:∀ v:Int,Ls (EN R) [some (.cel a),some (I n),some (I (j.fmod n)),some (I i),some (I v),none] m2:=fun v=>by
   have last:Ks (EN R) [some (.cel a),some (I n),some (I (j.fmod n)),some (I i),some (I v),none] m2:=by
    refine⟨_,rfl,by decide,_,rfl,a,.inr "turn",_,_,rfl,rfl,hm2,Ef,?_⟩
    refine⟨xO sH,Ki sH,by decide,?_⟩
    refine⟨_,rfl,by decide,by decide,_,rfl,a,.inr "turn",_,_,rfl,rfl,hm2,Ef,xO sH,Ki sH,by decide,?_⟩
    refine⟨_,rfl,by decide,by decide,_,rfl,nz,?_⟩
    exact fin _ m2 ns _ _ (m0 _).1 (m0 _).2 hm2 k2
   refine⟨_,rfl,⟨by decide,by decide,by decide⟩,_,rfl,?_⟩
   by_cases c:(10:Int)^(18:Int).toNat<=v
   ·refine cL (decide_eq_true c) ⟨_,rfl,_,rfl,a,.inr "cells",_,_,rfl,rfl,hm2,tE,_,rfl,?_⟩
    by_cases d:i<(((ns.map PyData.int).length:Nat):Int)
    ·refine cL (decide_eq_true d) ⟨_,rfl,_,rfl,nz,Im n0 n1,_,rfl,a,.inr "left",_,_,rfl,rfl,rfl,hm2,z4,_,rfl,_,rfl,nz,?_⟩;exact fin _ _ ns _ _ (m0 _).1 (m0 _).2 (by rw[aZ,Hh]) fun c hc=>by rw[bG hc];exact k2 c hc
    ·exact bR (decide_eq_false d) last
   ·exact bR (decide_eq_false c) (bR rfl last)
  show Nq (EN R) [some (.cel a),some (I n),some (I (j.fmod n)),some (I i),none,none] (aS m1 a (.d (FD (ns.map .int) (i+1) j (t+1))))
  rw[<- em2];have cl:(PyData.list (ns.map .int)).canLay0=true:=(Fx ns).1
  have cd:(PyData.list (ns.map .int)).depth<=100:=by
   have:=(Fx ns).2
   simp only[PyData.depth];omega
  refine⟨_,rfl,a,.inr "cells",_,_,rfl,rfl,hm2,tE,_,rfl,Nat.zero_le _,cl,rfl,cd,_,rfl,?_⟩
  by_cases en:ns=[]
  ·subst en;exact bR rfl (rest 0)
  ·have ne:PyData.eqv (.list (ns.map .int)) (.list [])=false:=by
    cases ns with
    | nil=>exact absurd rfl en
    | cons x xs=>simp[PyData.eqv,PyData.eqvAll]
   have lp:0<(((ns.map PyData.int).length:Nat):Int):=by
    rw[List.length_map];have:=List.length_pos_iff.mpr en
    omega
   refine cL (by rw[ne];rfl) ?_
   obtain⟨p,ep,v,rfl⟩:=Jh (xs:=ns.map PyData.int) (P:=fun p=>∃ v:Int,p=.int v) (r:=i.fmod ((ns.map PyData.int).length:Int)) (fun p hp=>by obtain⟨v,_,e⟩:=List.mem_map.mp hp;exact⟨v,e.symm⟩) (Int.fmod_nonneg_of_pos _ lp) (Int.fmod_lt_of_pos _ lp)
   exact⟨_,rfl,a,.inr "cells",_,_,rfl,rfl,hm2,tE,_,rfl,_,rfl,a,.inr "cells",_,_,rfl,rfl,hm2,tE,(by omega),_,ep,rest v⟩
theorem uO{k l:Bool}{zs:List Str}{z:Str}(hz:z∈WS k l):(((WB k l z).zip (eJ k l zs)).all fun p=>decide (p.1∈p.2))=true ↔ ∀ x y:Nat,x<aW k->y<aW l->bW k l x y z∈bM (dG k l zs x y):=by
 have len:=Cq k l z hz
 have wy:∀ x y,bW k l x y z=(WB k l z).getD (x*aW l+y) 0:=fun _ _=>rfl
 simp only[wy];unfold eJ
 generalize dG k l zs=S
 generalize WB k l z=W at len ⊢
 cases k<;>cases l
 ·match W,len with
  | [a],_ =>
   constructor
   ·intro h x y hx hy;obtain rfl:x=0:=by simp[aW]at hx;omega
    obtain rfl:y=0:=by simp[aW]at hy;omega
    simpa[aW,List.range_succ] using h
   ·intro h;simpa[aW,List.range_succ] using h 0 0 (by decide) (by decide)
 ·match W,len with
  | [a,b],_ =>
   constructor
   ·intro h x y hx hy;have h:a∈bM (S 0 0)/\b∈bM (S 0 1):=by simpa[aW,List.range_succ] using h
    obtain rfl:x=0:=by simp[aW]at hx;omega
    have:y=0\/y=1:=by simp[aW]at hy;omega
    rcases this with rfl | rfl
    ·exact h.1
    ·exact h.2
   ·intro h;have h0:=h 0 0 (by decide) (by decide)
    have h1:=h 0 1 (by decide) (by decide)
    have h0:a∈bM (S 0 0):=h0
    have h1:b∈bM (S 0 1):=h1
    simp[aW,List.range_succ,h0,h1]
 ·match W,len with
  | [a,b],_ =>
   constructor
   ·intro h x y hx hy;have h:a∈bM (S 0 0)/\b∈bM (S 1 0):=by simpa[aW,List.range_succ] using h
    obtain rfl:y=0:=by simp[aW]at hy;omega
    have:x=0\/x=1:=by simp[aW]at hx;omega
    rcases this with rfl | rfl
    ·exact h.1
    ·exact h.2
   ·intro h;have h0:a∈bM (S 0 0):=h 0 0 (by decide) (by decide)
    have h1:b∈bM (S 1 0):=h 1 0 (by decide) (by decide)
    simp[aW,List.range_succ,h0,h1]
 ·match W,len with
  | [a,b,c,d],_ =>
   constructor
   ·intro h x y hx hy;have h:a∈bM (S 0 0)/\b∈bM (S 0 1)/\c∈bM (S 1 0)/\d∈bM (S 1 1):=by simpa[aW,List.range_succ] using h
    have e1:y=0\/y=1:=by simp[aW]at hy;omega
    have e2:x=0\/x=1:=by simp[aW]at hx;omega
    rcases e1 with rfl | rfl<;>rcases e2 with rfl | rfl
    ·exact h.1
    ·exact h.2.2.1
    ·exact h.2.1
    ·exact h.2.2.2
   ·intro h;have h0:a∈bM (S 0 0):=h 0 0 (by decide) (by decide)
    have h1:b∈bM (S 0 1):=h 0 1 (by decide) (by decide)
    have h2:c∈bM (S 1 0):=h 1 0 (by decide) (by decide)
    have h3:d∈bM (S 1 1):=h 1 1 (by decide) (by decide)
    simp[aW,List.range_succ,h0,h1,h2,h3]
theorem Nx{k l:Bool}{zs:List Str}{z:Str}:z∈PA k l zs↔z∈WS k l/\∀ x y:Nat,x<aW k->y<aW l->bW k l x y z∈bM (dG k l zs x y):=by
 unfold PA;rw[List.mem_filter]
 constructor
 ·rintro⟨a,b⟩;exact⟨a,(uO a).mp b⟩
 ·rintro⟨a,b⟩;exact⟨a,(uO a).mpr b⟩
theorem Ir{s:List Int}{a:Int}:a∈eG s↔a∈([-1,0,1]:List Int)/\a∈s:=by
 unfold eG;rw[List.mem_filter,decide_eq_true_iff]
theorem b6{s:List Int}{a b:Int}:a∈cG s b↔a∈([0,1,-1]:List Int)/\(a∈s\/a=b):=by
 unfold cG;rw[List.mem_filter,decide_eq_true_iff]
theorem Fs{f:Str->Int}{a:Int}(ha:a∈([0,1,-1]:List Int)):∀ (zs:List Str) (s:List Int),a∈zs.foldl (fun acc z=>cG acc (f z)) s↔a∈s\/∃ z∈zs,f z=a
 | [],s=>by simp
 | z::zs,s=>by
  rw[List.foldl_cons,Fs ha zs,b6]
  constructor
  ·rintro (⟨_,h | h⟩ | ⟨w,h1,h2⟩)
   ·exact .inl h
   ·exact .inr ⟨z,List.mem_cons_self,h.symm⟩
   ·exact .inr ⟨w,List.mem_cons_of_mem _ h1,h2⟩
  ·rintro (h | ⟨w,h1,h2⟩)
   ·exact .inl ⟨ha,.inl h⟩
   ·rcases List.mem_cons.mp h1 with rfl | h1
    ·exact .inl ⟨ha,.inr h2.symm⟩
    ·exact .inr ⟨w,h1,h2⟩
theorem jY{k l:Bool}{zs:List Str}{x y:Nat}{a:Int}(hz:∀ z∈zs,z∈WS k l)(hx:x<aW k)(hy:y<aW l):a∈dG k l zs x y ↔ ∃ z∈zs,bW k l x y z=a:=by
 unfold dG;rw[Ir]
 constructor
 ·rintro⟨h1,h2⟩;have ha:a∈([0,1,-1]:List Int):=by simp at h1 ⊢;omega
  rcases (Fs ha zs []).mp h2 with h | h
  ·cases h
  ·exact h
 ·rintro⟨z,h1,rfl⟩;have ha:=Di (hz z h1) hx hy
  exact⟨by simp at ha ⊢;omega,(Fs ha zs []).mpr (.inr ⟨z,h1,rfl⟩)⟩
theorem tG{s:List Int}{a:Int}(h:a∈s)(h3:∀ a∈s,a∈([-1,0,1]:List Int)):a∈bM s:=by
 unfold bM
 split
 ·exact h3 a h
 ·exact h
theorem P3{s t:List Int}(h:∀ a∈s,a∈bM t):∀ a∈bM s,a∈bM t:=by
 intro a ha;unfold bM at ha
 split at ha
 ·rename_i c;have h1:=h _ c.1
  have h2:=h _ c.2
  unfold bM at h1 h2 ⊢
  split
  ·exact ha
  ·rename_i d;rw[if_neg d]at h1 h2;exact absurd ⟨h1,h2⟩ d
 ·exact h a ha
theorem vX{k l:Bool}{zs:List Str}{x y:Nat}:∀ a∈dG k l zs x y,a∈([-1,0,1]:List Int):=fun a h=>(Ir.mp h).1
theorem Qm{k l:Bool}{zs:List Str}(hs:∃ pr:Str->Bool,zs=(WS k l).filter pr)(B:Nat->Nat->List Int)(h:∀ z∈WS k l,z∈zs ↔ ∀ x y:Nat,x<aW k->y<aW l->bW k l x y z∈bM (B x y)):Pl k l zs:=by
 obtain⟨pr,rfl⟩:=hs;have sub:∀ z∈(WS k l).filter pr,z∈WS k l:=fun z hz=>(List.mem_filter.mp hz).1
 refine⟨sub,?_⟩;unfold PA;refine List.filter_congr fun z hz=>?_;rw[Bool.eq_iff_iff,uO hz]
 constructor
 ·intro q;refine(List.mem_filter.mp ((h z hz).mpr fun x y hx hy=>?_)).2;refine P3 (s:=dG k l ((WS k l).filter pr) x y) (fun a ha=>?_) _ (q x y hx hy);obtain⟨w,hw,rfl⟩:=(jY sub hx hy).mp ha;exact(h w (sub w hw)).mp hw x y hx hy
 ·intro q x y hx hy;exact tG ((jY sub hx hy).mpr ⟨z,List.mem_filter.mpr ⟨hz,q⟩,rfl⟩) vX
theorem Io{k l:Bool}{zs:List Str}:Pl k l (PA k l zs):=Qm ⟨_,rfl⟩ (fun x y=>dG k l zs x y) fun z hz=>by rw[Nx];exact⟨fun h=>h.2,fun h=>⟨hz,h⟩⟩
theorem Pl.filt{k l:Bool}{zs:List Str}(h:Pl k l zs):∃ pr:Str->Bool,zs=(WS k l).filter pr:=⟨_,h.2.symm⟩
theorem Fed.next{b n:Int}{m m1 m2:Mu}{a:Addr}(h:Fed b n m m1 a)(q:Fed 1 (n+b) m1 m2 a):Fed (b+1) n m m2 a:=by
 refine⟨by have:=q.1;rwa [Int.add_assoc]at this,fun c hc hs=>?_⟩
 have e:=h.2 c hc hs
 rw[q.2 c hc (by rw[e];exact hs),e]
theorem Fed.refl{n:Int}{m:Mu}{a:Addr}(h:Tp n m a):Fed 0 n m m a:=⟨by simpa using h,fun _ _ _=>rfl⟩
theorem Fed.mono{b c n:Int}{m m1:Mu}{a:Addr}(h:Fed b n m m1 a)(hb:b<=c):Fed c n m m1 a:=by
 obtain⟨⟨ns,i,j,t,e,t0,t1⟩,k⟩:=h;exact⟨⟨ns,i,j,t,e,t0,by omega⟩,k⟩
theorem iC{a:Addr}{n b L:Int}{m0 m:Mu}{R:DK}(h0:0<n)(hb:n<=1000)(hL:L<=9000000)(hbb:b<=100000)(hf:Fed b L m0 m a)(h:∀ r m',0<=r->r<n->Fed (b+1) L m0 m' a->R (I r) m'):dH [.cel a,I n] m R :=
 ⟨a,n,L+b,rfl,h0,hb,by omega,hf.1,fun r m' r0 r1 q=>h r m' r0 r1 (hf.next q)⟩
theorem Y2:∀ ds m R,ds.length=lX.length->sA ds m R->Ea (EN R) (bA Eg ds) m:=by
 rintro ds m R hl ⟨rfl,h⟩;exact⟨_,rfl,sz (n:=7) (by decide),_,rfl,_,rfl,sz (n:=6) (by decide),sz (n:=13) (by decide),h⟩
theorem sM(a b:Str)(ha:PyData.strOk a=true)(hb:PyData.strOk b=true):gZ (.dat (.tuple [.str a,.str b]))=some [.str a,.str b]:=by
 simp[L2.isKs,L2.isK,ha,hb,PyData.depthAll,PyData.depth]
theorem wv(k l:Bool)(x y z:D):cQ (fO (fO [([PyData.str "point",.str "point"],x)] [.str "point",.str "stretch"] y) [.str "stretch",.str "point"] z) [.str (kd k),.str (kd l)]=match k,l with
  | false,false=>some x
  | false,true=>some y
  | true,false=>some z
  | true,true=>none:=by
 have n1:("point" : Str)≠"stretch":=by decide
 have n2:("stretch" : Str)≠"point":=by decide
 rw[Hr,Hr]
 cases k<;>cases l<;>simp[kd,n1,n2,cQ]
theorem Xa:∀ ds m R,ds.length=fD.length->gF ds m R->xE (EN R) (bA Ay ds) m:=by
 rintro ds m R hl ⟨k,l,rfl,h⟩;intro c hc;refine⟨_,rfl,sz (n:=2) (by decide),[.str "point",.str "point"],sM _ _ tY tY,_,rfl,sz (n:=3) (by decide),aZ,?_⟩
 refine⟨_,rfl,sz (n:=5) (by decide),_,rfl,_,rfl,sz (n:=2) (by decide),c,[.str "point",.str "stretch"],_,rfl,sM _ _ tY Kw,aZ,Nat.lt_of_lt_of_le (show 1<100 by decide) (sz (by decide)),?_⟩
 refine⟨_,rfl,sz (n:=5) (by decide),_,rfl,_,rfl,sz (n:=2) (by decide),c,[.str "stretch",.str "point"],_,rfl,sM _ _ Kw tY,aZ,?_,?_⟩
 ·exact Nat.lt_of_lt_of_le (Nat.lt_of_le_of_lt (Wk _ _ _) (show 1+1<100 by decide)) (sz (by decide))
 refine⟨_,rfl,c,rfl,⟨_,aZ⟩,_,rfl,[.str (kd k),.str (kd l)],sM _ _ (wD k) (wD l),rfl,rfl,_,aZ,?_⟩;rw[wv]
 cases k<;>cases l<;>first | exact⟨(fun b e=>nomatch e),h _ ((((Kn.refl.new hc).new hc).new hc).new hc)⟩ | exact h _ ((((Kn.refl.new hc).new hc).new hc).new hc)
theorem vM{a b:Int}{x:Nat}(hx:x<2):cS [PyData.int a,.int b] (x:Int)=some (.int (pk (a,b) x)):=by
 obtain rfl | rfl:x=0\/x=1:=by omega
 ·rfl
 ·rfl
theorem sN{E:Ends2}{a b c d:Int}{p:Addr}{x y:Nat}{m:Mu}{kvs:List (List aH×PyData)}(hx:x<2)(hy:y<2)(hm:m p=some (.t kvs))(hl:kvs.length<=10)
  (h:E.nx [some (.dat (.tuple [.int a,.int b])),some (.dat (.tuple [.int c,.int d])),some (.cel p),some (I x),some (I y)] (aS m p (.t (fN kvs [.inl (x:Int),.inl (y:Int)] (.int (sg (pk (a,b) x) (pk (c,d) y))))))) :
  Ko E [some (.dat (.tuple [.int a,.int b])),some (.dat (.tuple [.int c,.int d])),some (.cel p),some (I x),some (I y)] m:=by
 refine⟨_,rfl,_,rfl,_,vM hx,_,rfl,_,rfl,_,vM hy,_,rfl,_,rfl,_,vM hx,_,rfl,_,rfl,_,vM hy,_,rfl,_,rfl,_,rfl,p,[.inl x,.inl y],kvs,_,rfl,rfl,rfl,hm,?_,sz (n:=2) (by decide),?_⟩
 ·exact Nat.lt_of_lt_of_le (Nat.lt_of_le_of_lt hl (by decide)) (sz (n:=11) (by decide))
 ·unfold sg at h;simpa using h
theorem fB{m m':Mu}{a:Addr}(k:Kn m m')(h:m' a=none):m a=none:=by
 cases e:m a with
 | none=>rfl
 | some x=>have:=k a (by rw[e];rfl);rw[h,e]at this;cases this
theorem E2:∀ ds m R,ds.length=mN.length->pA ds m R->Eh (EN R) (bA Ep ds) m:=by
 rintro ds m R hl ⟨a,b,c,d,rfl,h⟩;intro p hp;refine⟨2,rfl,by decide,by decide,?_⟩
 refine⟨2,rfl,by decide,by decide,?_⟩
 refine sN (x:=0) (y:=0) (kvs:=[]) (by decide) (by decide) aZ (by decide) ?_
 refine sN (x:=0) (y:=1) (by decide) (by decide) aZ ?_ ?_
 ·exact Nat.le_trans (Nat.le_of_eq rfl) (show 1<=10 by decide)
 refine⟨2,rfl,by decide,by decide,?_⟩
 refine sN (x:=1) (y:=0) (by decide) (by decide) aZ ?_ ?_
 ·exact Nat.le_trans (Nat.le_of_eq rfl) (show 2<=10 by decide)
 refine sN (x:=1) (y:=1) (by decide) (by decide) aZ ?_ ?_
 ·exact Nat.le_trans (Nat.le_of_eq rfl) (show 3<=10 by decide)
 exact⟨_,rfl,h p _ hp (((((Kn.refl.new hp).new hp).new hp).new hp).new hp) aZ⟩
theorem lF{d:aU}:∀ (xs:List (Str×Int×Int)) {m:Mu} {Q:List (aH×PyData)->Mu->Prop},Q (xs.map fun x=>(.inr x.1,.tuple [.int x.2.1,.int x.2.2])) m->tZ (xs.map fun x=>(aC (.str x.1),bC (aB (aC (.int x.2.1)) (aB (aC (.int x.2.2)) aF)))) d m Q
 | [],_,_,h=>h
 | x::xs,m,Q,h=>⟨_,rfl,_,rfl,sz (n:=2) (by decide),_,rfl,lF xs h⟩
theorem rR{d:aU}{m:Mu}{Q:Bool->Mu->Prop}{k l:Bool}(k' l':Bool)(h0:d[0]?=some (some (.dat (bH k l))))(h:Q (decide (k=k'/\l=l')) m):bJ (aN cK (aA 0) (bC (aB (aC (.str (kd k'))) (aB (aC (.str (kd l'))) aF)))) d m Q:=by
 have e:PyData.eqv (bH k l) (bH k' l')=decide (k=k'/\l=l'):=by
  have n1:("point" : Str)≠"stretch":=by decide
  have n2:("stretch" : Str)≠"point":=by decide
  cases k<;>cases l<;>cases k'<;>cases l'<;>simp[kd,PyData.eqv,PyData.eqvAll,n1,n2]
 refine⟨_,h0,_,rfl,sz (n:=2) (by decide),?_,?_,?_,_,rfl,?_⟩
 ·simp[PyData.canLay0,PyData.canLayAll0,wD]
 ·simp[PyData.canLay0,PyData.canLayAll0,wD]
 ·simp[PyData.depth,PyData.depthAll]
 ·rw[e];exact h
abbrev LP(k l:Bool):List (aH×PyData):=(dL k l).map fun x=>(.inr x.1,.tuple [.int x.2.1,.int x.2.2])
abbrev LT(k l:Bool)(x:Str×Int×Int):PyData:=.tuple [.str x.1,cZ (SF x.2.1 x.2.2 (oth l).1 (oth l).2)]
theorem Xb(k l:Bool):∀ x∈dL k l,dF (LP k l) (.inr x.1)=some (.tuple [.int x.2.1,.int x.2.2]):=by
 intro x hx
 cases k<;>cases l<;>simp only[dL,List.mem_cons,List.not_mem_nil,or_false]at hx<;>rcases hx with rfl | rfl | rfl | rfl | rfl | rfl | rfl | rfl | rfl | rfl | rfl | rfl | rfl<;>rfl
theorem Kp(k l:Bool):(dL k l).length<=13:=by cases k<;>cases l<;>decide
theorem Ni{m:Mu}{a b:Addr}(h:b≠a):bY m a b=m b:=by unfold bY;rw[if_neg h]
theorem Kn.off{m m':Mu}{a:Addr}(k:Kn m m')(h:m a=none):Kn m (bY m' a):=fun c hc=>by
 rw[Ni (by rintro rfl;rw[h]at hc;cases hc)]
 exact k c hc
theorem Ou{k l:Bool}{q:Addr}{m0:Mu}{Q:List PyData->Mu->Prop}(fin:∀ m',Kn m0 m'->Q ((dL k l).map (LT k l)) m'):∀ (todo done:List (Str×Int×Int)) (o:Option D) (m:Mu),done++todo=dL k l->m0 q=some (.fd (LP k l))->Kn m0 m ->
  cJ (gN 0) cW (bC (aB (aA 0) (aB (sE (bB 2 pA (aB (uW (aA 2) (aA 0)) (aB (aA 1) aF)))) aF))) (todo.map fun x=>.dat (.str x.1)) (done.map (LT k l)) [o,some (.dat (.tuple [.int (oth l).1,.int (oth l).2])),some (.cel q)] m Q
 | [],done,o,m,e,hq,kn=>by
  rw[List.append_nil]at e;subst e;exact fin m kn
 | x::todo,done,o,m,e,hq,kn=>by
  have hx:x∈dL k l:=by rw[<- e];simp
  have ld:done.length<=13:=by
   have:=Kp k l
   rw[<- e,List.length_append]at this;omega
  refine⟨_,rfl,_,rfl,_,rfl,q,.inr x.1,_,_,rfl,rfl,(by rw[kn q (by rw[hq];rfl),hq]),Xb k l x hx,_,rfl,rfl,_,_,_,_,rfl,fun p m' hp k2 hm=>?_⟩
  refine⟨p,_,_,rfl,hp,hm,rfl,_,rfl,sz (n:=2) (by decide),_,rfl,?_,?_⟩
  ·rw[List.length_map];exact Nat.lt_of_lt_of_le (by omega:done.length<100) (sz (by decide))
  ·have:=Ou fin todo (done++[x]) (some (.dat (.str x.1))) (bY m' p) (by rw[<- e];simp) hq ((kn.trans k2).off (fB kn hp))
   rw[List.map_append]at this;exact this
theorem Ws(k l:Bool):eZ [] (LY k l)=LY k l:=by cases k<;>cases l<;>rfl
theorem Dz{k l:Bool}{q:Addr}{m0 m:Mu}{R:DK}(kn:Kn m0 m)(hq:m0 q=none)(hm:m q=some (.d (LP k l)))(h:∀ (p:Addr) m',m0 p=none->Kn m0 m'->m' p=some (.d (LY k l))->R (.cel p) m') :
  Nb (EN R) [some (.dat (bH k l)),some (.dat (.tuple [.int (oth l).1,.int (oth l).2])),some (.cel q)] m:=by
 refine⟨_,rfl,q,LP k l,rfl,.inl ⟨hm,?_⟩⟩;have e:((LP k l).map fun kv=>D.dat (bO kv.1))=(dL k l).map fun x=>.dat (.str x.1):=by rw[List.map_map];rfl
 rw[e];refine Ou (k:=k) (l:=l) (q:=q) (m0:=aS m q (.fd (LP k l))) (fun m' k2=>?_) (dL k l) [] none _ rfl aZ Kn.refl;refine⟨LY k l,?_,?_,fun p hp=>?_⟩
 ·unfold LY;rw[List.map_map];rfl
 ·unfold LY;rw[List.length_map];exact sz (Nat.le_trans (Kp k l) (by decide))
 ·have k3:Kn m0 m':=fun c hc=>by
   have ne:c≠q:=by rintro rfl;rw[hq]at hc;cases hc
   have e1:=kn c hc
   have e2:=k2 c (by rw[bG ne,e1];exact hc)
   rw[e2,bG ne,e1]
  have p0:=fB k3 hp
  rw[Ws];exact h p _ p0 (k3.new p0) aZ
abbrev LO(l:Bool):PyData:=.tuple [.int (oth l).1,.int (oth l).2]
theorem Lh{m:Mu}{p b:Addr}{x y z:Cel}(h:p≠b):aS (aS (aS m p x) b y) b z p=some x:=by rw[bG h,bG h,aZ]
theorem Q8{k l:Bool}{q:Addr}{m0 m:Mu}{R:DK}(kn:Kn m0 m)(hq:m0 q=none)(hm:m q=some (.d (LP true true)))(h:∀ (p:Addr) m',m0 p=none->Kn m0 m'->m' p=some (.d (LY k l))->R (.cel p) m') :
  Oq (EN R) [some (.dat (bH k l)),some (.dat (LO l)),some (.cel q)] m:=by
 refine rR false true rfl ?_;have go6:∀ (q:Addr) (m:Mu),Kn m0 m->m0 q=none->m q=some (.d (LP k l))->¬ (k=false/\l=false)->Lk (EN R) [some (.dat (bH k l)),some (.dat (LO l)),some (.cel q)] m:=fun q m kn hq hm c=>by
  refine rR false false rfl ?_;exact bR (decide_eq_false c) (Dz kn hq hm h)
 by_cases c1:k=false/\l=true
 ·obtain⟨rfl,rfl⟩:=c1;refine cL rfl fun p hp=>lF (dL false true) ⟨aZ,by decide,?_⟩
  refine rR true false rfl (bR rfl (go6 p _ ?_ (fB kn hp) aZ (by simp)))
  exact(kn.new (fB kn hp)).new (fB kn hp)
 ·refine bR (decide_eq_false c1) ?_;refine rR true false rfl ?_
  by_cases c2:k=true/\l=false
  ·obtain⟨rfl,rfl⟩:=c2;refine cL rfl fun p hp=>lF (dL true false) ⟨aZ,by decide,?_⟩
   exact go6 p _ ((kn.new (fB kn hp)).new (fB kn hp)) (fB kn hp) aZ (by simp)
  ·refine bR (decide_eq_false c2) ?_;refine rR false false rfl ?_
   by_cases c3:k=false/\l=false
   ·obtain⟨rfl,rfl⟩:=c3;refine cL rfl fun p hp=>lF (dL false false) ⟨aZ,by decide,?_⟩
    exact Dz ((kn.new (fB kn hp)).new (fB kn hp)) (fB kn hp) aZ h
   ·have:k=true/\l=true:=by cases k<;>cases l<;>simp_all
    obtain⟨rfl,rfl⟩:=this;exact bR (decide_eq_false c3) (Dz kn hq hm h)
theorem Tu:∀ ds m R,ds.length=nL.length->qX ds m R->Cm (EN R) (bA zX ds) m:=by
 rintro ds m R hl ⟨k,l,rfl,h⟩;have rest:Ms (EN R) [some (.dat (bH k l)),some (.dat (LO l)),none] m:=by
  intro p hp;refine lF ((dL true true).take 6) ⟨aZ,by decide,?_⟩
  refine⟨_,rfl,p,rfl,⟨_,aZ⟩,fun b hb=>lF (((dL true true).drop 6).take 5) ⟨aZ,by decide,?_⟩⟩
  have pb:p≠b:=by rintro rfl;rw[aZ]at hb;cases hb
  refine⟨_,_,b,rfl,pb,Lh pb,aZ,sz (n:=11) (by decide),?_⟩
  refine⟨_,rfl,p,rfl,⟨_,aZ⟩,fun e he=>lF ((dL true true).drop 11) ⟨aZ,by decide,?_⟩⟩
  have pe:p≠e:=by rintro rfl;rw[aZ]at he;cases he
  refine⟨_,_,e,rfl,pe,Lh pe,aZ,sz (n:=13) (by decide),?_⟩
  have b0:m b=none:=by
   rw[bG pb.symm,bG pb.symm]at hb;exact hb
  have e0:m e=none:=by
   rw[bG pe.symm]at he
   by_cases eb:e=b
   ·rw[eb];exact b0
   ·rw[bG eb,bG eb,bG pe.symm,bG pe.symm]at he;exact he
  refine Q8 (m0:=m) (q:=p) ?_ hp aZ h;exact(((((((Kn.refl.new hp).new hp).new b0).new b0).new hp).new e0).new e0).new hp
 refine⟨_,rfl,_,Bl _ _ _,_,rfl,?_⟩
 cases l with
 | false=>exact bR rfl ⟨_,rfl,sz (n:=2) (by decide),rest⟩
 | true=>exact cL rfl ⟨_,rfl,sz (n:=2) (by decide),rest⟩
theorem g9(k l:Bool):(LY k l).map (fun kv=>(bO kv.1,kv.2))=LF k l:=by
 unfold LY LF;rw[List.map_map];rfl
theorem Se(k l:Bool):uL (.d (LY k l))=some (LF k l):=by simp only[uL];rw[g9]
abbrev SZ(k l:Bool)(z:Str):List (PyData×PyData):=SF (Aj k l z).1 (Aj k l z).2 (oth l).1 (oth l).2
theorem Fh(k l:Bool):∀ z∈WS k l,dR (LF k l) (.str z)=some (cZ (SZ k l z)):=by
 intro z hz
 cases k<;>cases l<;>simp only[WS,hU,List.mem_cons,List.not_mem_nil,or_false]at hz<;>rcases hz with rfl | rfl | rfl | rfl | rfl | rfl | rfl | rfl | rfl | rfl | rfl | rfl | rfl<;>rfl
theorem Tc{a b c d:Int}{x y:Nat}(hx:x<2)(hy:y<2):dR (SF a b c d) (.tuple [.int x,.int y])=some (.int (sg (pk (a,b) x) (pk (c,d) y))):=by
 obtain rfl | rfl:x=0\/x=1:=by omega
 ·obtain rfl | rfl:y=0\/y=1:=by omega
  ·rfl
  ·rfl
 ·obtain rfl | rfl:y=0\/y=1:=by omega
  ·rfl
  ·rfl
theorem Mo{k l:Bool}{z:Str}{x y:Nat}(hx:x<2)(hy:y<2):dR (SZ k l z) (.tuple [.int x,.int y])=some (.int (LW k l x y z)):=Tc hx hy
abbrev PP(x y:Nat):PyData:=.tuple [.int x,.int y]
theorem Jl{k l:Bool}{x y:Nat}(hx:x<2)(hy:y<2){m:Mu}{Q:List PyData->Mu->Prop}:∀ (todo done:List Str) (o:Option D),(∀ z∈todo,z∈WS k l)->done.length+todo.length<=13->Q (((done++todo).map (LW k l x y)).map .int) m ->
  cJ (gN 0) cW (jE (jE (aA 1) (aA 0)) (aA 2)) ((todo.map .str).map .dat) ((done.map (LW k l x y)).map .int) [o,some (.dat (cZ (LF k l))),some (.dat (PP x y))] m Q
 | [],done,o,_,_,h=>by rw[List.append_nil]at h;exact h
 | z::todo,done,o,hz,hl,h=>by
  have hl:done.length+(todo.length+1)<=13:=hl
  refine⟨_,rfl,_,rfl,_,_,_,rfl,rfl,Fh k l z (hz z List.mem_cons_self),_,rfl,_,_,_,rfl,rfl,Mo hx hy,_,rfl,?_,?_⟩
  ·rw[List.length_map,List.length_map];exact Nat.lt_of_lt_of_le (by omega:done.length<100) (sz (by decide))
  ·have:=Jl hx hy (m:=m) (Q:=Q) todo (done++[z]) (some (.dat (.str z))) (fun w hw=>hz w (List.mem_cons_of_mem _ hw)) (by simp;omega) (by simpa using h)
   rw[List.map_append,List.map_append]at this;exact this
theorem May.mem{k l:Bool}{zs:List Str}(h:May k l zs):∀ z∈zs,z∈WS k l:=fun z hz=>h.subset hz
theorem May.len{k l:Bool}{zs:List Str}(h:May k l zs):zs.length<=13:=Nat.le_trans h.length_le (lY k l).2
abbrev AS(k l:Bool)(zs:List Str)(c:Addr)(z:Str)(g:Bool)(o6 o7:Option D):aU:=[some (.dat (bH k l)),some (.dat (TS zs)),some (.dat (cZ (LF k l))),some (.cel c),some (.dat (.str z)),some (.dat (.bool g)),o6,o7]
theorem CN{zs:List Str}{f:Str->Int}{v M:Int}(h1:M∈zs.map f)(h2:∀ a∈zs.map f,M<=a):decide (M<=v)=zs.any fun u=>decide (f u<=v):=by
 obtain⟨u,hu,rfl⟩:=List.mem_map.mp h1;rw[Bool.eq_iff_iff,List.any_eq_true]
 constructor
 ·intro q;exact⟨u,hu,by simpa using q⟩
 ·rintro⟨w,hw,q⟩;have:=h2 (f w) (List.mem_map_of_mem hw)
  simp at q ⊢;omega
theorem Ue{zs:List Str}{f:Str->Int}{v M:Int}(h1:M∈zs.map f)(h2:∀ a∈zs.map f,a<=M):decide (v<=M)=zs.any fun u=>decide (v<=f u):=by
 obtain⟨u,hu,rfl⟩:=List.mem_map.mp h1;rw[Bool.eq_iff_iff,List.any_eq_true]
 constructor
 ·intro q;exact⟨u,hu,by simpa using q⟩
 ·rintro⟨w,hw,q⟩;have:=h2 (f w) (List.mem_map_of_mem hw)
  simp at q ⊢;omega
theorem uM{k l:Bool}{zs:List Str}{c:Addr}{z:Str}{g:Bool}{x y:Nat}{o7:Option D}{m:Mu}{E:Ends2}(hx:x<2)(hy:y<2)(hz:May k l zs)(hzw:z∈WS k l)(hg:g=true->zs≠[])
  (h:∀ o7,E.nx (AS k l zs c z (g&&cD k l zs z x y) (some (.dat (PP x y))) o7) m):Lc E (AS k l zs c z g (some (.dat (PP x y))) o7) m:=by
 refine⟨_,rfl,.inr ⟨_,rfl,?_⟩⟩;refine Jl hx hy zs [] none hz.mem (by have:=hz.len;simp;omega) ?_
 rw[List.nil_append];refine⟨_,rfl,_,rfl,?_⟩
 cases g with
 | false=>exact bR rfl (h _)
 | true =>
  refine cL rfl ⟨_,rfl,_,rfl,by simpa using hg rfl,fun M M1 M2=>?_⟩
  refine⟨_,rfl,_,rfl,_,_,_,rfl,rfl,Fh k l z hzw,_,rfl,_,_,_,rfl,rfl,Mo hx hy,_,rfl,?_⟩;have e1:=CN (v:=LW k l x y z) M1 M2
  unfold cD at h;rw[e1]
  by_cases c1:(zs.any fun u=>decide (LW k l x y u<=LW k l x y z))=true
  ·rw[c1]at h ⊢;refine cL rfl ⟨_,rfl,_,rfl,by simpa using hg rfl,fun M' M3 M4=>?_⟩
   have e2:=Ue (v:=LW k l x y z) M3 M4
   show E.nx _ _
   have h':=h (some (.dat (.list ((zs.map (LW k l x y)).map .int))))
   rw[Bool.true_and,Bool.true_and,<- e2]at h';exact h'
  ·rw[Bool.not_eq_true]at c1;rw[c1]at h ⊢;refine bR rfl ?_;exact h _
theorem p6{k l:Bool}{zs:List Str}{c:Addr}{z:Str}{o5 o6 o7:Option D}{m:Mu}{E:Ends2}{P:List Str}(hz:May k l zs)(hzw:z∈WS k l)(hm:m c=some (.l (P.map .str)))(hP:P.length<=13)
  (h:∀ m' g o6 o7,m' c=some (.l ((if (!zs.isEmpty&&cD k l zs z 0 0&&cD k l zs z 0 1&&cD k l zs z 1 0&&cD k l zs z 1 1)=true then P++[z] else P).map .str))->(∀ b,b≠c->m' b=m b)->E.nx (AS k l zs c z g o6 o7) m') :
  xU E [some (.dat (bH k l)),some (.dat (TS zs)),some (.dat (cZ (LF k l))),some (.cel c),some (.dat (.str z)),o5,o6,o7] m:=by
 refine⟨_,rfl,?_⟩;have g0:decide ((((zs.map PyData.str).length:Nat):Int) > 0)=!zs.isEmpty:=by cases zs<;>simp
 show Pf E [some (.dat (bH k l)),some (.dat (TS zs)),some (.dat (cZ (LF k l))),some (.cel c),some (.dat (.str z)),some (.dat (.bool (decide ((((zs.map PyData.str).length:Nat):Int) > 0)))),o6,o7] m
 rw[g0];have hne:∀ g:Bool,(!zs.isEmpty&&g)=true->zs≠[]:=fun g q=>by cases zs<;>simp_all
 refine⟨_,rfl,_,rfl,_,_,_,rfl,rfl,Fh k l z hzw,_,rfl,?_⟩;refine uM (x:=0) (y:=0) (by decide) (by decide) hz hzw (fun q=>hne true (by simpa using q)) fun o=>?_
 refine uM (x:=0) (y:=1) (by decide) (by decide) hz hzw (fun q=>hne _ q) fun o=>?_
 refine uM (x:=1) (y:=0) (by decide) (by decide) hz hzw (fun q=>hne _ (by rw[Bool.and_assoc]at q;exact q)) fun o=>?_
 refine uM (x:=1) (y:=1) (by decide) (by decide) hz hzw (fun q=>hne _ (by rw[Bool.and_assoc,Bool.and_assoc]at q;exact q)) fun o=>?_
 refine⟨_,rfl,_,rfl,?_⟩
 by_cases t:(!zs.isEmpty&&cD k l zs z 0 0&&cD k l zs z 0 1&&cD k l zs z 1 0&&cD k l zs z 1 1)=true
 ·refine cL t ⟨_,rfl,c,rfl,⟨_,hm⟩,_,rfl,_,_,rfl,hm,?_,?_⟩
  ·rw[List.length_map];exact Nat.lt_of_lt_of_le (by omega:P.length<100) (sz (by decide))
  ·refine h _ _ _ _ ?_ fun b hb=>bG hb;rw[aZ,if_pos t];simp
 ·rw[Bool.not_eq_true]at t;refine bR t (h m _ _ _ ?_ fun b hb=>rfl);rw[t];exact hm
theorem Ml{k l:Bool}{zs:List Str}{c:Addr}{m0:Mu}{E:Ends2}(hz:May k l zs)(c0:m0 c=none)(fin:∀ o4 o5 o6 o7 m,Kn m0 m->m c=some (.l ((AR k l zs).map .str))->E.nx [some (.dat (bH k l)),some (.dat (TS zs)),some (.dat (cZ (LF k l))),some (.cel c),o4,o5,o6,o7] m) :
  ∀ (todo done:List Str) (o4 o5 o6 o7:Option D) (m:Mu),done++todo=WS k l->Kn m0 m->m c=some (.l ((done.filter fun z=>!zs.isEmpty&&cD k l zs z 0 0&&cD k l zs z 0 1&&cD k l zs z 1 0&&cD k l zs z 1 1).map .str)) ->
   gE (gN 4) xU E ((todo.map .str).map .dat) [some (.dat (bH k l)),some (.dat (TS zs)),some (.dat (cZ (LF k l))),some (.cel c),o4,o5,o6,o7] m
 | [],done,o4,o5,o6,o7,m,e,kn,hm=>by
  rw[List.append_nil]at e;subst e;exact fin _ _ _ _ m kn hm
 | z::todo,done,o4,o5,o6,o7,m,e,kn,hm=>by
  have hzw:z∈WS k l:=by rw[<- e];simp
  have dl:done.length<=13:=by
   have:=(lY k l).2
   rw[<- e,List.length_append]at this;omega
  refine p6 hz hzw hm (Nat.le_trans (List.length_filter_le _ _) dl) fun m' g o6 o7 hm' k'=>?_;refine Ml hz c0 fin todo (done++[z]) _ _ _ _ m' (by rw[<- e];simp) ?_ ?_
  ·intro b hb;rw[k' b (by rintro rfl;rw[c0]at hb;cases hb)]
   exact kn b hb
  ·rw[hm',List.filter_append,List.filter_cons,List.filter_nil]
   by_cases t:(!zs.isEmpty&&cD k l zs z 0 0&&cD k l zs z 0 1&&cD k l zs z 1 0&&cD k l zs z 1 1)=true
   ·rw[if_pos t,if_pos t]
   ·rw[if_neg t,if_neg t,List.append_nil]
theorem Wl:∀ ds m R,ds.length=gD.length->iA ds m R->Bk (EN R) (bA Fe ds) m:=by
 rintro ds m R hl ⟨k,l,zs,rfl,hz,h⟩;refine⟨_,rfl,rfl,k,l,rfl,fun p m1 hp k1 hm1=>⟨p,_,LF k l,rfl,hp,hm1,Se k l,?_⟩⟩;refine⟨[],rfl,Nat.zero_le _,fun c hc=>?_⟩;have kq:Kn m (bY m1 p):=k1.off hp
 have c0:=fB kq hc
 refine⟨_,rfl,rfl,k,l,rfl,fun m2 k2=>.inl ⟨_,rfl,?_⟩⟩;refine Ml hz c0 ?_ (WS k l) [] none none none none m2 rfl ((kq.new c0).trans k2) ?_
 ·intro o4 o5 o6 o7 m3 k3 hm3;exact⟨_,rfl,_,hm3,h m3 k3⟩
 ·rw[k2 c (by rw[aZ];rfl),aZ]
  rfl
theorem Tp.kn{n:Int}{m m':Mu}{a:Addr}(h:Tp n m a)(k:Kn m m'):Tp n m' a:=by
 obtain⟨ns,i,j,t,e,r⟩:=h;exact⟨ns,i,j,t,by rw[k a (by rw[e];rfl),e],r⟩
theorem Fed.kn{b n:Int}{m0 m m':Mu}{a:Addr}(h:Fed b n m0 m a)(k:Kn m m'):Fed b n m0 m' a:=⟨h.1.kn k,fun c hc hs=>by
 have e:=h.2 c hc hs
 rw[k c (by rw[e];exact hs),e]⟩
theorem Fed.next2{b c n:Int}{m m1 m2:Mu}{a:Addr}(h:Fed b n m m1 a)(q:Fed c (n+b) m1 m2 a):Fed (b+c) n m m2 a:=by
 refine⟨by have:=q.1;rwa [Int.add_assoc]at this,fun x hx hs=>?_⟩
 have e:=h.2 x hx hs
 rw[q.2 x hx (by rw[e];exact hs),e]
theorem qP{i:Int}:(PyData.int i).depth<=100:=by simp[PyData.depth]
theorem rX{i j:Int}:PyData.eqv (.int i) (.int j)=decide (i=j):=by simp[PyData.eqv];rfl
theorem Ar{a:Addr}{k l:Bool}{w:Str}{r L:Int}{m0:Mu}{Q:List PyData->Mu->Prop}(r0:0<=r)(r1:r<3)(hL:L<=9000000)(fin:∀ (sel:List Str) m,sel.Sublist (WS k l)->w∈sel->Fed 14 L m0 m a->Q (sel.map .str) m)(hw:w∈WS k l) :
  ∀ (todo done sel:List Str) (o:Option D) (m:Mu),done++todo=WS k l->sel.Sublist done->(w∈done->w∈sel)->Fed (1+done.length) L m0 m a ->
   cJ (gN 0) (jV (bJ (aN cK (aA 0) (aA 2))) (bJ (aN cK (bB 2 dH (aB (aA 1) (aB (aN dZ (aC (.int 1)) (aA 3)) aF))) (aC (.int 0))))) (aA 0) ((todo.map .str).map .dat) (sel.map .str) [o,some (.cel a),some (.dat (.str w)),some (I (1+r))] m Q
 | [],done,sel,o,m,e,hs,hws,hf=>by
  rw[List.append_nil]at e;subst e;have:=(lY k l).2
  exact fin sel m hs (hws hw) (hf.mono (by omega))
 | z::todo,done,sel,o,m,e,hs,hws,hf=>by
  have dl:done.length<13:=by
   have:=(lY k l).2
   rw[<- e,List.length_append,List.length_cons]at this;omega
  have sl:sel.length<100:=Nat.lt_of_le_of_lt hs.length_le (by omega)
  have e2:(done++[z])++todo=WS k l:=by rw[<- e];simp
  have add:∀ m,Fed (1+(done++[z]).length) L m0 m a->∃ p,D.dat (.str z)=.dat p/\(sel.map PyData.str).length<sizeLine/\cJ (gN 0) (jV (bJ (aN cK (aA 0) (aA 2))) (bJ (aN cK (bB 2 dH (aB (aA 1) (aB (aN dZ (aC (.int 1)) (aA 3)) aF))) (aC (.int 0))))) (aA 0) ((todo.map .str).map .dat) (sel.map .str++[p]) [some (.dat (.str z)),some (.cel a),some (.dat (.str w)),some (I (1+r))] m Q:=fun m hf2=>by
   refine⟨_,rfl,by rw[List.length_map];exact Nat.lt_of_lt_of_le sl (sz (by decide)),?_⟩
   have:=Ar r0 r1 hL fin hw todo (done++[z]) (sel++[z]) (some (.dat (.str z))) m e2 (hs.append (List.Sublist.refl _)) (fun q=>by
    rcases List.mem_append.mp q with q | q
    ·exact List.mem_append_left _ (hws q)
    ·exact List.mem_append_right _ q) hf2
   rw[List.map_append]at this;exact this
  refine⟨_,rfl,_,rfl,_,rfl,?_⟩
  by_cases c:z=w
  ·refine cL (decide_eq_true c) (cL rfl ⟨_,rfl,add m (hf.mono (by simp;omega))⟩)
  ·refine bR (decide_eq_false c) ⟨_,rfl,_,rfl,rfl,iC (n:=1+(1+r)) (by omega) (by omega) hL (by omega) hf fun s m2 s0 s1 f2=>?_⟩
   have f3:Fed (1+(done++[z]).length) L m0 m2 a:=f2.mono (by simp;omega)
   refine⟨rfl,rfl,qP,_,rfl,?_⟩;rw[rX]
   by_cases cs:s=0
   ·exact cL (decide_eq_true cs) ⟨_,rfl,add m2 f3⟩
   ·refine bR (decide_eq_false cs) ?_;refine Ar r0 r1 hL fin hw todo (done++[z]) sel _ m2 e2 (hs.trans (List.sublist_append_left _ _)) (fun q=>?_) f3;rcases List.mem_append.mp q with q | q
    ·exact hws q
    ·exact absurd (List.mem_singleton.mp q).symm c
theorem BI:∀ ds m R,ds.length=lH.length->rF ds m R->wR (EN R) (bA Cd ds) m:=by
 rintro ds m R hl ⟨a,k,l,w,L,rfl,hw,hL,ht,h⟩;refine⟨_,rfl,rfl,iC (n:=3) (by decide) (by decide) hL (by decide) (Fed.refl ht) fun r m1 r0 r1 f1=>?_⟩
 refine⟨_,rfl,rfl,k,l,rfl,fun m2 k2=>.inl ⟨_,rfl,?_⟩⟩;refine Ar (w:=w) r0 r1 hL (fun sel m3 hs hws f3=>?_) hw (WS k l) [] [] none m2 rfl (List.Sublist.refl _) (fun q=>nomatch q) ((f1.kn k2).mono (by decide))
 exact⟨_,rfl,h sel m3 hs hws f3⟩
theorem Zn:∀ k l:Bool,∀ z∈WS k l,∀ x∈List.range (aW k),∀ y∈List.range (aW l),LW k l x y z=bW k l x y z:=by
 intro k l;cases k<;>cases l<;>decide +kernel
theorem Ly{k l:Bool}{r:Int}(h0:0<=r)(h1:r<(((WS k l).map PyData.str).length:Int)):∃ w∈WS k l,cS ((WS k l).map PyData.str) r=some (.str w):=by
 obtain⟨p,e,w,hw,rfl⟩:=Jh (xs:=(WS k l).map PyData.str) (P:=fun p=>∃ w∈WS k l,p=.str w) (fun p hp=>by obtain⟨w,hw,q⟩:=List.mem_map.mp hp;exact⟨w,hw,q.symm⟩) h0 h1
 exact⟨w,hw,e⟩
theorem BW{k l:Bool}{zs:List Str}:May k l (AR k l zs):=List.filter_sublist
theorem Kq{i:Int}(h0:0<=i)(h1:i<2):∃ b,cS [PyData.str "point",.str "stretch"] i=some (.str (kd b)):=by
 obtain rfl | rfl:i=0\/i=1:=by omega
 ·exact⟨false,rfl⟩
 ·exact⟨true,rfl⟩
theorem wB:∀ a:List Nat,ltCps a a=false
 | []=>rfl
 | a::r=>by simp[ltCps,wB r]
theorem Nm:∀ a b:List Nat,ltCps a b=false->ltCps b a=false->a=b
 | [],[],_,_=>rfl
 | [],_::_,h,_=>by simp[ltCps]at h
 | _::_,[],_,h=>by simp[ltCps]at h
 | a::r,b::t,h,g=>by
  simp[ltCps]at h g;have e:a=b:=by omega
  subst e;rw[Nm r t (by simpa using h) (by simpa using g)]
theorem At:∀ a b c:List Nat,ltCps a b=true->ltCps b c=true->ltCps a c=true
 | [],[],_,h,_=>by simp[ltCps]at h
 | [],_::_,[],_,g=>by simp[ltCps]at g
 | [],_::_,_::_,_,_=>rfl
 | _::_,[],_,h,_=>by simp[ltCps]at h
 | _::_,_::_,[],_,g=>by simp[ltCps]at g
 | a::r,b::t,c::u,h,g=>by
  simp[ltCps]at h g ⊢;rcases h with h | ⟨rfl,h⟩
  ·rcases g with g | ⟨rfl,g⟩
   ·exact .inl (by omega)
   ·exact .inl h
  ·rcases g with g | ⟨rfl,g⟩
   ·exact .inl g
   ·exact .inr ⟨rfl,At r t u h g⟩
abbrev Lt(x y:Str):Prop:=ltCps x.cps.toList y.cps.toList=true
theorem Yz{x y:Str}(h:x.cps.toList=y.cps.toList):x=y:=by
 cases x;cases y
 simp at h;rw[h]
def up:Str->List Str->Bool
 | _,[]=>true
 | l,z::zs=>ltCps l.cps.toList z.cps.toList&&up z zs
theorem Mc:∀ {zs:List Str} {l:Str},up l zs=true->List.Pairwise Lt (l::zs)
 | [],l,_=>by simp
 | z::zs,l,h=>by
  simp only[up,Bool.and_eq_true]at h;have ih:=Mc h.2
  refine List.pairwise_cons.mpr ⟨fun y hy=>?_,ih⟩;rcases List.mem_cons.mp hy with rfl | hy
  ·exact h.1
  ·exact At _ _ _ h.1 ((List.pairwise_cons.mp ih).1 y hy)
theorem Ho:∀ {zs:List Str} {l:Str},risingS l zs=true->(l::zs).Nodup->up l zs=true
 | [],l,_,_=>rfl
 | z::zs,l,h,nd=>by
  simp only[risingS,Bool.and_eq_true,Bool.not_eq_true']at h;simp only[up,Bool.and_eq_true];have nd2:=(List.nodup_cons.mp nd)
  refine⟨?_,Ho h.2 nd2.2⟩
  cases e:ltCps l.cps.toList z.cps.toList
  ·exact(nd2.1 (by rw[Yz (Nm _ _ e h.1)];exact List.mem_cons_self)).elim
  ·rfl
theorem Ju{ys:List Str}(h:sortedS ys=true)(nd:ys.Nodup):List.Pairwise Lt ys:=by
 cases ys with
 | nil=>simp
 | cons y ys=>exact Mc (Ho h nd)
theorem Pu:∀ {xs ys:List Str},List.Pairwise Lt xs->List.Pairwise Lt ys->(∀ z,z∈xs↔z∈ys)->xs=ys
 | [],[],_,_,_=>rfl
 | [],y::ys,_,_,h=>by have:=(h y).mpr List.mem_cons_self;cases this
 | x::xs,[],_,_,h=>by have:=(h x).mp List.mem_cons_self;cases this
 | x::xs,y::ys,hx,hy,h=>by
  obtain⟨x1,x2⟩:=List.pairwise_cons.mp hx;obtain⟨y1,y2⟩:=List.pairwise_cons.mp hy;have e:x=y:=by
   rcases List.mem_cons.mp ((h x).mp List.mem_cons_self) with e | e
   ·exact e
   ·rcases List.mem_cons.mp ((h y).mpr List.mem_cons_self) with g | g
    ·exact g.symm
    ·have:=At _ _ _ (x1 y g) (y1 x e)
     rw[wB]at this
     cases this
  subst e
  congr 1
  refine Pu x2 y2 fun z=>⟨fun hz=>?_,fun hz=>?_⟩
  ·rcases List.mem_cons.mp ((h z).mp (List.mem_cons_of_mem _ hz)) with rfl | g
   ·have:=x1 z hz
    rw[Lt,wB]at this
    cases this
   ·exact g
  ·rcases List.mem_cons.mp ((h z).mpr (List.mem_cons_of_mem _ hz)) with rfl | g
   ·have:=y1 z hz
    rw[Lt,wB]at this
    cases this
   ·exact g
end K38
namespace K38
open PySem PySem.Spec PyProof.Rows L2 DL K01
theorem Pj:∀ l:Bool,∀ z∈WS false l,∀ y∈List.range 2,LW false l 1 y z=LW false l 0 y z:=by intro l;cases l<;>decide +kernel
theorem Jm:∀ k:Bool,∀ z∈WS k false,∀ x∈List.range 2,LW k false x 1 z=LW k false x 0 z:=by intro k;cases k<;>decide +kernel
theorem vW{k l:Bool}{zs:List Str}{z:Str}{x y x' y':Nat}(h:∀ u∈WS k l,LW k l x y u=LW k l x' y' u)(hz:∀ u∈zs,u∈WS k l)(hzw:z∈WS k l):cD k l zs z x y=cD k l zs z x' y':=by
 unfold cD;rw[h z hzw];have e:∀ p:Int->Bool,(zs.any fun u=>p (LW k l x y u))=zs.any fun u=>p (LW k l x' y' u):=fun p=>by
  rw[Bool.eq_iff_iff,List.any_eq_true,List.any_eq_true]
  constructor
  ·rintro⟨u,hu,q⟩;exact⟨u,hu,by rw[<- h u (hz u hu)];exact q⟩
  ·rintro⟨u,hu,q⟩;exact⟨u,hu,by rw[h u (hz u hu)];exact q⟩
 rw[e fun a=>decide (a<=LW k l x' y' z),e fun a=>decide (LW k l x' y' z<=a)]
theorem rC{k l:Bool}{zs:List Str}{z:Str}{x y:Nat}(hz:∀ u∈zs,u∈WS k l)(hzw:z∈WS k l)(hx:x<aW k)(hy:y<aW l):cD k l zs z x y=true↔bW k l x y z∈bM (dG k l zs x y):=by
 have lw:∀ u∈WS k l,LW k l x y u=bW k l x y u:=fun u hu=>Zn k l u hu x (List.mem_range.mpr hx) y (List.mem_range.mpr hy)
 have w3:∀ u∈WS k l,bW k l x y u=-1\/bW k l x y u=0\/bW k l x y u=1:=fun u hu=>by
  have:=Di hu hx hy
  simp only[List.mem_cons,List.not_mem_nil,or_false]at this;omega
 unfold cD;rw[Bool.and_eq_true,List.any_eq_true,List.any_eq_true,lw z hzw]
 constructor
 ·rintro⟨⟨u,hu,q1⟩,⟨v,hv,q2⟩⟩;rw[lw u (hz u hu)]at q1;rw[lw v (hz v hv)]at q2;have q1:=of_decide_eq_true q1
  have q2:=of_decide_eq_true q2
  have mu:=(jY (a:=bW k l x y u) hz hx hy).mpr ⟨u,hu,rfl⟩
  have mv:=(jY (a:=bW k l x y v) hz hx hy).mpr ⟨v,hv,rfl⟩
  by_cases e1:bW k l x y u=bW k l x y z
  ·exact tG (by rw[<- e1];exact mu) vX
  ·by_cases e2:bW k l x y v=bW k l x y z
   ·exact tG (by rw[<- e2];exact mv) vX
   ·have a1:=w3 u (hz u hu)
    have a2:=w3 v (hz v hv)
    have a3:=w3 z hzw
    have e0:bW k l x y z=0:=by omega
    have e3:bW k l x y u=-1:=by omega
    have e4:bW k l x y v=1:=by omega
    rw[e3]at mu;rw[e4]at mv;unfold bM;rw[if_pos ⟨mu,mv⟩,e0];decide
 ·intro h;unfold bM at h
  split at h
  ·rename_i c;obtain⟨u,hu,q1⟩:=(jY hz hx hy).mp c.1;obtain⟨v,hv,q2⟩:=(jY hz hx hy).mp c.2;have a3:=w3 z hzw
   refine⟨⟨u,hu,?_⟩,⟨v,hv,?_⟩⟩
   ·rw[lw u (hz u hu),q1];simp;omega
   ·rw[lw v (hz v hv),q2];simp;omega
  ·obtain⟨u,hu,q1⟩:=(jY hz hx hy).mp h;refine⟨⟨u,hu,?_⟩,⟨u,hu,?_⟩⟩
   ·rw[lw u (hz u hu),q1];simp
   ·rw[lw u (hz u hu),q1];simp
theorem wO{k l:Bool}{zs:List Str}(hz:∀ u∈zs,u∈WS k l):AR k l zs=PA k l zs:=by
 unfold AR PA;refine List.filter_congr fun z hzw=>?_;have ck:=jT k
 have cl:=jT l
 rw[Bool.eq_iff_iff,uO hzw];simp only[Bool.and_eq_true,Bool.not_eq_true']
 constructor
 ·rintro⟨⟨⟨⟨_,h1⟩,h2⟩,h3⟩,h4⟩ x y hx hy;refine(rC hz hzw hx hy).mp ?_;obtain rfl | rfl:x=0\/x=1:=by omega
  ·obtain rfl | rfl:y=0\/y=1:=by omega
   ·exact h1
   ·exact h2
  ·obtain rfl | rfl:y=0\/y=1:=by omega
   ·exact h3
   ·exact h4
 ·intro h;have h00:=(rC hz hzw (by omega) (by omega)).mpr (h 0 0 (by omega) (by omega))
  have ne:zs.isEmpty=false:=by
   cases zs with
   | nil=>simp[cD]at h00
   | cons _ _=>rfl
  have h01:cD k l zs z 0 1=true:=by
   cases l with
   | true=>exact(rC hz hzw (by omega) (by decide)).mpr (h 0 1 (by omega) (by decide))
   | false=>rw[vW (x':=0) (y':=0) (fun u hu=>Jm k u hu 0 (by decide)) hz hzw];exact h00
  have h10:cD k l zs z 1 0=true:=by
   cases k with
   | true=>exact(rC hz hzw (by decide) (by omega)).mpr (h 1 0 (by decide) (by omega))
   | false=>rw[vW (x':=0) (y':=0) (fun u hu=>Pj l u hu 0 (by decide)) hz hzw];exact h00
  refine⟨⟨⟨⟨ne,h00⟩,h01⟩,h10⟩,?_⟩
  cases k with
  | false=>rw[vW (x':=0) (y':=1) (fun u hu=>Pj l u hu 1 (by decide)) hz hzw];exact h01
  | true =>
   cases l with
   | true=>exact(rC hz hzw (by decide) (by decide)).mpr (h 1 1 (by decide) (by decide))
   | false=>rw[vW (x':=1) (y':=0) (fun u hu=>Jm true u hu 1 (by decide)) hz hzw];exact h10
theorem Gm{k l:Bool}{zs:List Str}(hz:∀ u∈zs,u∈WS k l):∀ z∈zs,z∈PA k l zs:=fun z h=>by
 rw[Nx];exact⟨hz z h,fun x y hx hy=>tG ((jY hz hx hy).mpr ⟨z,h,rfl⟩) vX⟩
theorem Wx:∀ k l:Bool,∀ w∈WS k l,PA k l [w]=[w]:=by intro k l;cases k<;>cases l<;>decide +kernel
theorem Pl.may{k l:Bool}{P:List Str}(h:Pl k l P):May k l P:=by
 obtain⟨pr,e⟩:=h.filt;rw[e];exact List.filter_sublist
theorem Yb{k l:Bool}{zs:List Str}(h:May k l zs):(WS k l).filter (fun z=>decide (z∈zs))=zs:=by
 have nd:=Ie k l
 have key:∀ {xs ws:List Str},xs.Sublist ws->ws.Nodup->ws.filter (fun z=>decide (z∈xs))=xs:=by
  intro xs ws hs
  induction hs with
  | slnil=>intro _;rfl
  | @cons l1 l2 a hs ih =>
   intro nd;obtain⟨n1,n2⟩:=List.nodup_cons.mp nd;rw[List.filter_cons_of_neg (by simp;exact fun q=>n1 (hs.subset q))]
   exact ih n2
  | @cons_cons l1 l2 a hs ih =>
   intro nd;obtain⟨n1,n2⟩:=List.nodup_cons.mp nd;rw[List.filter_cons_of_pos (by simp)]
   congr 1
   rw[<- ih n2];refine List.filter_congr fun z hz=>?_;have:z≠a:=by rintro rfl;exact n1 hz
   rw[ih n2];simp[this]
 exact key h nd
end K38
namespace K38
open PySem PySem.Spec PyProof.Rows L2 DL K01
theorem Mq{may:List Str}{m:Mu}{Q:List PyData->Mu->Prop}:∀ (todo:List Str) (acc:List Bool) (o:Option D),acc.length+todo.length<=100->Q ((acc++todo.map fun z=>decide (z∈may)).map .bool) m ->
  cJ (gN 0) cW (aN eA (aA 0) (aA 1)) ((todo.map .str).map .dat) (acc.map .bool) [o,some (.dat (TS may))] m Q
 | [],acc,o,_,h=>by rw[List.map_nil,List.append_nil]at h;exact h
 | z::todo,acc,o,hl,h=>by
  have hl:acc.length+(todo.length+1)<=100:=hl
  refine⟨_,rfl,_,rfl,may,rfl,_,rfl,?_,?_⟩
  ·rw[List.length_map];exact Nat.lt_of_lt_of_le (by omega:acc.length<101) (sz (by decide))
  ·have:=Mq (may:=may) (m:=m) (Q:=Q) todo (acc++[decide (z∈may)]) (some (.dat (.str z))) (by simp;omega) (by simpa using h)
   rw[List.map_append]at this;exact this
theorem Sb:∀ ds m R,ds.length=lS.length->rA ds m R->wN (EN R) (bA Cg ds) m:=by
 rintro ds m R hl ⟨k,l,may,w,rfl,hm,hw,h⟩;have wW:=hm.mem w hw
 refine⟨_,rfl,_,rfl,sz (n:=1) (by decide),?_⟩
 refine⟨_,rfl,.inr ⟨_,rfl,?_⟩⟩;refine Ez (fun d m'=>m'=m/\∃ P o4 o5,Pl k l P/\(∀ z∈P,z∈may)/\w∈P/\d=[some (.dat (bH k l)),some (.dat (TS may)),some (.dat (.str w)),some (.dat (TS P)),o4,o5]) ?_ _ ?_ _ _ ⟨rfl,[w],none,none,⟨fun z hz=>by rw[List.mem_singleton.mp hz];exact wW,Wx k l w wW⟩,fun z hz=>by rw[List.mem_singleton.mp hz];exact hw,List.mem_singleton.mpr rfl,rfl⟩
 ·rintro d m' ⟨rfl,P,o4,o5,hP,hs,hwP,rfl⟩;exact⟨_,rfl,h P hP hs hwP⟩
 ·rintro x hx K hK d m' ⟨rfl,P,o4,o5,hP,hs,hwP,rfl⟩;obtain⟨p,hp,rfl⟩:=List.mem_map.mp hx;obtain⟨z,hz,rfl⟩:=List.mem_map.mp hp;have zs:∀ u∈P++[z],u∈WS k l:=fun u hu=>by
   rcases List.mem_append.mp hu with q | q
   ·exact hP.1 u q
   ·rw[List.mem_singleton.mp q];exact hm.mem z hz
  have pl:P.length<=13:=hP.may.len
  refine⟨_,rfl,_,rfl,_,rfl,_,rfl,sz (n:=1) (by decide),?_,rfl,k,l,P++[z],?_,zs,?_⟩
  ·rw[List.length_map];exact sz (by show P.length+1<=1000;omega)
  ·rw[List.map_append];rfl
  have hW:Pl k l (PA k l (P++[z])):=Io
  refine⟨_,rfl,.inr ⟨_,rfl,?_⟩⟩;refine Mq (may:=may) (PA k l (P++[z])) [] none (by have:=hW.may.len;simp;omega) ?_
  rw[List.nil_append];refine⟨_,rfl,_,rfl,?_⟩
  by_cases c:(((PA k l (P++[z])).map fun z=>decide (z∈may)).all id)=true
  ·refine cL c ⟨_,rfl,hK _ _ ⟨rfl,PA k l (P++[z]),_,_,hW,fun u hu=>?_,Gm zs w (List.mem_append_left _ hwP),rfl⟩⟩;have:=List.all_eq_true.mp c (decide (u∈may)) (List.mem_map_of_mem hu)
   simpa using this
  ·rw[Bool.not_eq_true]at c;exact bR c (hK _ _ ⟨rfl,P,_,_,hP,hs,hwP,rfl⟩)
theorem Sq{m:Mu}{c:Addr}{x:Cel}(h:m c=some x):aS (bY m c) c x=m:=by
 funext b
 by_cases e:b=c
 ·subst e;rw[aZ,h]
 ·rw[bG e,Ni e]
theorem Ky{w:Str}{m:Mu}{Q:List PyData->Mu->Prop}:∀ (todo:List (List Str)) (acc:List Bool) (o:Option D),acc.length+todo.length<=100->Q ((acc++todo.map fun P=>decide (w∈P)).map .bool) m ->
  cJ (gN 0) cW (aN eA (aA 1) (aA 0)) ((todo.map TS).map .dat) (acc.map .bool) [o,some (.dat (.str w))] m Q
 | [],acc,o,_,h=>by rw[List.map_nil,List.append_nil]at h;exact h
 | P::todo,acc,o,hl,h=>by
  have hl:acc.length+(todo.length+1)<=100:=hl
  refine⟨_,rfl,_,rfl,P,rfl,_,rfl,?_,?_⟩
  ·rw[List.length_map];exact Nat.lt_of_lt_of_le (by omega:acc.length<101) (sz (by decide))
  ·have:=Ky (w:=w) (m:=m) (Q:=Q) todo (acc++[decide (w∈P)]) (some (.dat (TS P))) (by simp;omega) (by simpa using h)
   rw[List.map_append]at this;exact this
theorem Fm{k l:Bool}{may:List Str}{c:Addr}{m0:Mu}{E:Ends2}(hmay:May k l may)(c0:m0 c=none)(fin:∀ o3 Ps m,Kn m0 m->Parts k l may Ps->m c=some (.l (Ps.map TS))->E.nx [some (.dat (bH k l)),some (.dat (TS may)),some (.cel c),o3] m) :
  ∀ (todo done:List Str) (Ps:List (List Str)) (o3:Option D) (m:Mu),done++todo=may->Kn m0 m->m c=some (.l (Ps.map TS))->(∀ P∈Ps,Pl k l P)->(∀ P∈Ps,P≠[])->(∀ P∈Ps,∀ z∈P,z∈may)->(∀ w∈done,∃ P∈Ps,w∈P)->Ps.length<=done.length ->
   gE (gN 3) Me E ((todo.map .str).map .dat) [some (.dat (bH k l)),some (.dat (TS may)),some (.cel c),o3] m
 | [],done,Ps,o3,m,e,kn,hm,h1,h2,h3,h4,h5=>by
  rw[List.append_nil]at e;subst e;exact fin _ Ps m kn ⟨h1,h2,h3,h4,Nat.le_trans h5 hmay.len⟩ hm
 | w::todo,done,Ps,o3,m,e,kn,hm,h1,h2,h3,h4,h5=>by
  have hw:w∈may:=by rw[<- e];simp
  have dl:done.length<=13:=by
   have:=hmay.len
   rw[<- e,List.length_append]at this;omega
  have e2:(done++[w])++todo=may:=by rw[<- e];simp
  refine⟨c,_,rfl,hm,?_,?_⟩
  ·intro x hx;have hx:x∈[none,some (.dat (.str w))]:=hx
   simp at hx;rcases hx with rfl | rfl
   ·exact fun q=>nomatch q
   ·exact fun q=>nomatch q
  refine Ky (w:=w) Ps [] none (by simp;omega) ?_
  rw[List.nil_append,Sq hm];refine⟨_,rfl,_,rfl,?_⟩
  by_cases c1:((Ps.map fun P=>decide (w∈P)).any id)=true
  ·rw[c1];refine bR rfl (Fm hmay c0 fin todo (done++[w]) Ps _ m e2 kn hm h1 h2 h3 (fun u hu=>?_) (by simp;omega))
   rcases List.mem_append.mp hu with q | q
   ·exact h4 u q
   ·rw[List.mem_singleton.mp q];obtain⟨b,hb,q⟩:=List.any_eq_true.mp c1;obtain⟨P,hP,rfl⟩:=List.mem_map.mp hb;exact⟨P,hP,by simpa using q⟩
  ·rw[Bool.not_eq_true]at c1;rw[c1];refine cL rfl ⟨_,rfl,c,rfl,⟨_,hm⟩,_,rfl,_,rfl,_,rfl,rfl,k,l,may,w,rfl,hmay,hw,fun P hP hs hwP=>?_⟩;refine⟨Ps.map TS,_,rfl,hm,?_,?_⟩
   ·rw[List.length_map];exact Nat.lt_of_lt_of_le (by omega:Ps.length<100) (sz (by decide))
   refine Fm hmay c0 fin todo (done++[w]) (Ps++[P]) _ _ e2 (kn.new c0) (by rw[aZ,List.map_append];rfl) ?_ ?_ ?_ ?_ (by simp;omega)
   ·intro Q hQ;rcases List.mem_append.mp hQ with q | q
    ·exact h1 Q q
    ·rw[List.mem_singleton.mp q];exact hP
   ·intro Q hQ;rcases List.mem_append.mp hQ with q | q
    ·exact h2 Q q
    ·rw[List.mem_singleton.mp q];exact List.ne_nil_of_mem hwP
   ·intro Q hQ;rcases List.mem_append.mp hQ with q | q
    ·exact h3 Q q
    ·rw[List.mem_singleton.mp q];exact hs
   ·intro u hu;rcases List.mem_append.mp hu with q | q
    ·obtain⟨Q,hQ,q⟩:=h4 u q;exact⟨Q,List.mem_append_left _ hQ,q⟩
    ·rw[List.mem_singleton.mp q];exact⟨P,List.mem_append_right _ (List.mem_singleton.mpr rfl),hwP⟩
theorem Rq:∀ ds m R,ds.length=jI.length->lK ds m R->zP (EN R) (bA Af ds) m:=by
 rintro ds m R hl ⟨k,l,may,rfl,hm,h⟩;refine⟨[],rfl,Nat.zero_le _,fun c hc=>?_⟩;refine⟨_,rfl,.inr ⟨_,rfl,?_⟩⟩;refine Fm hm hc ?_ may [] [] none _ rfl (Kn.refl.new hc) aZ (fun P q=>nomatch q) (fun P q=>nomatch q) (fun P q=>nomatch q) (fun P q=>nomatch q) (Nat.le_refl _);intro o3 Ps m' kn hp hm';exact⟨_,rfl,_,hm',h Ps m' kn hp⟩
end K38
namespace K38
open PySem PySem.Spec PyProof.Rows L2 DL K01
theorem Kz{α:Type}(xs:List α)(lo hi:Option Int):(cM xs lo hi).Sublist xs:=(List.take_sublist _ _).trans (List.drop_sublist _ _)
theorem U5{α:Type}{xs:List α}{r:Int}(h0:0<=r)(hx:xs≠[]):cM xs none (some (1+r))≠[]:=by
 obtain⟨n,rfl⟩:∃ n:Nat,r=n:=⟨r.toNat,by omega⟩
 have e:(1:Int)+(n:Int)=((1+n:Nat):Int):=by push_cast;rfl
 have:=List.length_pos_iff.mpr hx
 unfold cM;rw[HT.sIx_none,e,HT.sIx_nat,List.drop_zero];intro q;have:=congrArg List.length q
 rw[List.length_take,List.length_nil]at this;omega
theorem u7{α:Type}{xs:List α}{r:Int}(h0:0<=r):(cM xs none (some r)++cM xs (some (r+1)) none).Sublist xs:=by
 obtain⟨n,rfl⟩:∃ n:Nat,r=n:=⟨r.toNat,by omega⟩
 have e:(n:Int)+1=((n+1:Nat):Int):=by push_cast;rfl
 unfold cM;rw[HT.sIx_none,HT.sIx_none,e,HT.sIx_nat,HT.sIx_nat,List.drop_zero];have q:(xs.take (min n xs.length-0)).Sublist (xs.take n):=by
  by_cases c:n<=xs.length
  ·rw[Nat.min_eq_left c];exact List.Sublist.refl _
  ·rw[Nat.min_eq_right (by omega),List.take_of_length_le (i:=n) (by omega)]
   exact List.take_sublist _ _
 have p:((xs.drop (min (n+1) xs.length)).take (xs.length-min (n+1) xs.length)).Sublist (xs.drop n):=by
  refine(List.take_sublist _ _).trans ?_
  by_cases c:n+1<=xs.length
  ·rw[Nat.min_eq_left c];exact List.drop_sublist_drop_left _ (by omega)
  ·rw[Nat.min_eq_right (by omega),List.drop_length]
   exact List.nil_sublist _
 have:=q.append p
 rw[List.take_append_drop]at this;exact this
theorem G2{k l:Bool}{zs:List Str}(hz:∀ u∈zs,u∈WS k l)(h:zs≠[]):AR k l zs≠[]:=by
 obtain⟨z,hz'⟩:=List.exists_mem_of_ne_nil _ h;rw[wO hz];exact List.ne_nil_of_mem (Gm hz z hz')
theorem Wv:∀ ds m R,ds.length=mG.length->rL ds m R->Fr (EN R) (bA xW ds) m:=by
 rintro ds m R hl ⟨a,k,l,L,rfl,hL,ht,h⟩;obtain⟨w1,w2⟩:=lY k l;have lw:(((WS k l).map PyData.str).length:Int)=((WS k l).length:Int):=by rw[List.length_map]
 refine⟨_,rfl,rfl,iC (n:=6) (by decide) (by decide) (by omega) (by decide) (Fed.refl ht) fun bW m1 v0 v1 f1=>?_⟩
 refine⟨_,rfl,rfl,k,l,rfl,fun m2 k2=>?_⟩;have f2:Fed 1 L m m2 a:=(f1.kn k2).mono (by decide)
 refine⟨_,rfl,?_⟩;refine⟨rfl,rfl,qP,_,rfl,?_⟩;rw[rX]
 by_cases c0:bW=0
 ·refine cL (decide_eq_true c0) ⟨_,rfl,Nat.zero_le _,_,rfl,_,rfl,sz (n:=2) (by decide),_,rfl,rfl,iC (n:=2) (by decide) (by decide) (by omega) (by decide) f2 fun r m3 r0 r1 f3=>?_⟩
  obtain rfl | rfl:r=0\/r=1:=by omega
  ·exact⟨_,rfl,h [] m3 (List.nil_sublist _) (f3.mono (by decide))⟩
  ·exact⟨_,rfl,h (WS k l) m3 (List.Sublist.refl _) (f3.mono (by decide))⟩
 ·refine bR (decide_eq_false c0) ⟨_,rfl,_,rfl,_,rfl,_,rfl,_,rfl,rfl,iC (n:=(((WS k l).map PyData.str).length:Int)) (by omega) (by omega) (by omega) (by decide) f2 fun r m3 r0 r1 f3=>?_⟩
  obtain⟨w,hw,e⟩:=Ly r0 r1;refine⟨_,e,rfl,a,k,l,w,L+(1+1),rfl,hw,by omega,f3.1,fun zs m4 hz hwz f4=>?_⟩
  have f5:Fed 16 L m m4 a:=(f3.next2 f4).mono (by decide)
  refine⟨_,rfl,?_⟩;refine⟨rfl,rfl,qP,_,rfl,?_⟩;rw[rX]
  by_cases c1:bW=1
  ·refine cL (decide_eq_true c1) ⟨_,rfl,_,rfl,_,rfl,rfl,iC (n:=(((WS k l).map PyData.str).length:Int)) (by omega) (by omega) (by omega) (by decide) f5 fun r m5 r0 r1 f6=>?_⟩
   obtain⟨w,hw,e⟩:=Ly r0 r1;exact⟨_,e,_,rfl,sz (n:=1) (by decide),h [w] m5 (List.singleton_sublist.mpr hw) (f6.mono (by decide))⟩
  ·refine bR (decide_eq_false c1) ?_;refine⟨_,rfl,?_⟩;refine⟨rfl,rfl,qP,_,rfl,?_⟩;rw[rX]
   by_cases c2:bW=2
   ·exact cL (decide_eq_true c2) ⟨_,rfl,h zs m4 hz (f5.mono (by decide))⟩
   ·refine bR (decide_eq_false c2) ⟨_,rfl,_,rfl,_,rfl,rfl,iC (n:=3) (by decide) (by decide) (by omega) (by decide) f5 fun r m5 r0 r1 f6=>?_⟩
    have hcz:May k l (cM zs none (some (1+r))):=(Kz _ _ _).trans hz
    refine⟨_,rfl,.inl ⟨_,rfl,rfl,k,l,cM zs none (some (1+r)),by rw[sJ],hcz,fun m6 k6=>?_⟩⟩
    have f7:=f6.kn k6
    have ne:=G2 hcz.mem (U5 (xs:=zs) r0 (List.ne_nil_of_mem hwz))
    have hA:May k l (AR k l (cM zs none (some (1+r)))):=BW
    generalize AR k l (cM zs none (some (1+r)))=B at ne hA
    have bl:=hA.len
    have lp:=List.length_pos_iff.mpr ne
    have lb:((B.map PyData.str).length:Int)=(B.length:Int):=by rw[List.length_map]
    refine⟨_,rfl,_,rfl,rfl,iC (n:=((B.map PyData.str).length:Int)) (by omega) (by omega) (by omega) (by decide) f7 fun q m8 q0 q1 f8=>?_⟩
    refine⟨_,rfl,?_⟩;refine⟨rfl,rfl,qP,_,rfl,?_⟩;rw[rX]
    by_cases c3:bW=3
    ·refine cL (decide_eq_true c3) ⟨_,rfl,_,rfl,_,rfl,.inl ⟨_,rfl,_,rfl,_,rfl,_,rfl,.inl ⟨_,rfl,?_,?_⟩⟩⟩
     ·have z1:=yR (B.map PyData.str) none (some q)
      have z2:=yR (B.map PyData.str) (some (q+1)) none
      rw[List.length_map]at z1 z2;exact sz (by omega)
     ·rw[sJ,sJ,<- List.map_append];exact h _ m8 ((u7 q0).trans hA) (f8.mono (by decide))
    ·exact bR (decide_eq_false c3) ⟨_,rfl,h B m8 hA (f8.mono (by decide))⟩
theorem Ij{m:Mu}{Q:List PyData->Mu->Prop}:∀ (todo:List Str) (acc:List Bool) (o:Option D),acc.length+todo.length<=100->Q ((acc++todo.map fun _=>true).map .bool) m ->
  cJ (gN 0) cW (pT (aA 0) "str") ((todo.map .str).map .dat) (acc.map .bool) [o] m Q
 | [],acc,o,_,h=>by rw[List.map_nil,List.append_nil]at h;exact h
 | z::todo,acc,o,hl,h=>by
  have hl:acc.length+(todo.length+1)<=100:=hl
  refine⟨_,rfl,_,rfl,_,rfl,?_,?_⟩
  ·rw[List.length_map];exact Nat.lt_of_lt_of_le (by omega:acc.length<101) (sz (by decide))
  ·have:=Ij (m:=m) (Q:=Q) todo (acc++[true]) (some (.dat (.str z))) (by simp;omega) (by simpa using h)
   rw[List.map_append]at this;exact this
theorem Be{α:Type}(zs:List α):decide (false∈zs.map fun _=>true)=false:=by
 rw[decide_eq_false_iff_not];intro q;obtain⟨_,_,e⟩:=List.mem_map.mp q
 cases e
theorem Cw{us:List Str}{m:Mu}{Q:List PyData->Mu->Prop}:∀ (todo sel:List Str) (o:Option D),sel.length+todo.length<=13->Q ((sel++todo.filter fun z=>decide (z∈us)).map .str) m ->
  cJ (gN 0) (bJ (aN eA (aA 0) (aA 1))) (aA 0) ((todo.map .str).map .dat) (sel.map .str) [o,some (.dat (.tuple (us.map .str)))] m Q
 | [],sel,_,_,h=>by rw[List.filter_nil,List.append_nil]at h;exact h
 | u::todo,sel,o,hl,h=>by
  have hl:sel.length+(todo.length+1)<=13:=hl
  refine⟨_,rfl,_,rfl,us,rfl,_,rfl,?_⟩
  by_cases c:u∈us
  ·rw[List.filter_cons_of_pos (by simpa using c)]at h
   have:=Cw (us:=us) (m:=m) (Q:=Q) todo (sel++[u]) (some (.dat (.str u))) (by simp;omega) (by simpa using h)
   rw[List.map_append]at this;refine cL (decide_eq_true c) ⟨_,rfl,_,rfl,?_,this⟩;rw[List.length_map];exact Nat.lt_of_lt_of_le (by omega:sel.length<100) (sz (by decide))
  ·rw[List.filter_cons_of_neg (by simpa using c)]at h
   exact bR (decide_eq_false c) (Cw todo sel _ (by omega) h)
theorem iN{k l:Bool}{zs:List Str}(h:∀ z∈zs,z∈WS k l):PyData.canLayAll0 (zs.map .str)=true:=Fk fun z q=>Fd k l z (h z q)
theorem yI(zs:List Str):(PyData.tuple (zs.map .str)).depth<=100:=by
 have:=sX zs
 simp only[PyData.depth];omega
theorem Hk(zs:List Str):(PyData.list (zs.map .str)).depth<=100:=by
 have:=sX zs
 simp only[PyData.depth];omega
theorem Lo(xs ys:List Str):PyData.eqv (.tuple (xs.map .str)) (.tuple (ys.map .str))=decide (xs=ys):=by
 rw[<- uZ];simp[PyData.eqv]
theorem Kh(xs ys:List Str):PyData.eqv (.list (xs.map .str)) (.list (ys.map .str))=decide (xs=ys):=by
 rw[<- uZ];simp[PyData.eqv]
theorem Yn:∀ ds m R,ds.length=kZ.length->nW ds m R->zK (EN R) (bA Bb ds) m:=by
 rintro ds m R hl ⟨k,l,zs,rfl,hz,h⟩;have zl:=hz.len
 refine⟨_,rfl,_,rfl,_,rfl,?_⟩;refine bR rfl ?_;refine⟨_,rfl,.inr ⟨_,rfl,?_⟩⟩;refine Ij zs [] none (by simp;omega) ?_
 rw[List.nil_append];refine⟨_,rfl,_,rfl,?_⟩;rw[Be];refine bR rfl ?_;refine⟨_,rfl,_,rfl,rfl,k,l,rfl,fun m1 k1=>.inl ⟨_,rfl,?_⟩⟩;refine Cw (us:=zs) (WS k l) [] none (by have:=(lY k l).2;simp;omega) ?_
 rw[List.nil_append,Yb hz];refine⟨iN hz.mem,iN hz.mem,Hk zs,?_⟩;rw[Kh,decide_eq_true rfl];exact h m1 k1
end K38
namespace K38
open PySem PySem.Spec PyProof.Rows L2 DL K01
theorem Pz{k l:Bool}{m0:Mu}{Q:List PyData->Mu->Prop}:∀ (todo:List (List Str)) (acc:List Bool) (o:Option D) (m:Mu),(∀ P∈todo,May k l P)->(∀ P∈todo,P≠[])->acc.length+todo.length<=100->Kn m0 m->(∀ m',Kn m0 m'->Q ((acc++todo.map fun _=>true).map .bool) m') ->
  cJ (gN 0) cW (rZ (bB 2 nW (aB (aA 1) (aB (aA 0) aF))) (aN iS (bS iI (aB (aA 0) aF)) (aC (.int 0)))) ((todo.map TS).map .dat) (acc.map .bool) [o,some (.dat (bH k l))] m Q
 | [],acc,o,m,_,_,_,kn,h=>by
  have:=h m kn
  rw[List.map_nil,List.append_nil]at this;exact this
 | P::todo,acc,o,m,h1,h2,hl,kn,h=>by
  have hl:acc.length+(todo.length+1)<=100:=hl
  refine⟨_,rfl,_,rfl,rfl,k,l,P,rfl,h1 P List.mem_cons_self,fun m1 k1=>⟨_,rfl,cL rfl ⟨_,rfl,_,rfl,?_,?_⟩⟩⟩
  ·rw[List.length_map];exact Nat.lt_of_lt_of_le (by omega:acc.length<101) (sz (by decide))
  ·have ne:=h2 P List.mem_cons_self
   have e:decide ((((P.map PyData.str).length:Nat):Int) > 0)=true:=by
    rw[List.length_map];have:=List.length_pos_iff.mpr ne
    exact decide_eq_true (by omega)
   have:=Pz (k:=k) (l:=l) (m0:=m0) (Q:=Q) todo (acc++[true]) (some (.dat (TS P))) m1 (fun P q=>h1 P (List.mem_cons_of_mem _ q)) (fun P q=>h2 P (List.mem_cons_of_mem _ q)) (by simp;omega) (kn.trans k1) (fun m' k'=>by simpa using h m' k')
   rw[List.map_append]at this;show cJ _ _ _ _ (acc.map PyData.bool++[.bool (decide ((((P.map PyData.str).length:Nat):Int) > 0))]) _ _ _
   rw[e];exact this
theorem Gv{k l:Bool}{m0:Mu}{Q:List PyData->Mu->Prop}:∀ (todo:List (List Str)) (acc:List Bool) (o:Option D) (m:Mu),(∀ P∈todo,Pl k l P)->acc.length+todo.length<=100->Kn m0 m->(∀ m',Kn m0 m'->Q ((acc++todo.map fun _=>true).map .bool) m') ->
  cJ (gN 0) cW (aN cK (bB 2 iA (aB (aA 1) (aB (aA 0) aF))) (aA 0)) ((todo.map TS).map .dat) (acc.map .bool) [o,some (.dat (bH k l))] m Q
 | [],acc,o,m,_,_,kn,h=>by
  have:=h m kn
  rw[List.map_nil,List.append_nil]at this;exact this
 | P::todo,acc,o,m,h1,hl,kn,h=>by
  have hl:acc.length+(todo.length+1)<=100:=hl
  have hP:=h1 P List.mem_cons_self
  have e:AR k l P=P:=(wO hP.1).trans hP.2
  refine⟨_,rfl,_,rfl,rfl,k,l,P,rfl,hP.may,fun m1 k1=>?_⟩;rw[e];refine⟨_,rfl,iN hP.1,iN hP.1,yI P,?_⟩;rw[Lo,decide_eq_true rfl];refine⟨_,rfl,?_,?_⟩
  ·rw[List.length_map];exact Nat.lt_of_lt_of_le (by omega:acc.length<101) (sz (by decide))
  ·have:=Gv (k:=k) (l:=l) (m0:=m0) (Q:=Q) todo (acc++[true]) (some (.dat (TS P))) m1 (fun P q=>h1 P (List.mem_cons_of_mem _ q)) (by simp;omega) (kn.trans k1) (fun m' k'=>by simpa using h m' k')
   rw[List.map_append]at this;exact this
theorem Hi{k l:Bool}{may:List Str}{Ps:List (List Str)}{c:Addr}{m0:Mu}{E:Ends2}(c0:m0 c=none)(fin:∀ o4 (zs:List Str) m,Kn m0 m->m c=some (.l (zs.map .str))->(∀ z,z∈zs ↔ ∃ P∈Ps,z∈P)->E.nx [some (.dat (bH k l)),some (.dat (TS may)),some (.dat (TP Ps)),some (.cel c),o4] m) :
  ∀ (todo done:List (List Str)) (zs:List Str) (o4:Option D) (m:Mu),done++todo=Ps->Kn m0 m->m c=some (.l (zs.map .str))->(∀ z,z∈zs ↔ ∃ P∈done,z∈P)->zs.length<=13*done.length->(∀ P∈Ps,P.length<=13)->Ps.length<=13 ->
   gE (gN 4) Lf E ((todo.map TS).map .dat) [some (.dat (bH k l)),some (.dat (TS may)),some (.dat (TP Ps)),some (.cel c),o4] m
 | [],done,zs,o4,m,e,kn,hm,hz,_,_,_=>by
  rw[List.append_nil]at e;subst e;exact fin _ zs m kn hm hz
 | P::todo,done,zs,o4,m,e,kn,hm,hz,zl,pl,psl=>by
  have hP:P.length<=13:=pl P (by rw[<- e];simp)
  have dl:done.length<=13:=by
   rw[<- e,List.length_append]at psl;omega
  refine⟨_,rfl,c,rfl,⟨_,hm⟩,_,rfl,_,_,.inl rfl,hm,?_,?_⟩
  ·rw[List.length_map,List.length_map];exact sz (by omega)
  ·refine Hi c0 fin todo (done++[P]) (zs++P) _ _ (by rw[<- e];simp) (kn.new c0) (by rw[aZ,List.map_append]) (fun z=>?_) (by simp;omega) pl psl
   rw[List.mem_append,hz]
   constructor
   ·rintro (⟨Q,hQ,q⟩ | q)
    ·exact⟨Q,List.mem_append_left _ hQ,q⟩
    ·exact⟨P,List.mem_append_right _ (List.mem_singleton.mpr rfl),q⟩
   ·rintro⟨Q,hQ,q⟩;rcases List.mem_append.mp hQ with r | r
    ·exact .inl ⟨Q,r,q⟩
    ·rw[List.mem_singleton.mp r]at q;exact .inr q
theorem A4:∀ ds m R,ds.length=lQ.length->rN ds m R->Fb (EN R) (bA xM ds) m:=by
 rintro ds m R hl ⟨k,l,may,Ps,rfl,hmay,hp,h⟩;have pl:=hp.len
 refine⟨_,rfl,_,rfl,_,rfl,?_⟩;refine bR rfl ?_;refine⟨_,rfl,.inr ⟨_,rfl,?_⟩⟩;refine Pz (m0:=m) Ps [] none m (fun P q=>(hp.pl P q).may) hp.ne (by simp;omega) Kn.refl fun m1 k1=>?_
 rw[List.nil_append];refine⟨_,rfl,_,rfl,?_⟩;rw[Be];refine bR rfl ?_;refine⟨_,rfl,.inr ⟨_,rfl,?_⟩⟩;refine Gv (m0:=m) Ps [] none m1 hp.pl (by simp;omega) k1 fun m2 k2=>?_
 rw[List.nil_append];refine⟨_,rfl,_,rfl,?_⟩;rw[Be];refine bR rfl ?_;refine⟨[],rfl,Nat.zero_le _,fun c hc=>?_⟩;have c0:=fB k2 hc
 refine⟨_,rfl,.inr ⟨_,rfl,?_⟩⟩;refine Hi (m0:=m) c0 ?_ Ps [] [] none _ rfl (k2.new c0) aZ (fun z=>by simp) (Nat.le_refl _) (fun P q=>(hp.pl P q).may.len) pl
 intro o4 zs m3 k3 hm3 hz;have ml:=hmay.len
 have zm:∀ z,z∈zs↔z∈may:=fun z=>by
  rw[hz];exact⟨fun⟨P,hP,q⟩=>hp.sub P hP z q,fun q=>hp.all z q⟩
 refine⟨_,rfl,c,zs,rfl,hm3,⟨may,by omega,fun z q=>(zm z).mp q⟩,fun ys yp ys'=>?_⟩
 refine⟨_,rfl,may,rfl,by omega,fun us up us'=>?_⟩
 obtain⟨n1,n2,_⟩:=Ej zs;have ndm:may.Nodup:=hmay.nodup (Ie k l)
 have e:ys=us:=Pu (Ju ys' (yp.nodup_iff.mpr n1)) (Ju us' (up.nodup_iff.mpr ndm)) fun z=>by
  exact(yp.mem_iff.trans ((n2 z).trans (zm z))).trans up.mem_iff.symm
 subst e;have yw:∀ z∈ys,z∈WS k l:=fun z q=>hmay.mem z (up.mem_iff.mp q)
 refine⟨iN yw,iN yw,Hk ys,?_⟩;rw[Kh,decide_eq_true rfl];exact h m3 k3
theorem Rx:∀ z∈hU,(PyData.str z).weight<=20:=by decide +kernel
theorem V7{k l:Bool}{zs:List Str}(h:May k l zs):(TS zs).showable=true/\(TS zs).shown.length<=sizeLine/\(TS zs).depth<=100:=by
 have sh:∀ zs:List Str,PyData.showableAll (zs.map .str)=true:=fun zs=>by
  induction zs with
  | nil=>rfl
  | cons z zs ih=>simp only[List.map_cons,PyData.showableAll,PyData.showable,ih,Bool.and_self]
 have is:∀ zs:List Str,PyData.intsShortAll 8 (zs.map .str)=true:=fun zs=>by
  induction zs with
  | nil=>rfl
  | cons z zs ih=>simp only[List.map_cons,PyData.intsShortAll,PyData.intsShort,ih,Bool.and_self]
 have w:∀ zs:List Str,(∀ z∈zs,z∈hU)->PyData.weightAll (zs.map .str)<=21*zs.length:=fun zs=>by
  induction zs with
  | nil=>intro _;decide
  | cons z zs ih =>
   intro q;have a:=ih fun u hu=>q u (List.mem_cons_of_mem _ hu)
   have b:=Rx z (q z List.mem_cons_self)
   simp only[List.map_cons,PyData.weightAll,List.length_cons];omega
 refine⟨sh zs,PyData.shown_fits (B:=8) (by decide) (by decide) (PyData.leavesShort_of_canLay0 8 _ (iN h.mem) (is zs)) ?_,yI zs⟩
 have:=w zs fun z q=>vN k l z (h.mem z q)
 have:=h.len
 simp only[PyData.weight];omega
theorem Vg(b:Bool):(PyData.bool b).showable=true/\(PyData.bool b).shown.length<=sizeLine/\(PyData.bool b).depth<=100:=by
 cases b
 ·exact⟨rfl,sz (by decide),by decide⟩
 ·exact⟨rfl,sz (by decide),by decide⟩
theorem y4:∀ ds m R,ds.length=nC.length->qL ds m R->zY (EN R) (bA zV ds) m:=by
 rintro ds m R hl ⟨k,l,may,rfl,hm,h⟩;have e:=wO hm.mem
 refine⟨_,rfl,_,rfl,rfl,k,l,may,rfl,hm,fun m1 k1=>?_⟩;rw[e];have hP:Pl k l (PA k l may):=Io
 have hA:May k l (PA k l may):=hP.may
 obtain⟨s1,s2,s3⟩:=V7 hA;refine⟨_,rfl,_,rfl,rfl,k,l,may,rfl,hm.mem,?_⟩;refine⟨s1,s2,s3,_,rfl,s1,s2,s3,_,rfl,bR (by simp) ?_⟩
 refine⟨_,rfl,_,rfl,rfl,k,l,may,rfl,hm.mem,?_⟩;obtain⟨b1,b2,b3⟩:=Vg (decide (PA k l may=may));refine⟨b1,b2,b3,_,rfl,_,rfl,iN hm.mem,iN hA.mem,yI may,?_⟩;rw[Lo,show decide (may=PA k l may)=decide (PA k l may=may) from by rw[Bool.eq_iff_iff];simp only[decide_eq_true_eq];exact eq_comm]
 refine⟨b1,b2,b3,_,rfl,bR (by simp) ?_⟩
 refine⟨_,rfl,_,rfl,rfl,k,l,PA k l may,rfl,hA.mem,?_⟩;rw[decide_eq_true hP.2];refine⟨_,rfl,bR rfl ?_⟩;refine⟨_,rfl,_,rfl,_,rfl,_,rfl,rfl,k,l,may,rfl,hm,fun Ps m2 k2 hp=>?_⟩;exact⟨rfl,k,l,may,Ps,rfl,hm,hp,fun m3 k3=>h m3 ((k1.trans k2).trans k3)⟩
def S4(p:PyData):Prop:=∃ (k l:Bool) (zs:List Str),May k l zs/\p=.tuple [bH k l,TS zs]
theorem G5:∀ ds m R,ds.length=vO.length->nN ds m R->zS (EN R) (bA Gd ds) m:=by
 rintro ds m R hl ⟨ns,rfl,hn,h⟩;refine⟨_,rfl,rfl,ns,rfl,hn,fun a m1 ht=>?_⟩;refine⟨_,rfl,sz (n:=2) (by decide),[],rfl,Nat.zero_le _,fun c hc=>?_⟩
 have ac:a≠c:=by
  rintro rfl;obtain⟨_,_,_,_,e,_⟩:=ht;rw[hc]at e
  cases e
 refine⟨12,rfl,by decide,by decide,?_⟩
 refine C2 (n:=12) (fun i d m'=>(Tp (100*i) m' a/\∃ rows:List PyData,m' c=some (.l rows)/\rows.length<=i/\∀ p∈rows,S4 p)/\∃ o4 o5 o6,d=[some (.dat (.list (ns.map .int))),some (.cel a),some (.dat (.list [.str "point",.str "stretch"])),some (.cel c),o4,o5,o6]) ?_ ?_ _ _ ⟨⟨?_,[],aZ,Nat.le_refl _,fun p hp=>nomatch hp⟩,_,_,_,rfl⟩
 ·rintro d m' ⟨⟨_,rows,e,rl,rr⟩,o4,o5,o6,rfl⟩;have cl:=yR rows none (some 2)
  refine⟨_,rfl,_,rfl,_,rfl,.inr (.inr (.inr ⟨c,rows,rfl,e,rows,e,sz (by omega),.inl ⟨_,rfl,?_⟩⟩))⟩
  refine Ez (fun d m''=>Kn m' m''/\∃ o5 o6,d=[some (.dat (.list (ns.map .int))),some (.cel a),some (.dat (.list [.str "point",.str "stretch"])),some (.cel c),o4,o5,o6]) ?_ _ ?_ _ _ ⟨Kn.refl,_,_,rfl⟩
  ·rintro d m'' ⟨kn,o5,o6,rfl⟩;refine⟨_,rfl,sz (n:=2) (by decide),_,rfl,Nat.zero_le _,rfl,true,false,[],rfl,List.nil_sublist _,fun Ps m3 k3 hp=>?_⟩
   have:Ps=[]:=by
    cases Ps with
    | nil=>rfl
    | cons P Ps =>
     obtain⟨z,hz⟩:=List.exists_mem_of_ne_nil _ (hp.ne P List.mem_cons_self);exact nomatch hp.sub P List.mem_cons_self z hz
   subst this;exact⟨_,rfl,Nat.zero_le _,rfl,rfl,by simp[PyData.depth,PyData.depthAll],h m3⟩
  ·rintro x hx K hK d m2 ⟨kn,o5,o6,rfl⟩;obtain⟨p,hp,rfl⟩:=List.mem_map.mp hx;have hp:p∈rows:=by
    rcases List.mem_append.mp hp with q | q
    ·exact q
    ·exact(Kz _ _ _).subset q
   obtain⟨k,l,zs,hz,rfl⟩:=rr p hp;refine⟨_,rfl,rfl,rfl,?_⟩;refine⟨_,rfl,_,rfl,rfl,k,l,zs,rfl,hz,fun m3 k3=>⟨_,rfl,bR rfl (hK _ _ ⟨kn.trans k3,_,_,rfl⟩)⟩⟩
 ·rintro i hi K hK d m2 ⟨⟨ht2,rows,e2,rl,rr⟩,o4,o5,o6,rfl⟩;have hL:(100:Int)*i<=2000:=by omega
  generalize eL:(100:Int)*i=L at ht2 hL
  refine⟨_,rfl,_,rfl,rfl,iC (n:=4) (by decide) (by decide) (by omega) (by decide) (Fed.refl ht2) fun r m3 r0 r1 f3=>?_⟩
  obtain⟨k,ek⟩:=Kq (i:=if decide (0<r)=true then 1 else 0) (by split<;>decide) (by split<;>decide)
  refine⟨_,ek,_,rfl,_,rfl,rfl,iC (n:=4) (by decide) (by decide) (by omega) (by decide) f3 fun r' m4 r0' r1' f4=>?_⟩
  obtain⟨l,el⟩:=Kq (i:=if decide (0<r')=true then 1 else 0) (by split<;>decide) (by split<;>decide)
  refine⟨_,el,_,rfl,sz (n:=2) (by decide),?_⟩
  have e4:m4 c=some (.l rows):=by rw[f4.2 c ac.symm (by rw[e2];rfl),e2]
  refine⟨_,rfl,c,rfl,⟨_,e4⟩,_,rfl,_,rfl,_,rfl,rfl,a,k,l,L+(0+1+1),rfl,by omega,f4.1,fun zs m5 hz f5=>?_⟩
  have f6:=f4.next2 f5
  have e5:m5 c=some (.l rows):=by rw[f6.2 c ac.symm (by rw[e2];rfl),e2]
  refine⟨_,rfl,sz (n:=2) (by decide),rows,_,rfl,e5,?_,?_⟩
  ·exact Nat.lt_of_lt_of_le (Nat.lt_of_le_of_lt rl (by omega:i<100)) (sz (by decide))
  refine hK _ _ ⟨⟨?_,rows++[_],aZ,by simp;omega,fun p hp=>?_⟩,_,_,_,rfl⟩
  ·obtain⟨ns',i',j',t',e',t0,t1⟩:=f6.1;exact⟨ns',i',j',t',by rw[bG ac];exact e',t0,by push_cast;omega⟩
  ·rcases List.mem_append.mp hp with q | q
   ·exact rr p q
   ·rw[List.mem_singleton.mp q];exact⟨k,l,zs,hz,rfl⟩
 ·obtain⟨ns',i',j',t',e',t0,t1⟩:=ht;exact⟨ns',i',j',t',by rw[bG ac];exact e',t0,by simpa using t1⟩
end K38
namespace HD
open PySem PySem.W
section
variable {α β:Type}{tb:String->Option Builtin}{p:Program}{w:World}{n₀:Nat}{ann:Option Value}{c:Code}{B:List Frame}
theorem Na{b:Nat}:∀ {n m:Nat} {s s1 s2:Shared} {t t1 t2:Thread},segGo tb p w n₀ ann b n s t=some (s1,t1)->segGo tb p w n₀ ann b m s1 t1=some (s2,t2)->segGo tb p w n₀ ann b (n+m) s t=some (s2,t2)
 | 0,m,s,s1,s2,t,t1,t2,h,k=>by
  obtain⟨rfl,rfl⟩:s=s1/\t=t1:=by simpa[segGo] using h
  rw[Nat.zero_add];exact k
 | n+1,m,s,s1,s2,t,t1,t2,h,k=>by
  rw[show n+1+m=n+m+1 by omega]
  unfold segGo at h ⊢
  cases he:endAt b t with
  | some f=>rw[he]at h;cases h
  | none =>
   rw[he]at h
   cases hk:stepOk n₀ ann t with
   | false=>rw[hk]at h;cases h
   | true =>
    rw[hk]at h
    cases hs:step (denote tb) p w s t with
    | halt o s'=>rw[hs]at h;cases h
    | go s' t'=>rw[hs]at h;exact Na h k
def R(N:Nat)(tb:String->Option Builtin)(p:Program)(w:World)(n₀:Nat)(ann:Option Value)(c:Code)(B:List Frame)(m:Sem α)(s:Shared)(pos:Pos)(a:α)(s':Shared)(pos':Pos):Prop :=
 ∀ (K:α->Sem Fin) (H:Value->Sem Fin) (gd:Bool->Bool) (lv:List Value->List Value),∃ n,n<=N/\segGo tb p w n₀ ann B.length n s ⟨m.wrap K H gd lv,c,pos,B⟩=some (s',⟨K a,c,pos',B⟩)
variable {s s1 s':Shared}{pos pos1 pos':Pos}{N N1 N2:Nat}
theorem R.pure{a:α}:R 0 tb p w n₀ ann c B (Pure.pure a) s pos a s pos:=fun K H gd lv=>⟨0,Nat.le_refl _,rfl⟩
theorem R.mono{m:Sem α}{a:α}(hN:N1<=N)(h:R N1 tb p w n₀ ann c B m s pos a s' pos'):R N tb p w n₀ ann c B m s pos a s' pos':=fun K H gd lv=>let ⟨n,l,e⟩:=h K H gd lv;⟨n,Nat.le_trans l hN,e⟩
theorem R.bind{m:Sem α}{f:α->Sem β}{a:α}{b:β}(h:R N1 tb p w n₀ ann c B m s pos a s1 pos1)(k:R N2 tb p w n₀ ann c B (f a) s1 pos1 b s' pos'):R (N1+N2) tb p w n₀ ann c B (m>>=f) s pos b s' pos':=fun K H gd lv=>by
 obtain⟨n1,l1,e1⟩:=h (fun a=>(f a).wrap K H gd lv) H gd lv;obtain⟨n2,l2,e2⟩:=k K H gd lv;refine⟨n1+n2,Nat.add_le_add l1 l2,?_⟩;have e:(m>>=f).wrap K H gd lv=m.wrap (fun a=>(f a).wrap K H gd lv) H gd lv:=by
  rw[Sem.bind_eq_wrap',Sem.wrap_wrap];rfl
 rw[e];exact Na e1 e2
theorem R.hold{m:Sem α}{vs:List Value}{a:α}(h:R N tb p w n₀ ann c B m s pos a s' pos'):R N tb p w n₀ ann c B (holding vs m) s pos a s' pos':=by
 unfold holding
 split
 ·exact h
 ·intro K H gd lv;rw[Sem.keep_eq_wrap,Sem.wrap_wrap];exact h K H _ _
theorem R.leaf{m:Sem α}{a:α}{sT sT':SharedT}(n:Nat)(h:∀ (K:α->Sem Fin) (H:Value->Sem Fin) (gd:Bool->Bool) (lv:List Value->List Value),segGoT tb p w n₀ ann B.length n sT ⟨m.wrap K H gd lv,c,pos,B⟩=some (sT',⟨K a,c,pos',B⟩)):R n tb p w n₀ ann c B m sT.abs pos a sT'.abs pos':=fun K H gd lv=>⟨n,Nat.le_refl _,segGo_of (h K H gd lv)⟩
theorem R.piece{m:Sem Flow}{q:Pos}(h:R N tb p w n₀ ann c [topFrame q] m s pos .next s' pos'):∃ n,n<=N+1/\segRun tb p w n₀ ann 1 n s ⟨m.wrap doneF deadEnd id id,c,pos,[topFrame q]⟩=some (.next,s',c,pos'):=by
 obtain⟨n,l,e⟩:=h doneF deadEnd id id;exact⟨n+1,Nat.succ_le_succ l,seg_go (N:=1) e rfl⟩
end
end HD
namespace HD
open PySem PySem.W
section
variable {α β:Type}{tb:String->Option Builtin}{p:Program}{w:World}{n₀:Nat}{ann:Option Value}{c:Code}{B:List Frame}{s s1 s':Shared}{pos pos1 pos':Pos}
def keysOf:Stmt->List (Option Expr) | .Assign [.Name _ _] (.Dict ks _ _) _=>ks | _=>[]
def uK:Stmt->List Expr | .Assign [.Name _ _] (.Dict _ vs _) _=>vs | _=>[]
def rM:Stmt->Pos | .Assign [.Name _ _] (.Dict _ _ dp) _=>dp | _=>default
def zR:Stmt->Pos | .Assign [.Name _ px] (.Dict _ _ _) _=>px | _=>default
def zH:Stmt->Pos | .Assign _ _ sp=>sp | _=>default
end
end HD
set_option maxHeartbeats 0
namespace H38
open PySem PySem.W HD
open_shared pre for PySem.Challenge.pw_whens_k38_plain_mays_and_parts leaving 28
abbrev prog:Program:=PySem.Challenge.pw_whens_k38_plain_mays_and_parts
abbrev q0:Pos:=⟨0,0,0,0⟩
def st:Stmt:=prog.main.body.getD 2 (.Pass q0)
def mf(k:Nat)(cl:Value)(g:Addr)(clo:List (Str×Addr))(d kd dc pm:Value)(an:Option Addr)(cd ct:Value)(bi:Addr):Obj:=match prog.main.body.getD k (.Pass q0) with
 | .FunctionDef n a b _ _ _ s _ _ _=>⟨cl,none,.func ⟨n,n,a,.stmts b,s,g,clo,d,kd,dc,pm,an,cd,ct,bi⟩,#[]⟩
 | _=>⟨cl,none,.plain,#[]⟩
def tq(xs:List Value):Obj:=⟨.type "tuple",none,.seq xs.toArray,#[]⟩
def fl(xs:List Value):Obj:=⟨.none,none,.fields xs.toArray,#[]⟩
def lf(o:Obj):BT:=.node o .nil .nil
noncomputable def o3(P:Params):Obj:=⟨.type "dict",none,.dict #[⟨PyData.keyHash P "__name__",.str "__name__" 165,.str "law_whens_k38_plain_mays_and_parts" 413⟩,⟨PyData.keyHash P "__doc__",.str "__doc__" 166,.none⟩,⟨PyData.keyHash P "__package__",.str "__package__" 167,.none⟩,⟨PyData.keyHash P "__loader__",.str "__loader__" 168,Value.builtin "__main__.__loader__#opaque"⟩,⟨PyData.keyHash P "__spec__",.str "__spec__" 169,.none⟩,⟨PyData.keyHash P "__annotations__",.str "__annotations__" 170,.ref 6⟩,⟨PyData.keyHash P "__builtins__",.str "__builtins__" 171,.ref 4⟩,⟨PyData.keyHash P "__file__",.str "__file__" 173,.str "/claim/cut.py" 172⟩,⟨PyData.keyHash P "__cached__",.str "__cached__" 174,.none⟩,⟨PyData.keyHash P "ORDER",.str "ORDER" 202,.ref 15⟩,⟨PyData.keyHash P "POINT_WORDS",.str "POINT_WORDS" 231,.ref 16⟩,⟨PyData.keyHash P "WAYS",.str "WAYS" 332,.ref 23⟩,⟨PyData.keyHash P "END_COUNTS",.str "END_COUNTS" 339,.ref 37⟩,⟨PyData.keyHash P "words_of",.str "words_of" 346,.ref 44⟩,⟨PyData.keyHash P "ways_by",.str "ways_by" 355,.ref 51⟩,⟨PyData.keyHash P "how_ends",.str "how_ends" 365,.ref 58⟩,⟨PyData.keyHash P "signs_in",.str "signs_in" 373,.ref 63⟩,⟨PyData.keyHash P "span_of",.str "span_of" 380,.ref 70⟩,⟨PyData.keyHash P "spans_of",.str "spans_of" 386,.ref 75⟩,⟨PyData.keyHash P "plain_around",.str "plain_around" 392,.ref 80⟩,⟨PyData.keyHash P "is_plain",.str "is_plain" 400,.ref 87⟩,⟨PyData.keyHash P "grown_part",.str "grown_part" 406,.ref 92⟩,⟨PyData.keyHash P "plain_parts",.str "plain_parts" 412,.ref 97⟩,⟨PyData.keyHash P "_law_feed",.str "_law_feed" 421,.ref 104⟩,⟨PyData.keyHash P "_law_draw",.str "_law_draw" 433,.ref 111⟩,⟨PyData.keyHash P "_law_order",.str "_law_order" 440,.ref 118⟩,⟨PyData.keyHash P "_law_words",.str "_law_words" 448,.ref 125⟩,⟨PyData.keyHash P "_law_signs",.str "_law_signs" 459,.ref 132⟩,⟨PyData.keyHash P "_law_lays",.str "_law_lays" 465,.ref 137⟩,⟨PyData.keyHash P "_law_around",.str "_law_around" 471,.ref 142⟩,⟨PyData.keyHash P "_law_some",.str "_law_some" 477,.ref 147⟩,⟨PyData.keyHash P "_law_drawn",.str "_law_drawn" 489,.ref 154⟩,⟨PyData.keyHash P "_law_is_may",.str "_law_is_may" 495,.ref 159⟩,⟨PyData.keyHash P "_law_parts_right",.str "_law_parts_right" 501,.ref 164⟩,⟨PyData.keyHash P "_law_right",.str "_law_right" 510,.ref 171⟩,⟨PyData.keyHash P "law",.str "law" 523,.ref 178⟩] 36,#[]⟩
noncomputable def o15(P:Params):Obj:=tq [.str "ahead" 189,.str "meets" 190,.str "overlaps" 191,.str "begins" 192,.str "within" 193,.str "ends" 194,.str "same" 195,.str "ended" 196,.str "holds" 197,.str "begun" 198,.str "lapped" 199,.str "met" 200,.str "behind" 201]
noncomputable def o23(P:Params):Obj:=⟨.type "dict",none,.dict #[⟨PyData.keyHash P "ahead",.str "ahead" 232,.ref 24⟩,⟨PyData.keyHash P "meets",.str "meets" 241,.ref 25⟩,⟨PyData.keyHash P "overlaps",.str "overlaps" 249,.ref 26⟩,⟨PyData.keyHash P "begins",.str "begins" 257,.ref 27⟩,⟨PyData.keyHash P "within",.str "within" 264,.ref 28⟩,⟨PyData.keyHash P "ends",.str "ends" 271,.ref 29⟩,⟨PyData.keyHash P "same",.str "same" 277,.ref 30⟩,⟨PyData.keyHash P "ended",.str "ended" 283,.ref 31⟩,⟨PyData.keyHash P "holds",.str "holds" 290,.ref 32⟩,⟨PyData.keyHash P "begun",.str "begun" 297,.ref 33⟩,⟨PyData.keyHash P "lapped",.str "lapped" 303,.ref 34⟩,⟨PyData.keyHash P "met",.str "met" 309,.ref 35⟩,⟨PyData.keyHash P "behind",.str "behind" 314,.ref 36⟩] 13,#[]⟩
noncomputable def o24(P:Params):Obj:=tq [.int (-1) 234,.int (-1) 236,.int (-1) 238,.int (-1) 240]
noncomputable def o25(P:Params):Obj:=tq [.int (-1) 243,.int (-1) 245,.int 0 246,.int (-1) 248]
noncomputable def o26(P:Params):Obj:=tq [.int (-1) 251,.int (-1) 253,.int 1 254,.int (-1) 256]
noncomputable def o27(P:Params):Obj:=tq [.int 0 258,.int (-1) 260,.int 1 261,.int (-1) 263]
noncomputable def o28(P:Params):Obj:=tq [.int 1 265,.int (-1) 267,.int 1 268,.int (-1) 270]
noncomputable def o29(P:Params):Obj:=tq [.int 1 272,.int (-1) 274,.int 1 275,.int 0 276]
noncomputable def o30(P:Params):Obj:=tq [.int 0 278,.int (-1) 280,.int 1 281,.int 0 282]
noncomputable def o31(P:Params):Obj:=tq [.int (-1) 285,.int (-1) 287,.int 1 288,.int 0 289]
noncomputable def o32(P:Params):Obj:=tq [.int (-1) 292,.int (-1) 294,.int 1 295,.int 1 296]
noncomputable def o33(P:Params):Obj:=tq [.int 0 298,.int (-1) 300,.int 1 301,.int 1 302]
noncomputable def o34(P:Params):Obj:=tq [.int 1 304,.int (-1) 306,.int 1 307,.int 1 308]
noncomputable def o35(P:Params):Obj:=tq [.int 1 310,.int 0 311,.int 1 312,.int 1 313]
noncomputable def o36(P:Params):Obj:=tq [.int 1 315,.int 1 316,.int 1 317,.int 1 318]
noncomputable def o37(P:Params):Obj:=⟨.type "dict",none,.dict #[⟨PyData.keyHash P "point",.str "point" 333,.int 1 334⟩,⟨PyData.keyHash P "stretch",.str "stretch" 335,.int 2 336⟩] 2,#[]⟩
noncomputable def AO(P:Params):Obj:=tq []
noncomputable def i9(P:Params):Obj:=tq [.str "kinds" 343]
noncomputable def J3(P:Params):Obj:=tq []
noncomputable def o43(P:Params):Obj:=⟨.type "code",none,.fields #[.str "words_of" 340,.str "words_of" 341,.str "/claim/cut.py" 342,.int 6 0,.int 1 0,.int 0 0,.int 0 0,.int 3 0,.ref 38,.bool true,.int 181 0,.ref 39,.none,.ref 40,.ref 41,.ref 42,.int 344 0,.int 6 0,.str "/claim/cut.py" 345],#[]⟩
noncomputable def o44(P:Params):Obj:=mf 5 (.type "function") 3 [] .none .none .none (.str "whens.words" 187) none (.ref 43) .none 0
noncomputable def BO(P:Params):Obj:=tq []
noncomputable def Tg(P:Params):Obj:=tq [.str "kinds" 350,.str "word" 351,.str "ways" 352]
noncomputable def AE(P:Params):Obj:=tq []
noncomputable def o50(P:Params):Obj:=⟨.type "code",none,.fields #[.str "ways_by" 347,.str "ways_by" 348,.str "/claim/cut.py" 349,.int 8 0,.int 2 0,.int 0 0,.int 0 0,.int 3 0,.ref 45,.bool true,.int 181 0,.ref 46,.none,.ref 47,.ref 48,.ref 49,.int 353 0,.int 8 0,.str "/claim/cut.py" 354],#[]⟩
noncomputable def o51(P:Params):Obj:=mf 6 (.type "function") 3 [] .none .none .none (.str "whens.words" 187) none (.ref 50) .none 0
noncomputable def AZ(P:Params):Obj:=tq []
noncomputable def E3(P:Params):Obj:=tq [.str "kinds" 359,.str "word" 360,.str "x" 361,.str "y" 362]
noncomputable def z9(P:Params):Obj:=tq []
noncomputable def o57(P:Params):Obj:=⟨.type "code",none,.fields #[.str "how_ends" 356,.str "how_ends" 357,.str "/claim/cut.py" 358,.int 15 0,.int 4 0,.int 0 0,.int 0 0,.int 3 0,.ref 52,.bool true,.int 181 0,.ref 53,.none,.ref 54,.ref 55,.ref 56,.int 363 0,.int 15 0,.str "/claim/cut.py" 364],#[]⟩
noncomputable def o58(P:Params):Obj:=mf 7 (.type "function") 3 [] .none .none .none (.str "whens.words" 187) none (.ref 57) .none 0
noncomputable def j5(P:Params):Obj:=tq []
noncomputable def o62(P:Params):Obj:=⟨.type "code",none,.fields #[.str "signs_in" 368,.str "signs_in" 369,.str "/claim/cut.py" 370,.int 18 0,.int 4 0,.int 0 0,.int 0 0,.int 3 0,.ref 59,.bool true,.int 181 0,.ref 60,.none,.none,.none,.ref 61,.int 371 0,.int 18 0,.str "/claim/cut.py" 372],#[]⟩
noncomputable def o63(P:Params):Obj:=mf 9 (.type "function") 3 [] .none .none .none (.str "whens.plain" 366) none (.ref 62) .none 0
noncomputable def Yj(P:Params):Obj:=tq []
noncomputable def F5(P:Params):Obj:=tq [.str "signs" 377]
noncomputable def O1(P:Params):Obj:=tq []
noncomputable def o69(P:Params):Obj:=⟨.type "code",none,.fields #[.str "span_of" 374,.str "span_of" 375,.str "/claim/cut.py" 376,.int 20 0,.int 1 0,.int 0 0,.int 0 0,.int 3 0,.ref 64,.bool true,.int 181 0,.ref 65,.none,.ref 66,.ref 67,.ref 68,.int 378 0,.int 20 0,.str "/claim/cut.py" 379],#[]⟩
noncomputable def o70(P:Params):Obj:=mf 10 (.type "function") 3 [] .none .none .none (.str "whens.plain" 366) none (.ref 69) .none 0
noncomputable def Qs(P:Params):Obj:=tq []
noncomputable def o74(P:Params):Obj:=⟨.type "code",none,.fields #[.str "spans_of" 381,.str "spans_of" 382,.str "/claim/cut.py" 383,.int 22 0,.int 2 0,.int 0 0,.int 0 0,.int 3 0,.ref 71,.bool true,.int 181 0,.ref 72,.none,.none,.none,.ref 73,.int 384 0,.int 22 0,.str "/claim/cut.py" 385],#[]⟩
noncomputable def o75(P:Params):Obj:=mf 11 (.type "function") 3 [] .none .none .none (.str "whens.plain" 366) none (.ref 74) .none 0
noncomputable def y3(P:Params):Obj:=tq []
noncomputable def o79(P:Params):Obj:=⟨.type "code",none,.fields #[.str "plain_around" 387,.str "plain_around" 388,.str "/claim/cut.py" 389,.int 24 0,.int 2 0,.int 0 0,.int 0 0,.int 3 0,.ref 76,.bool true,.int 181 0,.ref 77,.none,.none,.none,.ref 78,.int 390 0,.int 24 0,.str "/claim/cut.py" 391],#[]⟩
noncomputable def o80(P:Params):Obj:=mf 12 (.type "function") 3 [] .none .none .none (.str "whens.plain" 366) none (.ref 79) .none 0
noncomputable def Ui(P:Params):Obj:=tq []
noncomputable def A1(P:Params):Obj:=tq [.str "kinds" 396,.str "may" 397]
noncomputable def F7(P:Params):Obj:=tq []
noncomputable def o86(P:Params):Obj:=⟨.type "code",none,.fields #[.str "is_plain" 393,.str "is_plain" 394,.str "/claim/cut.py" 395,.int 27 0,.int 2 0,.int 0 0,.int 0 0,.int 3 0,.ref 81,.bool true,.int 181 0,.ref 82,.none,.ref 83,.ref 84,.ref 85,.int 398 0,.int 27 0,.str "/claim/cut.py" 399],#[]⟩
noncomputable def o87(P:Params):Obj:=mf 13 (.type "function") 3 [] .none .none .none (.str "whens.plain" 366) none (.ref 86) .none 0
noncomputable def M5(P:Params):Obj:=tq []
noncomputable def o91(P:Params):Obj:=⟨.type "code",none,.fields #[.str "grown_part" 401,.str "grown_part" 402,.str "/claim/cut.py" 403,.int 29 0,.int 3 0,.int 0 0,.int 0 0,.int 3 0,.ref 88,.bool true,.int 181 0,.ref 89,.none,.none,.none,.ref 90,.int 404 0,.int 29 0,.str "/claim/cut.py" 405],#[]⟩
noncomputable def o92(P:Params):Obj:=mf 14 (.type "function") 3 [] .none .none .none (.str "whens.plain" 366) none (.ref 91) .none 0
noncomputable def Xm(P:Params):Obj:=tq []
noncomputable def o96(P:Params):Obj:=⟨.type "code",none,.fields #[.str "plain_parts" 407,.str "plain_parts" 408,.str "/claim/cut.py" 409,.int 36 0,.int 2 0,.int 0 0,.int 0 0,.int 3 0,.ref 93,.bool true,.int 181 0,.ref 94,.none,.none,.none,.ref 95,.int 410 0,.int 36 0,.str "/claim/cut.py" 411],#[]⟩
noncomputable def o97(P:Params):Obj:=mf 15 (.type "function") 3 [] .none .none .none (.str "whens.plain" 366) none (.ref 96) .none 0
noncomputable def Qp(P:Params):Obj:=tq []
noncomputable def u4(P:Params):Obj:=tq [.str "_law_script" 418]
noncomputable def B2(P:Params):Obj:=tq []
noncomputable def o103(P:Params):Obj:=⟨.type "code",none,.fields #[.str "_law_feed" 415,.str "_law_feed" 416,.str "/claim/cut.py" 417,.int 43 0,.int 1 0,.int 0 0,.int 0 0,.int 3 0,.ref 98,.bool true,.int 181 0,.ref 99,.none,.ref 100,.ref 101,.ref 102,.int 419 0,.int 43 0,.str "/claim/cut.py" 420],#[]⟩
noncomputable def o104(P:Params):Obj:=mf 17 (.type "function") 3 [] .none .none .none (.str "law_whens_k38_plain_mays_and_parts" 413) none (.ref 103) .none 0
noncomputable def W4(P:Params):Obj:=tq []
noncomputable def X4(P:Params):Obj:=tq [.str "_law_feed_here" 425,.str "_law_many" 426,.str "_law_found" 427,.str "_law_spot" 428,.str "_law_cell" 429,.str "_law_mixed" 430]
noncomputable def Vn(P:Params):Obj:=tq []
noncomputable def o110(P:Params):Obj:=⟨.type "code",none,.fields #[.str "_law_draw" 422,.str "_law_draw" 423,.str "/claim/cut.py" 424,.int 45 0,.int 2 0,.int 0 0,.int 0 0,.int 3 0,.ref 105,.bool true,.int 181 0,.ref 106,.none,.ref 107,.ref 108,.ref 109,.int 431 0,.int 45 0,.str "/claim/cut.py" 432],#[]⟩
noncomputable def o111(P:Params):Obj:=mf 18 (.type "function") 3 [] .none .none .none (.str "law_whens_k38_plain_mays_and_parts" 413) none (.ref 110) .none 0
noncomputable def Yk(P:Params):Obj:=tq []
noncomputable def Vy(P:Params):Obj:=tq [.str "_law_some_here" 437]
noncomputable def O2(P:Params):Obj:=tq []
noncomputable def o117(P:Params):Obj:=⟨.type "code",none,.fields #[.str "_law_order" 434,.str "_law_order" 435,.str "/claim/cut.py" 436,.int 62 0,.int 0 0,.int 0 0,.int 0 0,.int 3 0,.ref 112,.bool true,.int 181 0,.ref 113,.none,.ref 114,.ref 115,.ref 116,.int 438 0,.int 62 0,.str "/claim/cut.py" 439],#[]⟩
noncomputable def o118(P:Params):Obj:=mf 19 (.type "function") 3 [] .none .none .none (.str "law_whens_k38_plain_mays_and_parts" 413) none (.ref 117) .none 0
noncomputable def Ua(P:Params):Obj:=tq []
noncomputable def Rp(P:Params):Obj:=tq [.str "_law_kinds" 444,.str "_law_some_here" 445]
noncomputable def R7(P:Params):Obj:=tq []
noncomputable def o124(P:Params):Obj:=⟨.type "code",none,.fields #[.str "_law_words" 441,.str "_law_words" 442,.str "/claim/cut.py" 443,.int 65 0,.int 1 0,.int 0 0,.int 0 0,.int 3 0,.ref 119,.bool true,.int 181 0,.ref 120,.none,.ref 121,.ref 122,.ref 123,.int 446 0,.int 65 0,.str "/claim/cut.py" 447],#[]⟩
noncomputable def o125(P:Params):Obj:=mf 20 (.type "function") 3 [] .none .none .none (.str "law_whens_k38_plain_mays_and_parts" 413) none (.ref 124) .none 0
noncomputable def Z9(P:Params):Obj:=tq []
noncomputable def o8(P:Params):Obj:=tq [.str "_law_one" 452,.str "_law_other" 453,.str "_law_found" 454,.str "_law_x" 455,.str "_law_y" 456]
noncomputable def Zc(P:Params):Obj:=tq []
noncomputable def o131(P:Params):Obj:=⟨.type "code",none,.fields #[.str "_law_signs" 449,.str "_law_signs" 450,.str "/claim/cut.py" 451,.int 70 0,.int 2 0,.int 0 0,.int 0 0,.int 3 0,.ref 126,.bool true,.int 181 0,.ref 127,.none,.ref 128,.ref 129,.ref 130,.int 457 0,.int 70 0,.str "/claim/cut.py" 458],#[]⟩
noncomputable def o132(P:Params):Obj:=mf 21 (.type "function") 3 [] .none .none .none (.str "law_whens_k38_plain_mays_and_parts" 413) none (.ref 131) .none 0
noncomputable def K8(P:Params):Obj:=tq []
noncomputable def o136(P:Params):Obj:=⟨.type "code",none,.fields #[.str "_law_lays" 460,.str "_law_lays" 461,.str "/claim/cut.py" 462,.int 76 0,.int 1 0,.int 0 0,.int 0 0,.int 3 0,.ref 133,.bool true,.int 181 0,.ref 134,.none,.none,.none,.ref 135,.int 463 0,.int 76 0,.str "/claim/cut.py" 464],#[]⟩
noncomputable def o137(P:Params):Obj:=mf 22 (.type "function") 3 [] .none .none .none (.str "law_whens_k38_plain_mays_and_parts" 413) none (.ref 136) .none 0
noncomputable def r8(P:Params):Obj:=tq []
noncomputable def o141(P:Params):Obj:=⟨.type "code",none,.fields #[.str "_law_around" 466,.str "_law_around" 467,.str "/claim/cut.py" 468,.int 88 0,.int 2 0,.int 0 0,.int 0 0,.int 3 0,.ref 138,.bool true,.int 181 0,.ref 139,.none,.none,.none,.ref 140,.int 469 0,.int 88 0,.str "/claim/cut.py" 470],#[]⟩
noncomputable def o142(P:Params):Obj:=mf 23 (.type "function") 3 [] .none .none .none (.str "law_whens_k38_plain_mays_and_parts" 413) none (.ref 141) .none 0
noncomputable def Zy(P:Params):Obj:=tq []
noncomputable def o146(P:Params):Obj:=⟨.type "code",none,.fields #[.str "_law_some" 472,.str "_law_some" 473,.str "/claim/cut.py" 474,.int 99 0,.int 3 0,.int 0 0,.int 0 0,.int 3 0,.ref 143,.bool true,.int 181 0,.ref 144,.none,.none,.none,.ref 145,.int 475 0,.int 99 0,.str "/claim/cut.py" 476],#[]⟩
noncomputable def o147(P:Params):Obj:=mf 24 (.type "function") 3 [] .none .none .none (.str "law_whens_k38_plain_mays_and_parts" 413) none (.ref 146) .none 0
noncomputable def Xh(P:Params):Obj:=tq []
noncomputable def Y7(P:Params):Obj:=tq [.str "_law_feed_here" 481,.str "_law_kinds" 482,.str "_law_way" 483,.str "_law_every" 484,.str "_law_words_here" 485,.str "_law_at" 486]
noncomputable def Zh(P:Params):Obj:=tq []
noncomputable def o153(P:Params):Obj:=⟨.type "code",none,.fields #[.str "_law_drawn" 478,.str "_law_drawn" 479,.str "/claim/cut.py" 480,.int 103 0,.int 2 0,.int 0 0,.int 0 0,.int 3 0,.ref 148,.bool true,.int 181 0,.ref 149,.none,.ref 150,.ref 151,.ref 152,.int 487 0,.int 103 0,.str "/claim/cut.py" 488],#[]⟩
noncomputable def o154(P:Params):Obj:=mf 25 (.type "function") 3 [] .none .none .none (.str "law_whens_k38_plain_mays_and_parts" 413) none (.ref 153) .none 0
noncomputable def Wt(P:Params):Obj:=tq []
noncomputable def o158(P:Params):Obj:=⟨.type "code",none,.fields #[.str "_law_is_may" 490,.str "_law_is_may" 491,.str "/claim/cut.py" 492,.int 116 0,.int 2 0,.int 0 0,.int 0 0,.int 3 0,.ref 155,.bool true,.int 181 0,.ref 156,.none,.none,.none,.ref 157,.int 493 0,.int 116 0,.str "/claim/cut.py" 494],#[]⟩
noncomputable def o159(P:Params):Obj:=mf 26 (.type "function") 3 [] .none .none .none (.str "law_whens_k38_plain_mays_and_parts" 413) none (.ref 158) .none 0
noncomputable def Vi(P:Params):Obj:=tq []
noncomputable def o163(P:Params):Obj:=⟨.type "code",none,.fields #[.str "_law_parts_right" 496,.str "_law_parts_right" 497,.str "/claim/cut.py" 498,.int 120 0,.int 3 0,.int 0 0,.int 0 0,.int 3 0,.ref 160,.bool true,.int 181 0,.ref 161,.none,.none,.none,.ref 162,.int 499 0,.int 120 0,.str "/claim/cut.py" 500],#[]⟩
noncomputable def o164(P:Params):Obj:=mf 27 (.type "function") 3 [] .none .none .none (.str "law_whens_k38_plain_mays_and_parts" 413) none (.ref 163) .none 0
noncomputable def Xj(P:Params):Obj:=tq []
noncomputable def J0(P:Params):Obj:=tq [.str "_law_kinds" 505,.str "_law_words_here" 506,.str "_law_due" 507]
noncomputable def Su(P:Params):Obj:=tq []
noncomputable def o170(P:Params):Obj:=⟨.type "code",none,.fields #[.str "_law_right" 502,.str "_law_right" 503,.str "/claim/cut.py" 504,.int 129 0,.int 2 0,.int 0 0,.int 0 0,.int 3 0,.ref 165,.bool true,.int 181 0,.ref 166,.none,.ref 167,.ref 168,.ref 169,.int 508 0,.int 129 0,.str "/claim/cut.py" 509],#[]⟩
noncomputable def o171(P:Params):Obj:=mf 28 (.type "function") 3 [] .none .none .none (.str "law_whens_k38_plain_mays_and_parts" 413) none (.ref 170) .none 0
noncomputable def Xl(P:Params):Obj:=tq []
noncomputable def BF(P:Params):Obj:=tq [.str "_law_script" 514,.str "_law_feed_here" 515,.str "_law_some_here" 516,.str "_law_asked_of" 517,.str "_law_k" 518,.str "_law_kinds" 519,.str "_law_words_here" 520]
noncomputable def Xp(P:Params):Obj:=tq []
noncomputable def o177(P:Params):Obj:=⟨.type "code",none,.fields #[.str "law" 511,.str "law" 512,.str "/claim/cut.py" 513,.int 136 0,.int 1 0,.int 0 0,.int 0 0,.int 3 0,.ref 172,.bool true,.int 181 0,.ref 173,.none,.ref 174,.ref 175,.ref 176,.int 521 0,.int 136 0,.str "/claim/cut.py" 522],#[]⟩
noncomputable def o178(P:Params):Obj:=mf 29 (.type "function") 3 [] .none .none .none (.str "law_whens_k38_plain_mays_and_parts" 413) none (.ref 177) .none 0
noncomputable def tF(P:Params):BT:=(.node (boot_o_0 P) (.node (boot_o_1 P) (.node (o3 P) (.node (boot_o_7 P) (.node (o15 P) (.node (o31 P) (.node (o63 P) (lf (fl [])) .nil) (.node (mf 15 (.none) 0 [] .none .none .none .none none .none .none 0) (lf (o159 P)) .nil)) (.node (Tg P) (.node (o79 P) (lf (Zy P)) .nil) (.node (o111 P) (lf (Xp P)) .nil))) (.node (o23 P) (.node (fl []) (.node (Qs P) (lf (mf 22 (.none) 0 [] .none .none .none .none none .none .none 0)) .nil) (.node (o103 P) (lf (J0 P)) .nil)) (.node (z9 P) (.node (o87 P) (lf (Zh P)) .nil) (lf (Ua P))))) (.node (tq []) (.node (tq []) (.node (o35 P) (.node (O1 P) (lf (o131 P)) .nil) (.node (fl []) (lf (o163 P)) .nil)) (.node (o51 P) (.node (A1 P) (lf (o147 P)) .nil) (lf (O2 P)))) (.node (o27 P) (.node (o43 P) (.node (o75 P) (lf (fl [])) .nil) (.node (X4 P) (lf (o171 P)) .nil)) (.node (j5 P) (.node (o91 P) (lf (Wt P)) .nil) (lf (mf 20 (.none) 0 [] .none .none .none .none none .none .none 0)))))) (.node (boot_o_5 P) (.node (boot_o_9 P) (.node (tq []) (.node (o33 P) (.node (fl []) (lf (Zc P)) .nil) (.node (o97 P) (lf (fl [])) .nil)) (.node (mf 6 (.none) 0 [] .none .none .none .none none .none .none 0) (.node (Ui P) (lf (mf 24 (.none) 0 [] .none .none .none .none none .none .none 0)) .nil) (.node (fl []) (lf (o177 P)) .nil))) (.node (o25 P) (.node (J3 P) (.node (mf 11 (.none) 0 [] .none .none .none .none none .none .none 0) (lf (o137 P)) .nil) (.node (W4 P) (lf (mf 28 (.none) 0 [] .none .none .none .none none .none .none 0)) .nil)) (.node (o57 P) (.node (fl []) (lf (o153 P)) .nil) (lf (Rp P))))) (.node (⟨.type "code",none,.fields #[.str "<module>" 182,.str "<module>" 183,.str "/claim/cut.py" 184,.int 1 0,.int 0 0,.int 0 0,.int 0 0,.int 0 0,.ref 11,.bool false,.int 181 0,.ref 12,.none,.none,.none,.none,.int 185 0,.int 1 0,.str "/claim/cut.py" 186],#[]⟩) (.node (tq []) (.node (o37 P) (.node (o69 P) (lf (K8 P)) .nil) (.node (B2 P) (lf (Xj P)) .nil)) (.node (fl []) (.node (mf 13 (.none) 0 [] .none .none .none .none none .none .none 0) (lf (fl [])) .nil) (lf (o117 P)))) (.node (o29 P) (.node (BO P) (.node (fl []) (lf (o141 P)) .nil) (.node (mf 18 (.none) 0 [] .none .none .none .none none .none .none 0) (lf (fl [])) .nil)) (.node (mf 9 (.none) 0 [] .none .none .none .none none .none .none 0) (.node (Xm P) (lf (mf 26 (.none) 0 [] .none .none .none .none none .none .none 0)) .nil) (lf (o125 P))))))) (.node (boot_o_2 P) (.node (boot_o_4 P) (.node (boot_o_8 P) (.node (tq []) (.node (o32 P) (.node (Yj P) (lf (o8 P)) .nil) (.node (o96 P) (lf (Vi P)) .nil)) (.node (AE P) (.node (o80 P) (lf (fl [])) .nil) (.node (Yk P) (lf (mf 29 (.none) 0 [] .none .none .none .none none .none .none 0)) .nil))) (.node (o24 P) (.node (i9 P) (.node (fl []) (lf (o136 P)) .nil) (.node (o104 P) (lf (Su P)) .nil)) (.node (mf 7 (.none) 0 [] .none .none .none .none none .none .none 0) (.node (M5 P) (lf (mf 25 (.none) 0 [] .none .none .none .none none .none .none 0)) .nil) (lf (fl []))))) (.node (fl [.int 6 0,.int 0 0,.ref 43,.int 8 0,.int 0 0,.ref 50,.int 15 0,.int 0 0,.ref 57,.int 18 0,.int 0 0,.ref 62,.int 20 0,.int 0 0,.ref 69,.int 22 0,.int 0 0,.ref 74,.int 24 0,.int 0 0,.ref 79,.int 27 0,.int 0 0,.ref 86,.int 29 0,.int 0 0,.ref 91,.int 36 0,.int 0 0,.ref 96,.int 43 0,.int 0 0,.ref 103,.int 45 0,.int 0 0,.ref 110,.int 62 0,.int 0 0,.ref 117,.int 65 0,.int 0 0,.ref 124,.int 70 0,.int 0 0,.ref 131,.int 76 0,.int 0 0,.ref 136,.int 88 0,.int 0 0,.ref 141,.int 99 0,.int 0 0,.ref 146,.int 103 0,.int 0 0,.ref 153,.int 116 0,.int 0 0,.ref 158,.int 120 0,.int 0 0,.ref 163,.int 129 0,.int 0 0,.ref 170,.int 136 0,.int 0 0,.ref 177]) (.node (tq []) (.node (o36 P) (.node (mf 10 (.none) 0 [] .none .none .none .none none .none .none 0) (lf (o132 P)) .nil) (.node (u4 P) (lf (o164 P)) .nil)) (.node (AZ P) (.node (F7 P) (lf (Xh P)) .nil) (lf (mf 19 (.none) 0 [] .none .none .none .none none .none .none 0)))) (.node (o28 P) (.node (o44 P) (.node (y3 P) (lf (mf 23 (.none) 0 [] .none .none .none .none none .none .none 0)) .nil) (.node (Vn P) (lf (Xl P)) .nil)) (.node (fl []) (.node (o92 P) (lf (fl [])) .nil) (lf (o124 P)))))) (.node (boot_o_6 P) (.node (boot_o_10 P) (.node (tq []) (.node (o34 P) (.node (F5 P) (lf (mf 21 (.none) 0 [] .none .none .none .none none .none .none 0)) .nil) (.node (Qp P) (lf (mf 27 (.none) 0 [] .none .none .none .none none .none .none 0)) .nil)) (.node (o50 P) (.node (fl []) (lf (o146 P)) .nil) (.node (Vy P) (lf (o178 P)) .nil))) (.node (o26 P) (.node (mf 5 (.none) 0 [] .none .none .none .none none .none .none 0) (.node (o74 P) (lf (r8 P)) .nil) (.node (fl []) (lf (o170 P)) .nil)) (.node (o58 P) (.node (mf 14 (.none) 0 [] .none .none .none .none none .none .none 0) (lf (o154 P)) .nil) (lf (R7 P))))) (.node (⟨.type "frame",none,.plain,#[some (.ref 13),some (.ref 3),some (.ref 3),none,some (.str "__main__" 164),none,some (.ref 0)]⟩) (.node (tq []) (.node (AO P) (.node (o70 P) (lf (fl [])) .nil) (.node (mf 17 (.none) 0 [] .none .none .none .none none .none .none 0) (lf (fl [])) .nil)) (.node (E3 P) (.node (o86 P) (lf (Y7 P)) .nil) (lf (o118 P)))) (.node (o30 P) (.node (fl []) (.node (mf 12 (.none) 0 [] .none .none .none .none none .none .none 0) (lf (o142 P)) .nil) (.node (o110 P) (lf (BF P)) .nil)) (.node (o62 P) (.node (fl []) (lf (o158 P)) .nil) (lf (Z9 P))))))))
def tS(a n:Nat):List Stmt:=(prog.main.body.drop a).take n
end H38
set_option maxHeartbeats 0
namespace H38
open PySem PySem.W HD
noncomputable abbrev T0(w:World)(os:OsState):SharedT:=⟨pre.tree_6 w.params,16,{},⟨[]⟩,{},203,os⟩
abbrev D0:Obj:={cls:=.type "dict",data:=.dict #[]}
abbrev tp(vs:List Value):Obj:={cls:=.type "tuple",data:=.seq vs.toArray}
noncomputable abbrev T1(w:World)(os:OsState):SharedT:=⟨(pre.tree_6 w.params).ins 16 D0,17,{},⟨[]⟩,{},203,os⟩
noncomputable def Cn(P:Params):BT:=(((((((pre.tree_6 P).ins 16 D0).ins 17 (tp [.str "point" 203,.str "point" 204])).ins 18 (tp [.str "ahead" 205,.str "same" 206,.str "behind" 207])).ins 19 (tp [.str "point" 208,.str "stretch" 209])).ins 20 (tp [.str "ahead" 210,.str "begins" 211,.str "within" 212,.str "ends" 213,.str "behind" 214])).ins 21 (tp [.str "stretch" 215,.str "point" 216])).ins 22 (tp [.str "ahead" 217,.str "ended" 218,.str "holds" 219,.str "begun" 220,.str "behind" 221])
abbrev dO(es:List DictEntry):Obj:={cls:=.type "dict",data:=.dict es.toArray es.length}
noncomputable abbrev TD(es:Params->List DictEntry)(w:World)(os:OsState)(k:Nat):SharedT:=⟨(Cn w.params).ins 16 (dO (es w.params)),23,{},⟨[]⟩,{},k,os⟩
abbrev fJ:Params->List DictEntry:=fun _=>[]
abbrev dp:Pos:=⟨3,14,3,204⟩
theorem j0:st=.Assign [.Name "POINT_WORDS" (zR st)] (.Dict (keysOf st) (uK st) (rM st)) (zH st):=by kernel_rfl
section
variable (w:World)(os:OsState)(p:Program)(b:List Stmt)
abbrev RR{α:Type}(N:Nat)(m:Sem α)(s:SharedT)(pos:Pos)(a:α)(s':SharedT)(pos':Pos):Prop:=R N treeTable p w 11 (some (Value.ref 6)) (Code.body b pre.env_1) [topFrame q0] m s.abs pos a s'.abs pos'
theorem v9:RR w p b 34 (evalPairs (pairTrees (keysOf st) (uK st) pre.env_1 (rM st))) (T1 w os) dp [(.ref 17,.ref 18),(.ref 19,.ref 20),(.ref 21,.ref 22)] (TD fJ w os 222) dp :=
 R.leaf 34 fun K H gd lv=>by kernel_rfl
end
abbrev kh(P:Params)(z:Str):Int:=PyData.keyHash P z
def i1(P:Params):Int:=Builtin.Tuple.tupleHashOf [kh P "point",kh P "point"]
def i2(P:Params):Int:=Builtin.Tuple.tupleHashOf [kh P "point",kh P "stretch"]
def i3(P:Params):Int:=Builtin.Tuple.tupleHashOf [kh P "stretch",kh P "point"]
def e1(P:Params):DictEntry:=⟨reduceHash (i1 P),.ref 17,.ref 18⟩
def e2(P:Params):DictEntry:=⟨reduceHash (i2 P),.ref 19,.ref 20⟩
def e3(P:Params):DictEntry:=⟨reduceHash (i3 P),.ref 21,.ref 22⟩
abbrev es1:Params->List DictEntry:=fun P=>[e1 P]
abbrev es2:Params->List DictEntry:=fun P=>[e1 P,e2 P]
abbrev bZ:Params->List DictEntry:=fun P=>[e1 P,e2 P,e3 P]
abbrev row:String:="special-get-raises"
section
variable (v:World)(os:OsState)(p:Program)(b:List Stmt)
theorem pM(w:World)(t:String)(sT:SharedT)(pos:Pos):RR w p b 1 (rule t) sT pos () sT pos:=R.leaf 1 fun K H gd lv=>by
 obtain⟨T,n,l,g,d,k,o⟩:=sT;rfl
theorem pI(w:World)(i:Int)(sT:SharedT)(pos:Pos):RR w p b 1 (pyHashByItsType.reduced i) sT pos (reduceHash i) sT pos:=by
 unfold pyHashByItsType.reduced reduceHash
 by_cases hr:(decide (-(2:Int)^63<=i)&&decide (i<2^63))=true
 ·rw[if_pos hr,if_pos hr];exact R.mono (by decide) R.pure
 ·rw[if_neg hr,if_neg hr];exact R.mono (N1:=1+0) (by decide) (R.bind (pM p b w _ sT pos) R.pure)
theorem C9:RR (v.withFollow row false) p b 26 (pyHash (.ref 17)) (TD fJ (v.withFollow row false) os 222) dp (reduceHash (i1 (v.withFollow row false).params)) (TD fJ (v.withFollow row false) os 225) dp:=by
 unfold pyHash pyHashByItsType;refine R.mono (N1:=1+(1+(1+(22+1)))) (by decide) (R.bind (R.leaf (sT':=(TD fJ (v.withFollow row false) os 222)) (a:=()) (pos':=dp) 1 fun K H gd lv=>by rw[Fast.te10295753902157049106,Fast.te14364793385576792824];kernel_rfl) ?_)
 refine R.bind (R.leaf (sT':=(TD fJ (v.withFollow row false) os 222)) (a:=some (.builtin "tuple.__hash__")) (pos':=dp) 1 fun K H gd lv=>by rw[Fast.te10295753902157049106,Fast.te14364793385576792824];kernel_rfl) ?_
 rw[if_neg (by decide)]
 refine R.bind (R.leaf (sT':=(TD fJ (v.withFollow row false) os 222)) (a:=some (.builtin "tuple.__hash__")) (pos':=dp) 1 fun K H gd lv=>by rw[Fast.te10295753902157049106,Fast.te14364793385576792824];kernel_rfl) ?_
 rw[if_neg (by decide)]
 refine R.bind (R.leaf (sT':=(TD fJ (v.withFollow row false) os 225)) (a:=some (.int (i1 (v.withFollow row false).params) 224)) (pos':=dp) 22 fun K H gd lv=>by rw[Fast.te10295753902157049106,Fast.te14364793385576792824];kernel_rfl) ?_
 exact pI p b _ _ _ _
theorem R6:RR (v.withFollow row true) p b 26 (pyHash (.ref 17)) (TD fJ (v.withFollow row true) os 222) dp (reduceHash (i1 (v.withFollow row true).params)) (TD fJ (v.withFollow row true) os 225) dp:=by
 unfold pyHash pyHashByItsType;refine R.mono (N1:=1+(1+(1+(22+1)))) (by decide) (R.bind (R.leaf (sT':=(TD fJ (v.withFollow row true) os 222)) (a:=()) (pos':=dp) 1 fun K H gd lv=>by rw[Fast.te10295753902157049106,Fast.te14364793385576792824];kernel_rfl) ?_)
 refine R.bind (R.leaf (sT':=(TD fJ (v.withFollow row true) os 222)) (a:=some (.builtin "tuple.__hash__")) (pos':=dp) 1 fun K H gd lv=>by rw[Fast.te10295753902157049106,Fast.te14364793385576792824];kernel_rfl) ?_
 rw[if_neg (by decide)]
 refine R.bind (R.leaf (sT':=(TD fJ (v.withFollow row true) os 222)) (a:=some (.builtin "tuple.__hash__")) (pos':=dp) 1 fun K H gd lv=>by rw[Fast.te10295753902157049106,Fast.te14364793385576792824];kernel_rfl) ?_
 rw[if_neg (by decide)]
 refine R.bind (R.leaf (sT':=(TD fJ (v.withFollow row true) os 225)) (a:=some (.int (i1 (v.withFollow row true).params) 224)) (pos':=dp) 22 fun K H gd lv=>by rw[Fast.te10295753902157049106,Fast.te14364793385576792824];kernel_rfl) ?_
 exact pI p b _ _ _ _
theorem Za:RR (v.withFollow row false) p b 26 (pyHash (.ref 19)) (TD es1 (v.withFollow row false) os 225) dp (reduceHash (i2 (v.withFollow row false).params)) (TD es1 (v.withFollow row false) os 228) dp:=by
 unfold pyHash pyHashByItsType;refine R.mono (N1:=1+(1+(1+(22+1)))) (by decide) (R.bind (R.leaf (sT':=(TD es1 (v.withFollow row false) os 225)) (a:=()) (pos':=dp) 1 fun K H gd lv=>by rw[Fast.te10295753902157049106,Fast.te14364793385576792824];kernel_rfl) ?_)
 refine R.bind (R.leaf (sT':=(TD es1 (v.withFollow row false) os 225)) (a:=some (.builtin "tuple.__hash__")) (pos':=dp) 1 fun K H gd lv=>by rw[Fast.te10295753902157049106,Fast.te14364793385576792824];kernel_rfl) ?_
 rw[if_neg (by decide)]
 refine R.bind (R.leaf (sT':=(TD es1 (v.withFollow row false) os 225)) (a:=some (.builtin "tuple.__hash__")) (pos':=dp) 1 fun K H gd lv=>by rw[Fast.te10295753902157049106,Fast.te14364793385576792824];kernel_rfl) ?_
 rw[if_neg (by decide)]
 refine R.bind (R.leaf (sT':=(TD es1 (v.withFollow row false) os 228)) (a:=some (.int (i2 (v.withFollow row false).params) 227)) (pos':=dp) 22 fun K H gd lv=>by rw[Fast.te10295753902157049106,Fast.te14364793385576792824];kernel_rfl) ?_
 exact pI p b _ _ _ _
theorem d9:RR (v.withFollow row true) p b 26 (pyHash (.ref 19)) (TD es1 (v.withFollow row true) os 225) dp (reduceHash (i2 (v.withFollow row true).params)) (TD es1 (v.withFollow row true) os 228) dp:=by
 unfold pyHash pyHashByItsType;refine R.mono (N1:=1+(1+(1+(22+1)))) (by decide) (R.bind (R.leaf (sT':=(TD es1 (v.withFollow row true) os 225)) (a:=()) (pos':=dp) 1 fun K H gd lv=>by rw[Fast.te10295753902157049106,Fast.te14364793385576792824];kernel_rfl) ?_)
 refine R.bind (R.leaf (sT':=(TD es1 (v.withFollow row true) os 225)) (a:=some (.builtin "tuple.__hash__")) (pos':=dp) 1 fun K H gd lv=>by rw[Fast.te10295753902157049106,Fast.te14364793385576792824];kernel_rfl) ?_
 rw[if_neg (by decide)]
 refine R.bind (R.leaf (sT':=(TD es1 (v.withFollow row true) os 225)) (a:=some (.builtin "tuple.__hash__")) (pos':=dp) 1 fun K H gd lv=>by rw[Fast.te10295753902157049106,Fast.te14364793385576792824];kernel_rfl) ?_
 rw[if_neg (by decide)]
 refine R.bind (R.leaf (sT':=(TD es1 (v.withFollow row true) os 228)) (a:=some (.int (i2 (v.withFollow row true).params) 227)) (pos':=dp) 22 fun K H gd lv=>by rw[Fast.te10295753902157049106,Fast.te14364793385576792824];kernel_rfl) ?_
 exact pI p b _ _ _ _
theorem n6:RR (v.withFollow row false) p b 26 (pyHash (.ref 21)) (TD es2 (v.withFollow row false) os 228) dp (reduceHash (i3 (v.withFollow row false).params)) (TD es2 (v.withFollow row false) os 231) dp:=by
 unfold pyHash pyHashByItsType;refine R.mono (N1:=1+(1+(1+(22+1)))) (by decide) (R.bind (R.leaf (sT':=(TD es2 (v.withFollow row false) os 228)) (a:=()) (pos':=dp) 1 fun K H gd lv=>by rw[Fast.te10295753902157049106,Fast.te14364793385576792824];kernel_rfl) ?_)
 refine R.bind (R.leaf (sT':=(TD es2 (v.withFollow row false) os 228)) (a:=some (.builtin "tuple.__hash__")) (pos':=dp) 1 fun K H gd lv=>by rw[Fast.te10295753902157049106,Fast.te14364793385576792824];kernel_rfl) ?_
 rw[if_neg (by decide)]
 refine R.bind (R.leaf (sT':=(TD es2 (v.withFollow row false) os 228)) (a:=some (.builtin "tuple.__hash__")) (pos':=dp) 1 fun K H gd lv=>by rw[Fast.te10295753902157049106,Fast.te14364793385576792824];kernel_rfl) ?_
 rw[if_neg (by decide)]
 refine R.bind (R.leaf (sT':=(TD es2 (v.withFollow row false) os 231)) (a:=some (.int (i3 (v.withFollow row false).params) 230)) (pos':=dp) 22 fun K H gd lv=>by rw[Fast.te10295753902157049106,Fast.te14364793385576792824];kernel_rfl) ?_
 exact pI p b _ _ _ _
theorem V1:RR (v.withFollow row true) p b 26 (pyHash (.ref 21)) (TD es2 (v.withFollow row true) os 228) dp (reduceHash (i3 (v.withFollow row true).params)) (TD es2 (v.withFollow row true) os 231) dp:=by
 unfold pyHash pyHashByItsType;refine R.mono (N1:=1+(1+(1+(22+1)))) (by decide) (R.bind (R.leaf (sT':=(TD es2 (v.withFollow row true) os 228)) (a:=()) (pos':=dp) 1 fun K H gd lv=>by rw[Fast.te10295753902157049106,Fast.te14364793385576792824];kernel_rfl) ?_)
 refine R.bind (R.leaf (sT':=(TD es2 (v.withFollow row true) os 228)) (a:=some (.builtin "tuple.__hash__")) (pos':=dp) 1 fun K H gd lv=>by rw[Fast.te10295753902157049106,Fast.te14364793385576792824];kernel_rfl) ?_
 rw[if_neg (by decide)]
 refine R.bind (R.leaf (sT':=(TD es2 (v.withFollow row true) os 228)) (a:=some (.builtin "tuple.__hash__")) (pos':=dp) 1 fun K H gd lv=>by rw[Fast.te10295753902157049106,Fast.te14364793385576792824];kernel_rfl) ?_
 rw[if_neg (by decide)]
 refine R.bind (R.leaf (sT':=(TD es2 (v.withFollow row true) os 231)) (a:=some (.int (i3 (v.withFollow row true).params) 230)) (pos':=dp) 22 fun K H gd lv=>by rw[Fast.te10295753902157049106,Fast.te14364793385576792824];kernel_rfl) ?_
 exact pI p b _ _ _ _
end
section
variable (v:World)(bb:Bool)(os:OsState)(p:Program)(b:List Stmt)
noncomputable abbrev TX(es:List DictEntry)(w:World)(os:OsState)(k:Nat):SharedT:=⟨(Cn w.params).ins 16 (dO es),23,{},⟨[]⟩,{},k,os⟩
theorem BD(w:World)(x:Int):RR w p b 5 (dictSetHashed 16 (.ref 17) x (.ref 18)) (TX [] w os 225) dp () (TX [⟨x,.ref 17,.ref 18⟩] w os 225) dp :=
 R.leaf 5 fun K H gd lv=>by rw[Fast.te10295753902157049106,Fast.te14364793385576792824,Fast.te4359058424727691002];kernel_rfl
theorem C1(x y:Int)(k v:Value):placesWithHash (#[⟨x,k,v⟩]:Array DictEntry).size (fun i=>(#[⟨x,k,v⟩]:Array DictEntry)[i]?.map (·.hash)) y=if x=y then [0] else []:=by
 by_cases h:x=y<;>simp[placesWithHash,List.range_succ,h]
theorem Xe(x x' y:Int)(k v k' v':Value):placesWithHash (#[⟨x,k,v⟩,⟨x',k',v'⟩]:Array DictEntry).size (fun i=>(#[⟨x,k,v⟩,⟨x',k',v'⟩]:Array DictEntry)[i]?.map (·.hash)) y=(if x=y then [0] else [])++(if x'=y then [1] else []):=by
 by_cases h:x=y<;>by_cases h':x'=y<;>simp[placesWithHash,List.range_succ,h,h']
theorem Tk(x y:Int):RR (v.withFollow row bb) p b 31 (dictFind 16 (.ref 19) y) (TX [⟨x,.ref 17,.ref 18⟩] (v.withFollow row bb) os 228) dp none (TX [⟨x,.ref 17,.ref 18⟩] (v.withFollow row bb) os 228) dp:=by
 unfold dictFind;refine R.hold (R.bind (N1:=1) (N2:=30) (R.leaf (sT':=TX [⟨x,.ref 17,.ref 18⟩] (v.withFollow row bb) os 228) (a:=#[⟨x,.ref 17,.ref 18⟩]) (pos':=dp) 1 fun K H gd lv=>by rw[Fast.te10295753902157049106,Fast.te14364793385576792824];kernel_rfl) ?_)
 have e:=C1 x y (.ref 17) (.ref 18)
 by_cases h:x=y
 ·subst h;rw[if_pos rfl]at e;rw[e];simp[carriedByValue,-bind_pure_comp,-map_pure];refine R.mono (N1:=6+(1+(20+(1+(1+0))))) (by decide) (R.bind (R.leaf (sT':=TX [⟨x,.ref 17,.ref 18⟩] (v.withFollow row bb) os 228) (a:=false) (pos':=dp) 6 fun K H gd lv=>by rw[Fast.te10295753902157049106,Fast.te14364793385576792824,Fast.te11445937954039399578];cases bb<;>kernel_rfl) ?_)
  refine R.bind (R.leaf (sT':=TX [⟨x,.ref 17,.ref 18⟩] (v.withFollow row bb) os 228) (a:=1) (pos':=dp) 1 fun K H gd lv=>by rw[Fast.te10295753902157049106,Fast.te14364793385576792824];kernel_rfl) ?_
  refine R.bind (R.leaf (sT':=TX [⟨x,.ref 17,.ref 18⟩] (v.withFollow row bb) os 228) (a:=false) (pos':=dp) 20 fun K H gd lv=>by rw[Fast.te10295753902157049106,Fast.te14364793385576792824,Fast.te13926502685295537346];cases bb<;>kernel_rfl) ?_
  refine R.bind (R.leaf (sT':=TX [⟨x,.ref 17,.ref 18⟩] (v.withFollow row bb) os 228) (a:=1) (pos':=dp) 1 fun K H gd lv=>by rw[Fast.te10295753902157049106,Fast.te14364793385576792824];kernel_rfl) ?_
  simp[-bind_pure_comp,-map_pure];exact R.mono (N1:=1+0) (by decide) (R.bind (pM p b _ _ _ _) R.pure)
 ·rw[if_neg h]at e;rw[e];exact R.mono (by decide) (R.leaf 0 fun K H gd lv=>by kernel_rfl)
end
section
variable (v:World)(bb:Bool)(os:OsState)(p:Program)(b:List Stmt)(x x':Int)
noncomputable abbrev TY(x x':Int)(w:World)(os:OsState):SharedT:=TX [⟨x,.ref 17,.ref 18⟩,⟨x',.ref 19,.ref 20⟩] w os 231
theorem kN(w:World):RR w p b 1 (dictEpoch 16 (keyPart (.ref 21))) (TY x x' w os) dp 2 (TY x x' w os) dp:=R.leaf 1 fun K H gd lv=>by rw[Fast.te10295753902157049106,Fast.te14364793385576792824];kernel_rfl
theorem Jp:RR (v.withFollow row bb) p b 16 (eqBool (.ref 17) (.ref 21)) (TY x x' (v.withFollow row bb) os) dp false (TY x x' (v.withFollow row bb) os) dp:=R.leaf 16 fun K H gd lv=>by rw[Fast.te10295753902157049106,Fast.te14364793385576792824,Fast.te13926502685295537346];cases bb<;>kernel_rfl
theorem Ht:RR (v.withFollow row bb) p b 16 (eqBool (.ref 19) (.ref 21)) (TY x x' (v.withFollow row bb) os) dp false (TY x x' (v.withFollow row bb) os) dp:=R.leaf 16 fun K H gd lv=>by rw[Fast.te10295753902157049106,Fast.te14364793385576792824,Fast.te13926502685295537346];cases bb<;>kernel_rfl
theorem j1:RR (v.withFollow row bb) p b 9 (tableMayTell (.ref 21) [.ref 17,.ref 19]) (TY x x' (v.withFollow row bb) os) dp false (TY x x' (v.withFollow row bb) os) dp:=R.leaf 9 fun K H gd lv=>by rw[Fast.te10295753902157049106,Fast.te14364793385576792824,Fast.te11445937954039399578];cases bb<;>kernel_rfl
theorem W5:RR (v.withFollow row bb) p b 6 (tableMayTell (.ref 21) [.ref 17]) (TY x x' (v.withFollow row bb) os) dp false (TY x x' (v.withFollow row bb) os) dp:=R.leaf 6 fun K H gd lv=>by rw[Fast.te10295753902157049106,Fast.te14364793385576792824,Fast.te11445937954039399578];cases bb<;>kernel_rfl
theorem P2:RR (v.withFollow row bb) p b 6 (tableMayTell (.ref 21) [.ref 19]) (TY x x' (v.withFollow row bb) os) dp false (TY x x' (v.withFollow row bb) os) dp:=R.leaf 6 fun K H gd lv=>by rw[Fast.te10295753902157049106,Fast.te14364793385576792824,Fast.te11445937954039399578];cases bb<;>kernel_rfl
theorem Ri(y:Int):RR (v.withFollow row bb) p b 101 (dictFind 16 (.ref 21) y) (TY x x' (v.withFollow row bb) os) dp none (TY x x' (v.withFollow row bb) os) dp:=by
 unfold dictFind;refine R.hold (R.bind (N1:=1) (N2:=100) (R.leaf (sT':=TY x x' (v.withFollow row bb) os) (a:=#[⟨x,.ref 17,.ref 18⟩,⟨x',.ref 19,.ref 20⟩]) (pos':=dp) 1 fun K H gd lv=>by rw[Fast.te10295753902157049106,Fast.te14364793385576792824];kernel_rfl) ?_)
 have e:=Xe x x' y (.ref 17) (.ref 18) (.ref 19) (.ref 20)
 by_cases h:x=y<;>by_cases h':x'=y
 ·subst h;rw[if_pos rfl,if_pos h']at e;rw[e];simp[carriedByValue,-bind_pure_comp,-map_pure,h'];refine R.mono (N1:=9+(1+(16+(1+(1+(1+(16+(1+(1+0))))))))) (by decide) (R.bind (j1 v bb os p b x x) ?_)
  rw[if_neg (by decide)]
  refine R.bind (kN os p b x x _) (R.bind (Jp v bb os p b x x) (R.bind (kN os p b x x _) ?_));simp[-bind_pure_comp,-map_pure];refine R.mono (N1:=1+(1+(16+(1+(1+0))))) (by decide) (R.bind (pM p b _ _ _ _) ?_)
  refine R.bind (kN os p b x x _) (R.bind (Ht v bb os p b x x) (R.bind (kN os p b x x _) ?_));simp[-bind_pure_comp,-map_pure];exact R.mono (N1:=1+0) (by decide) (R.bind (pM p b _ _ _ _) R.pure)
 ·subst h;rw[if_pos rfl,if_neg h']at e;rw[e];simp[carriedByValue,-bind_pure_comp,-map_pure];refine R.mono (N1:=6+(1+(16+(1+(1+0))))) (by decide) (R.bind (W5 v bb os p b x x') ?_)
  refine R.bind (kN os p b x x' _) (R.bind (Jp v bb os p b x x') (R.bind (kN os p b x x' _) ?_));simp[-bind_pure_comp,-map_pure];exact R.mono (N1:=1+0) (by decide) (R.bind (pM p b _ _ _ _) R.pure)
 ·subst h';rw[if_neg h,if_pos rfl]at e;rw[e];simp[carriedByValue,-bind_pure_comp,-map_pure];refine R.mono (N1:=6+(1+(16+(1+(1+0))))) (by decide) (R.bind (P2 v bb os p b x x') ?_)
  refine R.bind (kN os p b x x' _) (R.bind (Ht v bb os p b x x') (R.bind (kN os p b x x' _) ?_));simp[-bind_pure_comp,-map_pure];exact R.mono (N1:=1+0) (by decide) (R.bind (pM p b _ _ _ _) R.pure)
 ·rw[if_neg h,if_neg h']at e;rw[e];exact R.mono (by decide) (R.leaf 0 fun K H gd lv=>by kernel_rfl)
theorem Sa(y:Int):RR (v.withFollow row bb) p b 35 (dictSetHashed 16 (.ref 19) y (.ref 20)) (TX [⟨x,.ref 17,.ref 18⟩] (v.withFollow row bb) os 228) dp () (TX [⟨x,.ref 17,.ref 18⟩,⟨y,.ref 19,.ref 20⟩] (v.withFollow row bb) os 228) dp:=by
 unfold dictSetHashed;refine R.hold (R.bind (N1:=31) (N2:=4) (Tk v bb os p b x y) ?_);exact R.leaf 4 fun K H gd lv=>by rw[Fast.te10295753902157049106,Fast.te14364793385576792824];kernel_rfl
theorem BR(y:Int):RR (v.withFollow row bb) p b 105 (dictSetHashed 16 (.ref 21) y (.ref 22)) (TY x x' (v.withFollow row bb) os) dp () (TX [⟨x,.ref 17,.ref 18⟩,⟨x',.ref 19,.ref 20⟩,⟨y,.ref 21,.ref 22⟩] (v.withFollow row bb) os 231) dp:=by
 unfold dictSetHashed;refine R.hold (R.bind (N1:=101) (N2:=4) (Ri v bb os p b x x' y) ?_);exact R.leaf 4 fun K H gd lv=>by rw[Fast.te10295753902157049106,Fast.te14364793385576792824];kernel_rfl
end
section
variable (v:World)(bb:Bool)(os:OsState)(p:Program)(b:List Stmt)
abbrev p5:Pos:=⟨2,0,2,5⟩
abbrev sp:Pos:=⟨3,0,3,204⟩
abbrev px:Pos:=⟨3,0,3,11⟩
abbrev dE(P:Params):List DictEntry:=[⟨reduceHash (i1 P),.ref 17,.ref 18⟩,⟨reduceHash (i2 P),.ref 19,.ref 20⟩,⟨reduceHash (i3 P),.ref 21,.ref 22⟩]
noncomputable def Sd(P:Params)(es:List DictEntry):BT:=((Cn P).ins 16 (dO es)).set 3 (Obj.putName "POINT_WORDS" (kh P "POINT_WORDS") (.str "POINT_WORDS" 231) (.ref 16))
noncomputable abbrev T6(es:List DictEntry)(w:World)(os:OsState):SharedT:=⟨Sd w.params es,23,{},⟨[]⟩,{},232,os⟩
theorem Gb(w:World)(sT:SharedT)(q q':Pos):RR w p b 1 (standAt q') sT q () sT q':=R.leaf 1 fun K H gd lv=>by
 obtain⟨T,n,l,g,d,k,o⟩:=sT;rfl
theorem Zk:RR (v.withFollow row bb) p b 26 (pyHash (.ref 17)) (TX [] (v.withFollow row bb) os 222) dp (reduceHash (i1 (v.withFollow row bb).params)) (TX [] (v.withFollow row bb) os 225) dp:=by
 cases bb
 ·exact C9 v os p b
 ·exact R6 v os p b
theorem u6:RR (v.withFollow row bb) p b 26 (pyHash (.ref 19)) (TX [e1 (v.withFollow row bb).params] (v.withFollow row bb) os 225) dp (reduceHash (i2 (v.withFollow row bb).params)) (TX [e1 (v.withFollow row bb).params] (v.withFollow row bb) os 228) dp:=by
 cases bb
 ·exact Za v os p b
 ·exact d9 v os p b
theorem t9:RR (v.withFollow row bb) p b 26 (pyHash (.ref 21)) (TX [e1 (v.withFollow row bb).params,e2 (v.withFollow row bb).params] (v.withFollow row bb) os 228) dp (reduceHash (i3 (v.withFollow row bb).params)) (TX [e1 (v.withFollow row bb).params,e2 (v.withFollow row bb).params] (v.withFollow row bb) os 231) dp:=by
 cases bb
 ·exact n6 v os p b
 ·exact V1 v os p b
theorem v8(w:World)(es:List DictEntry):RR w p b 6 (bindName pre.env_1 "POINT_WORDS" (.ref 16)) (TX es w os 231) px () (T6 es w os) px:=R.leaf 6 fun K H gd lv=>by rw[Fast.te10295753902157049106,Fast.te14364793385576792824,Fast.te7536695828754713326];kernel_rfl
theorem V2(w:World):RR w p b 1 (alloc D0) (T0 w os) dp 16 (T1 w os) dp:=R.leaf 1 fun K H gd lv=>by kernel_rfl
theorem Hd:rM st=dp:=by kernel_rfl
theorem d0:zR st=px:=by kernel_rfl
theorem Rt:zH st=sp:=by kernel_rfl
theorem Mi:RR (v.withFollow row bb) p b 300 (exec st pre.env_1) (T0 (v.withFollow row bb) os) p5 .next (T6 (dE (v.withFollow row bb).params) (v.withFollow row bb) os) px:=by
 rw[j0,exec_Assign_Name (env:=pre.env_1) "POINT_WORDS" (zR st) (.Dict (keysOf st) (uK st) (rM st)) (zH st) (by rfl),Rt,d0]
 refine R.mono (N1:=1+(292+(1+(6+0)))) (by decide) (R.bind (Gb p b _ _ _ _) (R.bind (a:=.ref 16) (pos1:=dp) ?_ (R.bind (Gb p b _ _ _ _) (R.bind (v8 os p b _ _) R.pure))))
 rw[arm_eval_Dict,zip_pairTrees (keysOf st) (uK st) pre.env_1 (rM st) (by kernel_rfl) (by kernel_rfl),dictDisplay_pairs _ (fun h=>by have:=congrArg List.length h;rw[pairTrees_length _ _ _ _ (by kernel_rfl) (by kernel_rfl)]at this;exact absurd this (by decide)) (by rw[pairTrees_length _ _ _ _ (by kernel_rfl) (by kernel_rfl)];decide)]
 rw[Hd];refine R.bind (N1:=1) (N2:=291) (Gb p b _ _ _ _) (R.bind (N1:=291) (N2:=0) (a:=16) (pos1:=dp) ?_ R.pure);unfold subDict;refine R.bind (N1:=1) (N2:=290) (V2 os p b _) (R.bind (N1:=290) (N2:=0) (a:=()) (pos1:=dp) (R.hold ?_) R.pure);rw[if_pos (by rw[pairTrees_length _ _ _ _ (by kernel_rfl) (by kernel_rfl)];decide)]
 have pr:=v9 (v.withFollow row bb) os p b
 rw[Hd]at pr;refine R.bind (N1:=34) (N2:=256) pr (R.hold ?_);simp only[List.forIn_cons,List.forIn_nil,bind_assoc,pure_bind];refine R.mono (N1:=26+5+(26+35+(26+105+0))) (by decide) (R.bind (R.hold (R.bind (Zk v bb os p b) (BD os p b _ _))) ?_)
 refine R.bind (R.hold (R.bind (u6 v bb os p b) (Sa v bb os p b _ _))) ?_;refine R.bind (R.hold (R.bind (t9 v bb os p b) (BR v bb os p b _ _ _))) ?_;exact R.pure
end
end H38
set_option maxHeartbeats 0
namespace H38
open PySem PySem.W HD
noncomputable def ov(es:List DictEntry)(t:BT):BT:=((((((t.ins 16 (dO es)).ins 17 (tp [.str "point" 203,.str "point" 204])).ins 18 (tp [.str "ahead" 205,.str "same" 206,.str "behind" 207])).ins 19 (tp [.str "point" 208,.str "stretch" 209])).ins 20 (tp [.str "ahead" 210,.str "begins" 211,.str "within" 212,.str "ends" 213,.str "behind" 214])).ins 21 (tp [.str "stretch" 215,.str "point" 216])).ins 22 (tp [.str "ahead" 217,.str "ended" 218,.str "holds" 219,.str "begun" 220,.str "behind" 221])
noncomputable abbrev TV(es:List DictEntry)(t:BT)(n k:Nat)(os:OsState):SharedT:=⟨ov es t,n,{},⟨[]⟩,{},k,os⟩
section
variable (w:World)(p:Program)(b:List Stmt)(os:OsState)(es:List DictEntry)
noncomputable abbrev cB(b:List Stmt):Code:=Code.body b pre.env_1
theorem BE:segRunT treeTable p w 11 (some (.ref 6)) 1 1107 (T6 es w os) (piecesOf (tS 3 27) pre.env_1 (cB b) ⟨3,0,3,11⟩ [topFrame q0])=some (.next,TV es (tF w.params) 179 524 os,cB b,⟨136,0,146,54⟩):=by
 refine byRow2 "special-get-raises" (P:=fun w=>segRunT treeTable p w 11 (some (.ref 6)) 1 1107 (T6 es w os) (piecesOf (tS 3 27) pre.env_1 (cB b) ⟨3,0,3,11⟩ [topFrame q0])=some (.next,TV es (tF w.params) 179 524 os,cB b,⟨136,0,146,54⟩)) (fun w=>?_) (fun w=>?_) w
 ·rw[Fast.te10110043849684766642,Fast.te14364793385576792824];kernel_rfl
 ·rw[Fast.te10110043849684766642,Fast.te14364793385576792824];kernel_rfl
end
noncomputable abbrev bE:List Stmt:=behindTheImports prog
theorem Tx:bE=pre.sts_4++(st::(tS 3 27++[])):=by kernel_rfl
noncomputable abbrev SB(w:World)(os:OsState):SharedT:=⟨pre.tree_4 w.params,15,{},⟨[]⟩,{},187,os⟩
section
variable (w:World)(os:OsState)
theorem BA:topGo treeTable prog w 11 (some (.ref 6)) 12 ⟨boot_heap w.params,⟨[]⟩,boot_drawn,boot_toks,os⟩ (topStub prog)=some ((SB w os).abs,⟨denote treeTable (.body bE pre.env_1),.body bE pre.env_1,q0,[topFrame q0]⟩):=by
 rw[Fast.te15667345088766844465,Fast.te11892475500146522536,Fast.te14364793385576792824];kernel_rfl
theorem E1:segRun treeTable prog w 11 (some (.ref 6)) 1 1 (SB w os).abs (blockOf bE pre.env_1 (.body bE pre.env_1) q0 [topFrame q0])=some (.next,(SB w os).abs,.body bE pre.env_1,q0):=by
 kernel_rfl
theorem U9(b:List Stmt)(es:List DictEntry):topRun treeTable prog w 11 (some (.ref 6)) 2 (TV es (tF w.params) 179 524 os).abs ⟨doneF .next,cB b,⟨136,0,146,54⟩,[topFrame q0]⟩=some (TV es (tF w.params) 179 524 os).abs:=by
 kernel_rfl
theorem F0{rest:List Stmt}{N:Nat}{r:Shared}(b:List Stmt)(h:topRun treeTable prog w 11 (some (.ref 6)) N (T6 (dE w.params) w os).abs (restOf rest pre.env_1 (.body b pre.env_1) ⟨3,0,3,11⟩ [topFrame q0])=some r) :
  topRun treeTable prog w 11 (some (.ref 6)) (301+N) (T0 w os).abs (restOf (st::rest) pre.env_1 (.body b pre.env_1) ⟨2,0,2,5⟩ [topFrame q0])=some r:=by
 revert h
 refine byRow2 "special-get-raises" (P:=fun w=>topRun treeTable prog w 11 (some (.ref 6)) N (T6 (dE w.params) w os).abs (restOf rest pre.env_1 (.body b pre.env_1) ⟨3,0,3,11⟩ [topFrame q0])=some r->topRun treeTable prog w 11 (some (.ref 6)) (301+N) (T0 w os).abs (restOf (st::rest) pre.env_1 (.body b pre.env_1) ⟨2,0,2,5⟩ [topFrame q0])=some r) (fun w h=>?_) (fun w h=>?_) w
 ·obtain⟨n,l,e⟩:=R.piece (Mi w false os prog b);have:=topRun_mono (301-n) _ _ _ _ (piece_cons e h)
  rw[show n+N+(301-n)=301+N by omega]at this
  exact this
 ·obtain⟨n,l,e⟩:=R.piece (Mi w true os prog b);have:=topRun_mono (301-n) _ _ _ _ (piece_cons e h)
  rw[show n+N+(301-n)=301+N by omega]at this
  exact this
theorem BH(b:List Stmt)(es:List DictEntry):topRun treeTable prog w 11 (some (.ref 6)) (1107+2) (T6 es w os).abs (restOf (tS 3 27++[]) pre.env_1 (.body b pre.env_1) ⟨3,0,3,11⟩ [topFrame q0])=some (TV es (tF w.params) 179 524 os).abs:=by
 exact piece_app (segRun_of (BE w prog b os es)) (piece_nil (U9 w os b es))
noncomputable def H1(P:Params):Heap:=absHeap (ov (dE P) (tF P)) 179 {}
theorem F2:topRun treeTable prog w 11 (some (.ref 6)) (12+(1+(33+(301+(1107+2))))) ⟨boot_heap w.params,⟨[]⟩,boot_drawn,boot_toks,os⟩ (topStub prog)=some ⟨H1 w.params,⟨[]⟩,{},524,os⟩:=by
 refine go_top (BA w os) (piece_block (E1 w os) ?_);rw[Tx];exact pre.chain prog _ w os _ _ _ (F0 w os _ (BH w os _ _))
end
def qv:Program:=view prog [1,2,3,4,5,6,7,9,10,11,12,13,14,15,17,18,19,20,21,22,23,24,25,26,27,28,29]
def lo:List Str:=[Str.ofString "POINT_WORDS",Str.ofString "WAYS",Str.ofString "END_COUNTS"]
abbrev lw:OpenLaw:=PySem.Challenge.rw_whens_k38_plain_mays_and_parts
abbrev XT:Shared->Bool:=fun s=>xlAt qv [] s&&recOk (RowW.records lw.row.toRowW) s
theorem Ty(N:Nat)(h:Nat.ble 600 N=true):∀ w:World,(fencedOpening treeTable prog w N).map (fun s=>(s.heap,s.gens,s.drawn,s.toks))=some (boot_heap w.params,⟨[]⟩,boot_drawn,boot_toks):=boot_open (by kernel_rfl) h (fun _=>rfl)
theorem CQ(w:World):((boot_heap w.params).isNs mainGlobals&&(⟨[]⟩:Array GenState).size==0,(boot_heap w.params).objs.size,(boot_heap w.params).nsMap mainGlobals "__annotations__")=(true,11,some (.ref 6)):=by kernel_rfl
theorem BX(w:World)(os:OsState):(staticsOk (importedModules prog.main.body) (boot_heap w.params) (H1 w.params)&&namesBound prog (H1 w.params)&&gensDone ⟨H1 w.params,⟨[]⟩,{},524,os⟩&&laidKept (boot_heap w.params) (H1 w.params))=true:=by kernel_rfl
theorem J8(w:World)(os:OsState):openSeen qv lo (importedModules prog.main.body) XT true ⟨H1 w.params,⟨[]⟩,{},524,os⟩=openGood qv lo:=by
 rw[Fast.te4187177175401517315];kernel_rfl
theorem left(H:Hook)(hH:∀ (w:World) (os:OsState),H.obs ⟨H1 w.params,⟨[]⟩,{},524,os⟩=H.val w):LeftO prog qv lo XT H.obs H.val 3566 :=
 LeftO.of_pieces (H₀:=boot_heap) (H₁:=H1) (gs₀:=⟨[]⟩) (gs₁:=⟨[]⟩) (d₀:=boot_drawn) (d₁:={}) (k₀:=boot_toks) (k₁:=524) (m₀:=11) (ann:=some (.ref 6)) (M:=1456) (Ty 3566 (by decide)) CQ F2 (by decide) fun w=>funext fun os=>by rw[BX w os,J8 w os,hH w os]
theorem head{H:Hook}{d:DefRec}{kwd:List (Str×Expr)}(hH:∀ (w:World) (os:OsState),H.obs ⟨H1 w.params,⟨[]⟩,{},524,os⟩=H.val w)(k1:lw.row.wellSaid=true)(hdef:defOf qv lw.row.name=some (d,kwd))(hp:lw.row.prog.theDef lw.row.name=some (d.params,d.body,d.scope))(hk:kwWritten? d.params.kwonlyargs d.params.kw_defaults=some kwd)
  (hw:lw.row.toRowW.promised) (call:WalkO qv lo (XL qv []) H.says lw.row.toRowW d kwd fun f vs=>PySem.call f vs):lw.row.Holds :=
 holds_open (q:=qv) (loose:=lo) (Xt:=XT) (XP:=XL qv []) (Yf:=H.obs) (Ya:=H.val) (YP:=H.says) (N:=3566) (left H hH) (Hook.of H) (Hook.keeps H) (fun s e=>xl_of s (Bool.and_eq_true_iff.mp e).1) XL.keeps hdef hp hk (fun s e=>recFacts_of (Bool.and_eq_true_iff.mp e).2) (by rfl) k1 (by decide +kernel) ⟨rfl,rfl,rfl,rfl,rfl,by decide +kernel⟩ hw call
end H38
namespace K38
open PySem PySem.Spec PyProof.Rows L2 DL
theorem qQ{P:List Value->Prop}(h:P []):∀ us:List Value,us.length=0->P us
 | [],_=>h
 | _::_,e=>nomatch e
theorem gX{P:List Value->Prop}{n:Nat}(h:∀ a us,us.length=n->P (a::us)):∀ us:List Value,us.length=n+1->P us
 | [],e=>nomatch e
 | a::us,e=>h a us (Nat.succ.inj e)
theorem D9{fd:FuncData}{ps:List Str}(h:bindArgs fd {pos:=[]}=pure (ps.zip []))(us:List Value)(hl:us.length=0):bindArgs fd {pos:=us}=pure (ps.zip us) :=
 (qQ (P:=fun us=>bindArgs fd {pos:=us}=pure (ps.zip (us))) (h)) us hl
theorem rP{fd:FuncData}{ps:List Str}(h:∀ a0,bindArgs fd {pos:=[a0]}=pure (ps.zip [a0]))(us:List Value)(hl:us.length=1):bindArgs fd {pos:=us}=pure (ps.zip us) :=
 (gX (P:=fun us=>bindArgs fd {pos:=us}=pure (ps.zip (us))) (fun a0=>qQ (P:=fun us=>bindArgs fd {pos:=a0::us}=pure (ps.zip (a0::us))) (h a0))) us hl
theorem gA{fd:FuncData}{ps:List Str}(h:∀ a0 a1,bindArgs fd {pos:=[a0,a1]}=pure (ps.zip [a0,a1]))(us:List Value)(hl:us.length=2):bindArgs fd {pos:=us}=pure (ps.zip us) :=
 (gX (P:=fun us=>bindArgs fd {pos:=us}=pure (ps.zip (us))) (fun a0=>gX (P:=fun us=>bindArgs fd {pos:=a0::us}=pure (ps.zip (a0::us))) (fun a1=>qQ (P:=fun us=>bindArgs fd {pos:=a0::a1::us}=pure (ps.zip (a0::a1::us))) (h a0 a1)))) us hl
theorem Ga{fd:FuncData}{ps:List Str}(h:∀ a0 a1 a2,bindArgs fd {pos:=[a0,a1,a2]}=pure (ps.zip [a0,a1,a2]))(us:List Value)(hl:us.length=3):bindArgs fd {pos:=us}=pure (ps.zip us) :=
 (gX (P:=fun us=>bindArgs fd {pos:=us}=pure (ps.zip (us))) (fun a0=>gX (P:=fun us=>bindArgs fd {pos:=a0::us}=pure (ps.zip (a0::us))) (fun a1=>gX (P:=fun us=>bindArgs fd {pos:=a0::a1::us}=pure (ps.zip (a0::a1::us))) (fun a2=>qQ (P:=fun us=>bindArgs fd {pos:=a0::a1::a2::us}=pure (ps.zip (a0::a1::a2::us))) (h a0 a1 a2))))) us hl
theorem Kx{fd:FuncData}{ps:List Str}(h:∀ a0 a1 a2 a3,bindArgs fd {pos:=[a0,a1,a2,a3]}=pure (ps.zip [a0,a1,a2,a3]))(us:List Value)(hl:us.length=4):bindArgs fd {pos:=us}=pure (ps.zip us) :=
 (gX (P:=fun us=>bindArgs fd {pos:=us}=pure (ps.zip (us))) (fun a0=>gX (P:=fun us=>bindArgs fd {pos:=a0::us}=pure (ps.zip (a0::us))) (fun a1=>gX (P:=fun us=>bindArgs fd {pos:=a0::a1::us}=pure (ps.zip (a0::a1::us))) (fun a2=>gX (P:=fun us=>bindArgs fd {pos:=a0::a1::a2::us}=pure (ps.zip (a0::a1::a2::us))) (fun a3=>qQ (P:=fun us=>bindArgs fd {pos:=a0::a1::a2::a3::us}=pure (ps.zip (a0::a1::a2::a3::us))) (h a0 a1 a2 a3)))))) us hl
theorem all_mk{l:PySem.W.OpenLaw}{w:World}{K:PySem.W.Frag}{h:Heap}{mg:Str->Option Value}{fa:Addr}(X:K.In h)(G:h.Ns mainGlobals mg)(hfa:mg "law"=some (.ref fa))
  {vF:Addr} {od_0 an_0:Option Addr} {sl_0:Array (Option Value)} {oc_0 kV_0 dc_0 pm_0 cd_0 ct_0:Value} (a0:PySem.W.nsIn K mainGlobals "words_of"=some (some (.ref vF))) (l0:K.lookup vF=some ⟨oc_0,od_0,.func (PySem.W.fnOf "words_of" "words_of" (cH lR) (cA lR) (aY lR) .none kV_0 dc_0 pm_0 an_0 cd_0 ct_0),sl_0⟩) (c0:PySem.W.codeIn K cd_0 "words_of"=true) (k0:PySem.W.keepIn K (.ref vF)=true)
  {uU:Addr} {od_1 an_1:Option Addr} {sl_1:Array (Option Value)} {oc_1 kV_1 dc_1 pm_1 cd_1 ct_1:Value} (a1:PySem.W.nsIn K mainGlobals "ways_by"=some (some (.ref uU))) (l1:K.lookup uU=some ⟨oc_1,od_1,.func (PySem.W.fnOf "ways_by" "ways_by" (cH kG) (cA kG) (aY kG) .none kV_1 dc_1 pm_1 an_1 cd_1 ct_1),sl_1⟩) (c1:PySem.W.codeIn K cd_1 "ways_by"=true) (k1:PySem.W.keepIn K (.ref uU)=true)
  {sO:Addr} {od_2 an_2:Option Addr} {sl_2:Array (Option Value)} {oc_2 kV_2 dc_2 pm_2 cd_2 ct_2:Value} (a2:PySem.W.nsIn K mainGlobals "how_ends"=some (some (.ref sO))) (l2:K.lookup sO=some ⟨oc_2,od_2,.func (PySem.W.fnOf "how_ends" "how_ends" (cH kW) (cA kW) (aY kW) .none kV_2 dc_2 pm_2 an_2 cd_2 ct_2),sl_2⟩) (c2:PySem.W.codeIn K cd_2 "how_ends"=true) (k2:PySem.W.keepIn K (.ref sO)=true)
  {sZ:Addr} {od_3 an_3:Option Addr} {sl_3:Array (Option Value)} {oc_3 kV_3 dc_3 pm_3 cd_3 ct_3:Value} (a3:PySem.W.nsIn K mainGlobals "signs_in"=some (some (.ref sZ))) (l3:K.lookup sZ=some ⟨oc_3,od_3,.func (PySem.W.fnOf "signs_in" "signs_in" (cH nM) (cA nM) (aY nM) .none kV_3 dc_3 pm_3 an_3 cd_3 ct_3),sl_3⟩) (c3:PySem.W.codeIn K cd_3 "signs_in"=true) (k3:PySem.W.keepIn K (.ref sZ)=true)
  {uN:Addr} {od_4 an_4:Option Addr} {sl_4:Array (Option Value)} {oc_4 kV_4 dc_4 pm_4 cd_4 ct_4:Value} (a4:PySem.W.nsIn K mainGlobals "span_of"=some (some (.ref uN))) (l4:K.lookup uN=some ⟨oc_4,od_4,.func (PySem.W.fnOf "span_of" "span_of" (cH mP) (cA mP) (aY mP) .none kV_4 dc_4 pm_4 an_4 cd_4 ct_4),sl_4⟩) (c4:PySem.W.codeIn K cd_4 "span_of"=true) (k4:PySem.W.keepIn K (.ref uN)=true)
  {uP:Addr} {od_5 an_5:Option Addr} {sl_5:Array (Option Value)} {oc_5 kV_5 dc_5 pm_5 cd_5 ct_5:Value} (a5:PySem.W.nsIn K mainGlobals "spans_of"=some (some (.ref uP))) (l5:K.lookup uP=some ⟨oc_5,od_5,.func (PySem.W.fnOf "spans_of" "spans_of" (cH mI) (cA mI) (aY mI) .none kV_5 dc_5 pm_5 an_5 cd_5 ct_5),sl_5⟩) (c5:PySem.W.codeIn K cd_5 "spans_of"=true) (k5:PySem.W.keepIn K (.ref uP)=true)
  {tN:Addr} {od_6 an_6:Option Addr} {sl_6:Array (Option Value)} {oc_6 kV_6 dc_6 pm_6 cd_6 ct_6:Value} (a6:PySem.W.nsIn K mainGlobals "plain_around"=some (some (.ref tN))) (l6:K.lookup tN=some ⟨oc_6,od_6,.func (PySem.W.fnOf "plain_around" "plain_around" (cH iX) (cA iX) (aY iX) .none kV_6 dc_6 pm_6 an_6 cd_6 ct_6),sl_6⟩) (c6:PySem.W.codeIn K cd_6 "plain_around"=true) (k6:PySem.W.keepIn K (.ref tN)=true)
  {tW:Addr} {od_7 an_7:Option Addr} {sl_7:Array (Option Value)} {oc_7 kV_7 dc_7 pm_7 cd_7 ct_7:Value} (a7:PySem.W.nsIn K mainGlobals "is_plain"=some (some (.ref tW))) (l7:K.lookup tW=some ⟨oc_7,od_7,.func (PySem.W.fnOf "is_plain" "is_plain" (cH kY) (cA kY) (aY kY) .none kV_7 dc_7 pm_7 an_7 cd_7 ct_7),sl_7⟩) (c7:PySem.W.codeIn K cd_7 "is_plain"=true) (k7:PySem.W.keepIn K (.ref tW)=true)
  {vT:Addr} {od_8 an_8:Option Addr} {sl_8:Array (Option Value)} {oc_8 kV_8 dc_8 pm_8 cd_8 ct_8:Value} (a8:PySem.W.nsIn K mainGlobals "grown_part"=some (some (.ref vT))) (l8:K.lookup vT=some ⟨oc_8,od_8,.func (PySem.W.fnOf "grown_part" "grown_part" (cH lI) (cA lI) (aY lI) .none kV_8 dc_8 pm_8 an_8 cd_8 ct_8),sl_8⟩) (c8:PySem.W.codeIn K cd_8 "grown_part"=true) (k8:PySem.W.keepIn K (.ref vT)=true)
  {tI:Addr} {od_9 an_9:Option Addr} {sl_9:Array (Option Value)} {oc_9 kV_9 dc_9 pm_9 cd_9 ct_9:Value} (a9:PySem.W.nsIn K mainGlobals "plain_parts"=some (some (.ref tI))) (l9:K.lookup tI=some ⟨oc_9,od_9,.func (PySem.W.fnOf "plain_parts" "plain_parts" (cH kK) (cA kK) (aY kK) .none kV_9 dc_9 pm_9 an_9 cd_9 ct_9),sl_9⟩) (c9:PySem.W.codeIn K cd_9 "plain_parts"=true) (k9:PySem.W.keepIn K (.ref tI)=true)
  {vE:Addr} {od_10 an_10:Option Addr} {sl_10:Array (Option Value)} {oc_10 kV_10 dc_10 pm_10 cd_10 ct_10:Value} (a10:PySem.W.nsIn K mainGlobals "_law_feed"=some (some (.ref vE))) (l10:K.lookup vE=some ⟨oc_10,od_10,.func (PySem.W.fnOf "_law_feed" "_law_feed" (cH nJ) (cA nJ) (aY nJ) .none kV_10 dc_10 pm_10 an_10 cd_10 ct_10),sl_10⟩) (c10:PySem.W.codeIn K cd_10 "_law_feed"=true) (k10:PySem.W.keepIn K (.ref vE)=true)
  {sV:Addr} {od_11 an_11:Option Addr} {sl_11:Array (Option Value)} {oc_11 kV_11 dc_11 pm_11 cd_11 ct_11:Value} (a11:PySem.W.nsIn K mainGlobals "_law_draw"=some (some (.ref sV))) (l11:K.lookup sV=some ⟨oc_11,od_11,.func (PySem.W.fnOf "_law_draw" "_law_draw" (cH iQ) (cA iQ) (aY iQ) .none kV_11 dc_11 pm_11 an_11 cd_11 ct_11),sl_11⟩) (c11:PySem.W.codeIn K cd_11 "_law_draw"=true) (k11:PySem.W.keepIn K (.ref sV)=true)
  {sG:Addr} {od_12 an_12:Option Addr} {sl_12:Array (Option Value)} {oc_12 kV_12 dc_12 pm_12 cd_12 ct_12:Value} (a12:PySem.W.nsIn K mainGlobals "_law_order"=some (some (.ref sG))) (l12:K.lookup sG=some ⟨oc_12,od_12,.func (PySem.W.fnOf "_law_order" "_law_order" (cH lU) (cA lU) (aY lU) .none kV_12 dc_12 pm_12 an_12 cd_12 ct_12),sl_12⟩) (c12:PySem.W.codeIn K cd_12 "_law_order"=true) (k12:PySem.W.keepIn K (.ref sG)=true)
  {tJ:Addr} {od_13 an_13:Option Addr} {sl_13:Array (Option Value)} {oc_13 kV_13 dc_13 pm_13 cd_13 ct_13:Value} (a13:PySem.W.nsIn K mainGlobals "_law_words"=some (some (.ref tJ))) (l13:K.lookup tJ=some ⟨oc_13,od_13,.func (PySem.W.fnOf "_law_words" "_law_words" (cH gW) (cA gW) (aY gW) .none kV_13 dc_13 pm_13 an_13 cd_13 ct_13),sl_13⟩) (c13:PySem.W.codeIn K cd_13 "_law_words"=true) (k13:PySem.W.keepIn K (.ref tJ)=true)
  {vK:Addr} {od_14 an_14:Option Addr} {sl_14:Array (Option Value)} {oc_14 kV_14 dc_14 pm_14 cd_14 ct_14:Value} (a14:PySem.W.nsIn K mainGlobals "_law_signs"=some (some (.ref vK))) (l14:K.lookup vK=some ⟨oc_14,od_14,.func (PySem.W.fnOf "_law_signs" "_law_signs" (cH nF) (cA nF) (aY nF) .none kV_14 dc_14 pm_14 an_14 cd_14 ct_14),sl_14⟩) (c14:PySem.W.codeIn K cd_14 "_law_signs"=true) (k14:PySem.W.keepIn K (.ref vK)=true)
  {sY:Addr} {od_15 an_15:Option Addr} {sl_15:Array (Option Value)} {oc_15 kV_15 dc_15 pm_15 cd_15 ct_15:Value} (a15:PySem.W.nsIn K mainGlobals "_law_lays"=some (some (.ref sY))) (l15:K.lookup sY=some ⟨oc_15,od_15,.func (PySem.W.fnOf "_law_lays" "_law_lays" (cH mF) (cA mF) (aY mF) .none kV_15 dc_15 pm_15 an_15 cd_15 ct_15),sl_15⟩) (c15:PySem.W.codeIn K cd_15 "_law_lays"=true) (k15:PySem.W.keepIn K (.ref sY)=true)
  {tQ:Addr} {od_16 an_16:Option Addr} {sl_16:Array (Option Value)} {oc_16 kV_16 dc_16 pm_16 cd_16 ct_16:Value} (a16:PySem.W.nsIn K mainGlobals "_law_around"=some (some (.ref tQ))) (l16:K.lookup tQ=some ⟨oc_16,od_16,.func (PySem.W.fnOf "_law_around" "_law_around" (cH iP) (cA iP) (aY iP) .none kV_16 dc_16 pm_16 an_16 cd_16 ct_16),sl_16⟩) (c16:PySem.W.codeIn K cd_16 "_law_around"=true) (k16:PySem.W.keepIn K (.ref tQ)=true)
  {vU:Addr} {od_17 an_17:Option Addr} {sl_17:Array (Option Value)} {oc_17 kV_17 dc_17 pm_17 cd_17 ct_17:Value} (a17:PySem.W.nsIn K mainGlobals "_law_some"=some (some (.ref vU))) (l17:K.lookup vU=some ⟨oc_17,od_17,.func (PySem.W.fnOf "_law_some" "_law_some" (cH lT) (cA lT) (aY lT) .none kV_17 dc_17 pm_17 an_17 cd_17 ct_17),sl_17⟩) (c17:PySem.W.codeIn K cd_17 "_law_some"=true) (k17:PySem.W.keepIn K (.ref vU)=true)
  {tL:Addr} {od_18 an_18:Option Addr} {sl_18:Array (Option Value)} {oc_18 kV_18 dc_18 pm_18 cd_18 ct_18:Value} (a18:PySem.W.nsIn K mainGlobals "_law_drawn"=some (some (.ref tL))) (l18:K.lookup tL=some ⟨oc_18,od_18,.func (PySem.W.fnOf "_law_drawn" "_law_drawn" (cH lO) (cA lO) (aY lO) .none kV_18 dc_18 pm_18 an_18 cd_18 ct_18),sl_18⟩) (c18:PySem.W.codeIn K cd_18 "_law_drawn"=true) (k18:PySem.W.keepIn K (.ref tL)=true)
  {wA:Addr} {od_19 an_19:Option Addr} {sl_19:Array (Option Value)} {oc_19 kV_19 dc_19 pm_19 cd_19 ct_19:Value} (a19:PySem.W.nsIn K mainGlobals "_law_is_may"=some (some (.ref wA))) (l19:K.lookup wA=some ⟨oc_19,od_19,.func (PySem.W.fnOf "_law_is_may" "_law_is_may" (cH nG) (cA nG) (aY nG) .none kV_19 dc_19 pm_19 an_19 cd_19 ct_19),sl_19⟩) (c19:PySem.W.codeIn K cd_19 "_law_is_may"=true) (k19:PySem.W.keepIn K (.ref wA)=true)
  {vP:Addr} {od_20 an_20:Option Addr} {sl_20:Array (Option Value)} {oc_20 kV_20 dc_20 pm_20 cd_20 ct_20:Value} (a20:PySem.W.nsIn K mainGlobals "_law_parts_right"=some (some (.ref vP))) (l20:K.lookup vP=some ⟨oc_20,od_20,.func (PySem.W.fnOf "_law_parts_right" "_law_parts_right" (cH mS) (cA mS) (aY mS) .none kV_20 dc_20 pm_20 an_20 cd_20 ct_20),sl_20⟩) (c20:PySem.W.codeIn K cd_20 "_law_parts_right"=true) (k20:PySem.W.keepIn K (.ref vP)=true)
  {vZ:Addr} {od_21 an_21:Option Addr} {sl_21:Array (Option Value)} {oc_21 kV_21 dc_21 pm_21 cd_21 ct_21:Value} (a21:PySem.W.nsIn K mainGlobals "_law_right"=some (some (.ref vZ))) (l21:K.lookup vZ=some ⟨oc_21,od_21,.func (PySem.W.fnOf "_law_right" "_law_right" (cH mT) (cA mT) (aY mT) .none kV_21 dc_21 pm_21 an_21 cd_21 ct_21),sl_21⟩) (c21:PySem.W.codeIn K cd_21 "_law_right"=true) (k21:PySem.W.keepIn K (.ref vZ)=true)
  {vV:Addr} {od_22 an_22:Option Addr} {sl_22:Array (Option Value)} {oc_22 kV_22 dc_22 pm_22 cd_22 ct_22:Value} (a22:PySem.W.nsIn K mainGlobals "law"=some (some (.ref vV))) (l22:K.lookup vV=some ⟨oc_22,od_22,.func (PySem.W.fnOf "law" "law" (cH iM) (cA iM) (aY iM) .none kV_22 dc_22 pm_22 an_22 cd_22 ct_22),sl_22⟩) (c22:PySem.W.codeIn K cd_22 "law"=true) (k22:PySem.W.keepIn K (.ref vV)=true)
  {kF r_WAYS_0 r_WAYS_1 r_WAYS_2 r_WAYS_3 r_WAYS_4 r_WAYS_5 r_WAYS_6 r_WAYS_7 r_WAYS_8 r_WAYS_9 r_WAYS_10 r_WAYS_11 r_WAYS_12:Addr} {n_WAYS:Nat} {t_WAYS_0 u_WAYS_0_0 u_WAYS_0_1 u_WAYS_0_2 u_WAYS_0_3 t_WAYS_1 u_WAYS_1_0 u_WAYS_1_1 u_WAYS_1_2 u_WAYS_1_3 t_WAYS_2 u_WAYS_2_0 u_WAYS_2_1 u_WAYS_2_2 u_WAYS_2_3 t_WAYS_3 u_WAYS_3_0 u_WAYS_3_1 u_WAYS_3_2 u_WAYS_3_3 t_WAYS_4 u_WAYS_4_0 u_WAYS_4_1 u_WAYS_4_2 u_WAYS_4_3 t_WAYS_5 u_WAYS_5_0 u_WAYS_5_1 u_WAYS_5_2 u_WAYS_5_3 t_WAYS_6 u_WAYS_6_0 u_WAYS_6_1 u_WAYS_6_2 u_WAYS_6_3 t_WAYS_7 u_WAYS_7_0 u_WAYS_7_1 u_WAYS_7_2 u_WAYS_7_3 t_WAYS_8 u_WAYS_8_0 u_WAYS_8_1 u_WAYS_8_2 u_WAYS_8_3 t_WAYS_9 u_WAYS_9_0 u_WAYS_9_1 u_WAYS_9_2 u_WAYS_9_3 t_WAYS_10 u_WAYS_10_0 u_WAYS_10_1 u_WAYS_10_2 u_WAYS_10_3 t_WAYS_11 u_WAYS_11_0 u_WAYS_11_1 u_WAYS_11_2 u_WAYS_11_3 t_WAYS_12 u_WAYS_12_0 u_WAYS_12_1 u_WAYS_12_2 u_WAYS_12_3:Tok} (Eo:PySem.W.nsIn K mainGlobals "WAYS"=some (some (.ref kF))) (Fl:K.lookup kF=some ⟨.type "dict",none,.dict #[⟨PyData.keyHash w.params "ahead",.str "ahead" t_WAYS_0,.ref r_WAYS_0⟩,⟨PyData.keyHash w.params "meets",.str "meets" t_WAYS_1,.ref r_WAYS_1⟩,⟨PyData.keyHash w.params "overlaps",.str "overlaps" t_WAYS_2,.ref r_WAYS_2⟩,⟨PyData.keyHash w.params "begins",.str "begins" t_WAYS_3,.ref r_WAYS_3⟩,⟨PyData.keyHash w.params "within",.str "within" t_WAYS_4,.ref r_WAYS_4⟩,⟨PyData.keyHash w.params "ends",.str "ends" t_WAYS_5,.ref r_WAYS_5⟩,⟨PyData.keyHash w.params "same",.str "same" t_WAYS_6,.ref r_WAYS_6⟩,⟨PyData.keyHash w.params "ended",.str "ended" t_WAYS_7,.ref r_WAYS_7⟩,⟨PyData.keyHash w.params "holds",.str "holds" t_WAYS_8,.ref r_WAYS_8⟩,⟨PyData.keyHash w.params "begun",.str "begun" t_WAYS_9,.ref r_WAYS_9⟩,⟨PyData.keyHash w.params "lapped",.str "lapped" t_WAYS_10,.ref r_WAYS_10⟩,⟨PyData.keyHash w.params "met",.str "met" t_WAYS_11,.ref r_WAYS_11⟩,⟨PyData.keyHash w.params "behind",.str "behind" t_WAYS_12,.ref r_WAYS_12⟩] n_WAYS,#[]⟩) {n_WAYS_0:Nat} {sl_WAYS_0:Array (Option Value)} (Dm:K.lookup r_WAYS_0=some ⟨.type "tuple",none,.seq #[.int (-1) u_WAYS_0_0,.int (-1) u_WAYS_0_1,.int (-1) u_WAYS_0_2,.int (-1) u_WAYS_0_3] n_WAYS_0,sl_WAYS_0⟩) {n_WAYS_1:Nat} {sl_WAYS_1:Array (Option Value)} (Br:K.lookup r_WAYS_1=some ⟨.type "tuple",none,.seq #[.int (-1) u_WAYS_1_0,.int (-1) u_WAYS_1_1,.int (0) u_WAYS_1_2,.int (-1) u_WAYS_1_3] n_WAYS_1,sl_WAYS_1⟩) {n_WAYS_2:Nat} {sl_WAYS_2:Array (Option Value)} (yC:K.lookup r_WAYS_2=some ⟨.type "tuple",none,.seq #[.int (-1) u_WAYS_2_0,.int (-1) u_WAYS_2_1,.int (1) u_WAYS_2_2,.int (-1) u_WAYS_2_3] n_WAYS_2,sl_WAYS_2⟩) {n_WAYS_3:Nat} {sl_WAYS_3:Array (Option Value)} (Ac:K.lookup r_WAYS_3=some ⟨.type "tuple",none,.seq #[.int (0) u_WAYS_3_0,.int (-1) u_WAYS_3_1,.int (1) u_WAYS_3_2,.int (-1) u_WAYS_3_3] n_WAYS_3,sl_WAYS_3⟩) {n_WAYS_4:Nat} {sl_WAYS_4:Array (Option Value)} (yU:K.lookup r_WAYS_4=some ⟨.type "tuple",none,.seq #[.int (1) u_WAYS_4_0,.int (-1) u_WAYS_4_1,.int (1) u_WAYS_4_2,.int (-1) u_WAYS_4_3] n_WAYS_4,sl_WAYS_4⟩) {n_WAYS_5:Nat} {sl_WAYS_5:Array (Option Value)} (Dh:K.lookup r_WAYS_5=some ⟨.type "tuple",none,.seq #[.int (1) u_WAYS_5_0,.int (-1) u_WAYS_5_1,.int (1) u_WAYS_5_2,.int (0) u_WAYS_5_3] n_WAYS_5,sl_WAYS_5⟩) {n_WAYS_6:Nat} {sl_WAYS_6:Array (Option Value)} (Ek:K.lookup r_WAYS_6=some ⟨.type "tuple",none,.seq #[.int (0) u_WAYS_6_0,.int (-1) u_WAYS_6_1,.int (1) u_WAYS_6_2,.int (0) u_WAYS_6_3] n_WAYS_6,sl_WAYS_6⟩) {n_WAYS_7:Nat} {sl_WAYS_7:Array (Option Value)} (zQ:K.lookup r_WAYS_7=some ⟨.type "tuple",none,.seq #[.int (-1) u_WAYS_7_0,.int (-1) u_WAYS_7_1,.int (1) u_WAYS_7_2,.int (0) u_WAYS_7_3] n_WAYS_7,sl_WAYS_7⟩) {n_WAYS_8:Nat} {sl_WAYS_8:Array (Option Value)} (Ec:K.lookup r_WAYS_8=some ⟨.type "tuple",none,.seq #[.int (-1) u_WAYS_8_0,.int (-1) u_WAYS_8_1,.int (1) u_WAYS_8_2,.int (1) u_WAYS_8_3] n_WAYS_8,sl_WAYS_8⟩) {n_WAYS_9:Nat} {sl_WAYS_9:Array (Option Value)} (Fp:K.lookup r_WAYS_9=some ⟨.type "tuple",none,.seq #[.int (0) u_WAYS_9_0,.int (-1) u_WAYS_9_1,.int (1) u_WAYS_9_2,.int (1) u_WAYS_9_3] n_WAYS_9,sl_WAYS_9⟩) {n_WAYS_10:Nat} {sl_WAYS_10:Array (Option Value)} (yD:K.lookup r_WAYS_10=some ⟨.type "tuple",none,.seq #[.int (1) u_WAYS_10_0,.int (-1) u_WAYS_10_1,.int (1) u_WAYS_10_2,.int (1) u_WAYS_10_3] n_WAYS_10,sl_WAYS_10⟩) {n_WAYS_11:Nat} {sl_WAYS_11:Array (Option Value)} (Dq:K.lookup r_WAYS_11=some ⟨.type "tuple",none,.seq #[.int (1) u_WAYS_11_0,.int (0) u_WAYS_11_1,.int (1) u_WAYS_11_2,.int (1) u_WAYS_11_3] n_WAYS_11,sl_WAYS_11⟩) {n_WAYS_12:Nat} {sl_WAYS_12:Array (Option Value)} (Fc:K.lookup r_WAYS_12=some ⟨.type "tuple",none,.seq #[.int (1) u_WAYS_12_0,.int (1) u_WAYS_12_1,.int (1) u_WAYS_12_2,.int (1) u_WAYS_12_3] n_WAYS_12,sl_WAYS_12⟩) (y_WAYS:(kF==sysModules)=false)
  {gI:Addr} {n_END_COUNTS:Nat} {t_END_COUNTS_0 u_END_COUNTS_0 t_END_COUNTS_1 u_END_COUNTS_1:Tok} (Ap:PySem.W.nsIn K mainGlobals "END_COUNTS"=some (some (.ref gI))) (zI:K.lookup gI=some ⟨.type "dict",none,.dict #[⟨PyData.keyHash w.params "point",.str "point" t_END_COUNTS_0,.int (1) u_END_COUNTS_0⟩,⟨PyData.keyHash w.params "stretch",.str "stretch" t_END_COUNTS_1,.int (2) u_END_COUNTS_1⟩] n_END_COUNTS,#[]⟩)  (y_END_COUNTS:(gI==sysModules)=false)
  {kL k_POINT_WORDS_0 r_POINT_WORDS_0 k_POINT_WORDS_1 r_POINT_WORDS_1 k_POINT_WORDS_2 r_POINT_WORDS_2:Addr} {n_POINT_WORDS:Nat} {tk_POINT_WORDS_0_0 tk_POINT_WORDS_0_1 tr_POINT_WORDS_0_0 tr_POINT_WORDS_0_1 tr_POINT_WORDS_0_2 tk_POINT_WORDS_1_0 tk_POINT_WORDS_1_1 tr_POINT_WORDS_1_0 tr_POINT_WORDS_1_1 tr_POINT_WORDS_1_2 tr_POINT_WORDS_1_3 tr_POINT_WORDS_1_4 tk_POINT_WORDS_2_0 tk_POINT_WORDS_2_1 tr_POINT_WORDS_2_0 tr_POINT_WORDS_2_1 tr_POINT_WORDS_2_2 tr_POINT_WORDS_2_3 tr_POINT_WORDS_2_4:Tok} (Ae:PySem.W.nsIn K mainGlobals "POINT_WORDS"=some (some (.ref kL))) (wV:K.lookup kL=some ⟨.type "dict",none,.dict #[⟨reduceHash (Builtin.Tuple.tupleHashOf [PyData.keyHash w.params "point",PyData.keyHash w.params "point"]),.ref k_POINT_WORDS_0,.ref r_POINT_WORDS_0⟩,⟨reduceHash (Builtin.Tuple.tupleHashOf [PyData.keyHash w.params "point",PyData.keyHash w.params "stretch"]),.ref k_POINT_WORDS_1,.ref r_POINT_WORDS_1⟩,⟨reduceHash (Builtin.Tuple.tupleHashOf [PyData.keyHash w.params "stretch",PyData.keyHash w.params "point"]),.ref k_POINT_WORDS_2,.ref r_POINT_WORDS_2⟩] n_POINT_WORDS,#[]⟩) {nk_POINT_WORDS_0:Nat} {slk_POINT_WORDS_0:Array (Option Value)} (lk_POINT_WORDS_0:K.lookup k_POINT_WORDS_0=some ⟨.type "tuple",none,.seq #[.str "point" tk_POINT_WORDS_0_0,.str "point" tk_POINT_WORDS_0_1] nk_POINT_WORDS_0,slk_POINT_WORDS_0⟩) {nr_POINT_WORDS_0:Nat} {slr_POINT_WORDS_0:Array (Option Value)} (lr_POINT_WORDS_0:K.lookup r_POINT_WORDS_0=some ⟨.type "tuple",none,.seq #[.str "ahead" tr_POINT_WORDS_0_0,.str "same" tr_POINT_WORDS_0_1,.str "behind" tr_POINT_WORDS_0_2] nr_POINT_WORDS_0,slr_POINT_WORDS_0⟩) {nk_POINT_WORDS_1:Nat} {slk_POINT_WORDS_1:Array (Option Value)} (lk_POINT_WORDS_1:K.lookup k_POINT_WORDS_1=some ⟨.type "tuple",none,.seq #[.str "point" tk_POINT_WORDS_1_0,.str "stretch" tk_POINT_WORDS_1_1] nk_POINT_WORDS_1,slk_POINT_WORDS_1⟩) {nr_POINT_WORDS_1:Nat} {slr_POINT_WORDS_1:Array (Option Value)} (lr_POINT_WORDS_1:K.lookup r_POINT_WORDS_1=some ⟨.type "tuple",none,.seq #[.str "ahead" tr_POINT_WORDS_1_0,.str "begins" tr_POINT_WORDS_1_1,.str "within" tr_POINT_WORDS_1_2,.str "ends" tr_POINT_WORDS_1_3,.str "behind" tr_POINT_WORDS_1_4] nr_POINT_WORDS_1,slr_POINT_WORDS_1⟩) {nk_POINT_WORDS_2:Nat} {slk_POINT_WORDS_2:Array (Option Value)} (lk_POINT_WORDS_2:K.lookup k_POINT_WORDS_2=some ⟨.type "tuple",none,.seq #[.str "stretch" tk_POINT_WORDS_2_0,.str "point" tk_POINT_WORDS_2_1] nk_POINT_WORDS_2,slk_POINT_WORDS_2⟩) {nr_POINT_WORDS_2:Nat} {slr_POINT_WORDS_2:Array (Option Value)} (lr_POINT_WORDS_2:K.lookup r_POINT_WORDS_2=some ⟨.type "tuple",none,.seq #[.str "ahead" tr_POINT_WORDS_2_0,.str "ended" tr_POINT_WORDS_2_1,.str "holds" tr_POINT_WORDS_2_2,.str "begun" tr_POINT_WORDS_2_3,.str "behind" tr_POINT_WORDS_2_4] nr_POINT_WORDS_2,slr_POINT_WORDS_2⟩) (y_POINT_WORDS:(kL==sysModules)=false)
  {lD:Addr} {n_ORDER:Nat} {sl_ORDER:Array (Option Value)} {t_ORDER_0 t_ORDER_1 t_ORDER_2 t_ORDER_3 t_ORDER_4 t_ORDER_5 t_ORDER_6 t_ORDER_7 t_ORDER_8 t_ORDER_9 t_ORDER_10 t_ORDER_11 t_ORDER_12:Tok} (yO:PySem.W.nsIn K mainGlobals "ORDER"=some (some (.ref lD))) (zA:K.lookup lD=some ⟨.type "tuple",none,.seq #[.str "ahead" t_ORDER_0,.str "meets" t_ORDER_1,.str "overlaps" t_ORDER_2,.str "begins" t_ORDER_3,.str "within" t_ORDER_4,.str "ends" t_ORDER_5,.str "same" t_ORDER_6,.str "ended" t_ORDER_7,.str "holds" t_ORDER_8,.str "begun" t_ORDER_9,.str "lapped" t_ORDER_10,.str "met" t_ORDER_11,.str "behind" t_ORDER_12] n_ORDER,sl_ORDER⟩)
  (z_tuple:PySem.W.nsIn K mainGlobals "tuple"=some none)
  (z_sorted:PySem.W.nsIn K mainGlobals "sorted"=some none)
  (z_range:PySem.W.nsIn K mainGlobals "range"=some none)
  (z_all:PySem.W.nsIn K mainGlobals "all"=some none)
  (z_zip:PySem.W.nsIn K mainGlobals "zip"=some none)
  (z_any:PySem.W.nsIn K mainGlobals "any"=some none)
  (z_list:PySem.W.nsIn K mainGlobals "list"=some none)
  (z_len:PySem.W.nsIn K mainGlobals "len"=some none)
  (z_int:PySem.W.nsIn K mainGlobals "int"=some none)
  (z_dict:PySem.W.nsIn K mainGlobals "dict"=some none)
  (z_min:PySem.W.nsIn K mainGlobals "min"=some none)
  (z_max:PySem.W.nsIn K mainGlobals "max"=some none)
  (z_isinstance:PySem.W.nsIn K mainGlobals "isinstance"=some none)
  (z_str:PySem.W.nsIn K mainGlobals "str"=some none)
  (z_set:PySem.W.nsIn K mainGlobals "set"=some none)
  (z_repr:PySem.W.nsIn K mainGlobals "repr"=some none)
  : ∃ fd:FuncData,(∀ (s:Shared) (v:Value),BindsTo s fd ⟨[v],[]⟩ [("_law_script",v)])/\∀ base:Heap,K.In base->base.Ns mainGlobals mg->FnOk l.prog w K mg base aV 9 fa fd ["_law_script"] (LSp K 1 nN):=by
 have e:=hfa.symm.trans (PySem.W.mg_of X G a22)
 cases e
 have kU:=cT (st:=lR) l0 c0 k0
 have yW:=(kU).binds (ps:=lE) fun _ _ _ _ _ _ us hl=>rP (by intros;rfl) us hl
 have Ai:=PySem.W.mg_of X G a0
 have gS:=cT (st:=kG) l1 c1 k1
 have oR:=(gS).binds (ps:=jD) fun _ _ _ _ _ _ us hl=>gA (by intros;rfl) us hl
 have pU:=PySem.W.mg_of X G a1
 have mO:=cT (st:=kW) l2 c2 k2
 have Ew:=(mO).binds (ps:=mB) fun _ _ _ _ _ _ us hl=>Kx (by intros;rfl) us hl
 have En:=PySem.W.mg_of X G a2
 have lV:=cT (st:=nM) l3 c3 k3
 have yV:=(lV).binds (ps:=mE) fun _ _ _ _ _ _ us hl=>Kx (by intros;rfl) us hl
 have Fy:=PySem.W.mg_of X G a3
 have mR:=cT (st:=mP) l4 c4 k4
 have yE:=(mR).binds (ps:=mC) fun _ _ _ _ _ _ us hl=>rP (by intros;rfl) us hl
 have Bo:=PySem.W.mg_of X G a4
 have lC:=cT (st:=mI) l5 c5 k5
 have Aa:=(lC).binds (ps:=nD) fun _ _ _ _ _ _ us hl=>gA (by intros;rfl) us hl
 have Bs:=PySem.W.mg_of X G a5
 have fM:=cT (st:=iX) l6 c6 k6
 have iV:=(fM).binds (ps:=gO) fun _ _ _ _ _ _ us hl=>gA (by intros;rfl) us hl
 have iO:=PySem.W.mg_of X G a6
 have jN:=cT (st:=kY) l7 c7 k7
 have sF:=(jN).binds (ps:=mV) fun _ _ _ _ _ _ us hl=>gA (by intros;rfl) us hl
 have uF:=PySem.W.mg_of X G a7
 have nK:=cT (st:=lI) l8 c8 k8
 have wY:=(nK).binds (ps:=lS) fun _ _ _ _ _ _ us hl=>Ga (by intros;rfl) us hl
 have Bq:=PySem.W.mg_of X G a8
 have gU:=cT (st:=kK) l9 c9 k9
 have oY:=(gU).binds (ps:=jI) fun _ _ _ _ _ _ us hl=>gA (by intros;rfl) us hl
 have pD:=PySem.W.mg_of X G a9
 have mQ:=cT (st:=nJ) l10 c10 k10
 have Ed:=(mQ).binds (ps:=mL) fun _ _ _ _ _ _ us hl=>rP (by intros;rfl) us hl
 have Ex:=PySem.W.mg_of X G a10
 have dA:=cT (st:=iQ) l11 c11 k11
 have eD:=(dA).binds (ps:=gC) fun _ _ _ _ _ _ us hl=>gA (by intros;rfl) us hl
 have eE:=PySem.W.mg_of X G a11
 have mU:=cT (st:=lU) l12 c12 k12
 have Ee:=(mU).binds (ps:=lX) fun _ _ _ _ _ _ us hl=>D9 (by intros;rfl) us hl
 have xP:=PySem.W.mg_of X G a12
 have eC:=cT (st:=gW) l13 c13 k13
 have fQ:=(eC).binds (ps:=fD) fun _ _ _ _ _ _ us hl=>rP (by intros;rfl) us hl
 have fX:=PySem.W.mg_of X G a13
 have kT:=cT (st:=nF) l14 c14 k14
 have xD:=(kT).binds (ps:=mN) fun _ _ _ _ _ _ us hl=>gA (by intros;rfl) us hl
 have zG:=PySem.W.mg_of X G a14
 have kS:=cT (st:=mF) l15 c15 k15
 have yA:=(kS).binds (ps:=nL) fun _ _ _ _ _ _ us hl=>rP (by intros;rfl) us hl
 have Cf:=PySem.W.mg_of X G a15
 have eV:=cT (st:=iP) l16 c16 k16
 have iY:=(eV).binds (ps:=gD) fun _ _ _ _ _ _ us hl=>gA (by intros;rfl) us hl
 have jC:=PySem.W.mg_of X G a16
 have lJ:=cT (st:=lT) l17 c17 k17
 have wP:=(lJ).binds (ps:=lH) fun _ _ _ _ _ _ us hl=>Ga (by intros;rfl) us hl
 have zN:=PySem.W.mg_of X G a17
 have lL:=cT (st:=lO) l18 c18 k18
 have Cb:=(lL).binds (ps:=mG) fun _ _ _ _ _ _ us hl=>gA (by intros;rfl) us hl
 have By:=PySem.W.mg_of X G a18
 have mK:=cT (st:=nG) l19 c19 k19
 have Dp:=(mK).binds (ps:=kZ) fun _ _ _ _ _ _ us hl=>gA (by intros;rfl) us hl
 have zC:=PySem.W.mg_of X G a19
 have nE:=cT (st:=mS) l20 c20 k20
 have Ff:=(nE).binds (ps:=lQ) fun _ _ _ _ _ _ us hl=>Ga (by intros;rfl) us hl
 have Bm:=PySem.W.mg_of X G a20
 have mX:=cT (st:=mT) l21 c21 k21
 have xC:=(mX).binds (ps:=nC) fun _ _ _ _ _ _ us hl=>gA (by intros;rfl) us hl
 have zM:=PySem.W.mg_of X G a21
 have yQ:=cT (st:=iM) l22 c22 k22
 have wZ:=PySem.W.mg_of X G Ae
 have Kk_POINT_WORDS_0:KT K k_POINT_WORDS_0 ["point","point"]:=⟨_,_,_,lk_POINT_WORDS_0,rfl,rfl,rfl,by show 2<=sizeLine;rw[sizeLine_eq];decide,.cons ⟨_,rfl⟩ (.cons ⟨_,rfl⟩ (.nil))⟩
 have Kr_POINT_WORDS_0:KT K r_POINT_WORDS_0 ["ahead","same","behind"]:=⟨_,_,_,lr_POINT_WORDS_0,rfl,rfl,rfl,by show 3<=sizeLine;rw[sizeLine_eq];decide,.cons ⟨_,rfl⟩ (.cons ⟨_,rfl⟩ (.cons ⟨_,rfl⟩ (.nil)))⟩
 have Kk_POINT_WORDS_1:KT K k_POINT_WORDS_1 ["point","stretch"]:=⟨_,_,_,lk_POINT_WORDS_1,rfl,rfl,rfl,by show 2<=sizeLine;rw[sizeLine_eq];decide,.cons ⟨_,rfl⟩ (.cons ⟨_,rfl⟩ (.nil))⟩
 have Kr_POINT_WORDS_1:KT K r_POINT_WORDS_1 ["ahead","begins","within","ends","behind"]:=⟨_,_,_,lr_POINT_WORDS_1,rfl,rfl,rfl,by show 5<=sizeLine;rw[sizeLine_eq];decide,.cons ⟨_,rfl⟩ (.cons ⟨_,rfl⟩ (.cons ⟨_,rfl⟩ (.cons ⟨_,rfl⟩ (.cons ⟨_,rfl⟩ (.nil)))))⟩
 have Kk_POINT_WORDS_2:KT K k_POINT_WORDS_2 ["stretch","point"]:=⟨_,_,_,lk_POINT_WORDS_2,rfl,rfl,rfl,by show 2<=sizeLine;rw[sizeLine_eq];decide,.cons ⟨_,rfl⟩ (.cons ⟨_,rfl⟩ (.nil))⟩
 have Kr_POINT_WORDS_2:KT K r_POINT_WORDS_2 ["ahead","ended","holds","begun","behind"]:=⟨_,_,_,lr_POINT_WORDS_2,rfl,rfl,rfl,by show 5<=sizeLine;rw[sizeLine_eq];decide,.cons ⟨_,rfl⟩ (.cons ⟨_,rfl⟩ (.cons ⟨_,rfl⟩ (.cons ⟨_,rfl⟩ (.cons ⟨_,rfl⟩ (.nil)))))⟩
 have xF:uS K w kL Et:=⟨[(["point","point"],k_POINT_WORDS_0,.ref r_POINT_WORDS_0),(["point","stretch"],k_POINT_WORDS_1,.ref r_POINT_WORDS_1),(["stretch","point"],k_POINT_WORDS_2,.ref r_POINT_WORDS_2)],⟨_,_,_,wV,rfl,rfl,rfl,rfl,⟨rfl,rfl,rfl,Kk_POINT_WORDS_0,⟨rfl,rfl,rfl,Kk_POINT_WORDS_1,⟨rfl,rfl,rfl,Kk_POINT_WORDS_2,True.intro⟩⟩⟩,by show List.Nodup ([["point","point"],["point","stretch"],["stretch","point"]]:List (List Str));decide +kernel,y_POINT_WORDS⟩,fun Z m H=>⟨_,_,rfl,KT.rp Kr_POINT_WORDS_0,⟨_,_,rfl,KT.rp Kr_POINT_WORDS_1,⟨_,_,rfl,KT.rp Kr_POINT_WORDS_2,rfl⟩⟩⟩⟩
 have yG:=PySem.W.mg_of X G yO
 have Dc:KT K lD ["ahead","meets","overlaps","begins","within","ends","same","ended","holds","begun","lapped","met","behind"]:=⟨_,_,_,zA,rfl,rfl,rfl,by show 13<=sizeLine;rw[sizeLine_eq];decide,.cons ⟨_,rfl⟩ (.cons ⟨_,rfl⟩ (.cons ⟨_,rfl⟩ (.cons ⟨_,rfl⟩ (.cons ⟨_,rfl⟩ (.cons ⟨_,rfl⟩ (.cons ⟨_,rfl⟩ (.cons ⟨_,rfl⟩ (.cons ⟨_,rfl⟩ (.cons ⟨_,rfl⟩ (.cons ⟨_,rfl⟩ (.cons ⟨_,rfl⟩ (.cons ⟨_,rfl⟩ (.nil)))))))))))))⟩
 have Bu:=PySem.W.mg_of X G Eo
 have xN:KD K w kF uA:=⟨[("ahead",.ref r_WAYS_0),("meets",.ref r_WAYS_1),("overlaps",.ref r_WAYS_2),("begins",.ref r_WAYS_3),("within",.ref r_WAYS_4),("ends",.ref r_WAYS_5),("same",.ref r_WAYS_6),("ended",.ref r_WAYS_7),("holds",.ref r_WAYS_8),("begun",.ref r_WAYS_9),("lapped",.ref r_WAYS_10),("met",.ref r_WAYS_11),("behind",.ref r_WAYS_12)],⟨_,_,_,Fl,rfl,rfl,rfl,rfl,⟨rfl,⟨_,rfl⟩,rfl,⟨rfl,⟨_,rfl⟩,rfl,⟨rfl,⟨_,rfl⟩,rfl,⟨rfl,⟨_,rfl⟩,rfl,⟨rfl,⟨_,rfl⟩,rfl,⟨rfl,⟨_,rfl⟩,rfl,⟨rfl,⟨_,rfl⟩,rfl,⟨rfl,⟨_,rfl⟩,rfl,⟨rfl,⟨_,rfl⟩,rfl,⟨rfl,⟨_,rfl⟩,rfl,⟨rfl,⟨_,rfl⟩,rfl,⟨rfl,⟨_,rfl⟩,rfl,⟨rfl,⟨_,rfl⟩,rfl,True.intro⟩⟩⟩⟩⟩⟩⟩⟩⟩⟩⟩⟩⟩,by show List.Nodup (["ahead","meets","overlaps","begins","within","ends","same","ended","holds","begun","lapped","met","behind"]:List Str);decide +kernel,y_WAYS⟩,fun Z m H=>⟨_,_,rfl,eW (is:=[-1,-1,-1,-1]) (.inr ⟨_,_,_,Dm,⟨rfl,rfl⟩,rfl,by show 4<=sizeLine;rw[sizeLine_eq];decide,.cons ⟨_,rfl⟩ (.cons ⟨_,rfl⟩ (.cons ⟨_,rfl⟩ (.cons ⟨_,rfl⟩ (.nil))))⟩),⟨_,_,rfl,eW (is:=[-1,-1,0,-1]) (.inr ⟨_,_,_,Br,⟨rfl,rfl⟩,rfl,by show 4<=sizeLine;rw[sizeLine_eq];decide,.cons ⟨_,rfl⟩ (.cons ⟨_,rfl⟩ (.cons ⟨_,rfl⟩ (.cons ⟨_,rfl⟩ (.nil))))⟩),⟨_,_,rfl,eW (is:=[-1,-1,1,-1]) (.inr ⟨_,_,_,yC,⟨rfl,rfl⟩,rfl,by show 4<=sizeLine;rw[sizeLine_eq];decide,.cons ⟨_,rfl⟩ (.cons ⟨_,rfl⟩ (.cons ⟨_,rfl⟩ (.cons ⟨_,rfl⟩ (.nil))))⟩),⟨_,_,rfl,eW (is:=[0,-1,1,-1]) (.inr ⟨_,_,_,Ac,⟨rfl,rfl⟩,rfl,by show 4<=sizeLine;rw[sizeLine_eq];decide,.cons ⟨_,rfl⟩ (.cons ⟨_,rfl⟩ (.cons ⟨_,rfl⟩ (.cons ⟨_,rfl⟩ (.nil))))⟩),⟨_,_,rfl,eW (is:=[1,-1,1,-1]) (.inr ⟨_,_,_,yU,⟨rfl,rfl⟩,rfl,by show 4<=sizeLine;rw[sizeLine_eq];decide,.cons ⟨_,rfl⟩ (.cons ⟨_,rfl⟩ (.cons ⟨_,rfl⟩ (.cons ⟨_,rfl⟩ (.nil))))⟩),⟨_,_,rfl,eW (is:=[1,-1,1,0]) (.inr ⟨_,_,_,Dh,⟨rfl,rfl⟩,rfl,by show 4<=sizeLine;rw[sizeLine_eq];decide,.cons ⟨_,rfl⟩ (.cons ⟨_,rfl⟩ (.cons ⟨_,rfl⟩ (.cons ⟨_,rfl⟩ (.nil))))⟩),⟨_,_,rfl,eW (is:=[0,-1,1,0]) (.inr ⟨_,_,_,Ek,⟨rfl,rfl⟩,rfl,by show 4<=sizeLine;rw[sizeLine_eq];decide,.cons ⟨_,rfl⟩ (.cons ⟨_,rfl⟩ (.cons ⟨_,rfl⟩ (.cons ⟨_,rfl⟩ (.nil))))⟩),⟨_,_,rfl,eW (is:=[-1,-1,1,0]) (.inr ⟨_,_,_,zQ,⟨rfl,rfl⟩,rfl,by show 4<=sizeLine;rw[sizeLine_eq];decide,.cons ⟨_,rfl⟩ (.cons ⟨_,rfl⟩ (.cons ⟨_,rfl⟩ (.cons ⟨_,rfl⟩ (.nil))))⟩),⟨_,_,rfl,eW (is:=[-1,-1,1,1]) (.inr ⟨_,_,_,Ec,⟨rfl,rfl⟩,rfl,by show 4<=sizeLine;rw[sizeLine_eq];decide,.cons ⟨_,rfl⟩ (.cons ⟨_,rfl⟩ (.cons ⟨_,rfl⟩ (.cons ⟨_,rfl⟩ (.nil))))⟩),⟨_,_,rfl,eW (is:=[0,-1,1,1]) (.inr ⟨_,_,_,Fp,⟨rfl,rfl⟩,rfl,by show 4<=sizeLine;rw[sizeLine_eq];decide,.cons ⟨_,rfl⟩ (.cons ⟨_,rfl⟩ (.cons ⟨_,rfl⟩ (.cons ⟨_,rfl⟩ (.nil))))⟩),⟨_,_,rfl,eW (is:=[1,-1,1,1]) (.inr ⟨_,_,_,yD,⟨rfl,rfl⟩,rfl,by show 4<=sizeLine;rw[sizeLine_eq];decide,.cons ⟨_,rfl⟩ (.cons ⟨_,rfl⟩ (.cons ⟨_,rfl⟩ (.cons ⟨_,rfl⟩ (.nil))))⟩),⟨_,_,rfl,eW (is:=[1,0,1,1]) (.inr ⟨_,_,_,Dq,⟨rfl,rfl⟩,rfl,by show 4<=sizeLine;rw[sizeLine_eq];decide,.cons ⟨_,rfl⟩ (.cons ⟨_,rfl⟩ (.cons ⟨_,rfl⟩ (.cons ⟨_,rfl⟩ (.nil))))⟩),⟨_,_,rfl,eW (is:=[1,1,1,1]) (.inr ⟨_,_,_,Fc,⟨rfl,rfl⟩,rfl,by show 4<=sizeLine;rw[sizeLine_eq];decide,.cons ⟨_,rfl⟩ (.cons ⟨_,rfl⟩ (.cons ⟨_,rfl⟩ (.cons ⟨_,rfl⟩ (.nil))))⟩),rfl⟩⟩⟩⟩⟩⟩⟩⟩⟩⟩⟩⟩⟩⟩
 have mZ:=PySem.W.mg_of X G Ap
 have nH:KD K w gI lB:=⟨[("point",.int (1)),("stretch",.int (2))],⟨_,_,_,zI,rfl,rfl,rfl,rfl,⟨rfl,⟨_,rfl⟩,⟨_,rfl⟩,⟨rfl,⟨_,rfl⟩,⟨_,rfl⟩,True.intro⟩⟩,by show List.Nodup (["point","stretch"]:List Str);decide +kernel,y_END_COUNTS⟩,fun Z m H=>⟨_,_,rfl,by simp only[RP],⟨_,_,rfl,by simp only[RP],rfl⟩⟩⟩
 have cR:=PySem.W.mg_none_of X G z_tuple
 have mM:=PySem.W.mg_none_of X G z_sorted
 have gM:=PySem.W.mg_none_of X G z_range
 have nU:=PySem.W.mg_none_of X G z_all
 have El:=PySem.W.mg_none_of X G z_zip
 have Fu:=PySem.W.mg_none_of X G z_any
 have pN:=PySem.W.mg_none_of X G z_list
 have eM:=PySem.W.mg_none_of X G z_len
 have kB:=PySem.W.mg_none_of X G z_int
 have Ca:=PySem.W.mg_none_of X G z_dict
 have Ak:=PySem.W.mg_none_of X G z_min
 have yH:=PySem.W.mg_none_of X G z_max
 have lG:=PySem.W.mg_none_of X G z_isinstance
 have zL:=PySem.W.mg_none_of X G z_str
 have Dl:=PySem.W.mg_none_of X G z_set
 have nQ:=PySem.W.mg_none_of X G z_repr
 refine⟨PySem.W.fnOf "law" "law" (cH iM) (cA iM) (aY iM) .none kV_22 dc_22 pm_22 an_22 cd_22 ct_22,fun s v=>.of_eq rfl,fun base _ _=>?_⟩;have Ct:=Yp (P:=l.prog) (w:=w) (mg:=mg) (base:=base) mQ pN G0
 have eF:=Qz (P:=l.prog) (w:=w) (mg:=mg) (base:=base) dA eM Tn
 have wM:=Zx (P:=l.prog) (w:=w) (mg:=mg) (base:=base) mU Y2
 have fV:=y7 (P:=l.prog) (w:=w) (mg:=mg) (base:=base) eC mU Ee xP wM Xa
 have Da:=i4 (P:=l.prog) (w:=w) (mg:=mg) (base:=base) lJ dA eD eE eF eC fQ fX fV cR BI
 have yM:=Xs (P:=l.prog) (w:=w) (mg:=mg) (base:=base) kT kB gM E2
 have Dk:=Xz (P:=l.prog) (w:=w) (mg:=mg) (base:=base) kS kT xD zG yM Ca Tu
 have iU:=S5 (P:=l.prog) (w:=w) (mg:=mg) (base:=base) eV kS yA Cf Dk eC fQ fX fV eM Ak yH cR Wl
 have Ck:=D1 (P:=l.prog) (w:=w) (mg:=mg) (base:=base) lL dA eD eE eF eC fQ fX fV lJ wP zN Da eV iY jC iU cR eM Wv
 have Bc:=L3 (P:=l.prog) (w:=w) (mg:=mg) (base:=base) mR x3
 have qH:=Xo (P:=l.prog) (w:=w) (mg:=mg) (base:=base) gS Bu xN C7
 have Au:=S3 (P:=l.prog) (w:=w) (mg:=mg) (base:=base) mO gS oR pU qH mZ nH N6
 have wX:=y8 (P:=l.prog) (w:=w) (mg:=mg) (base:=base) lV mO Ew En Au cR mM U8
 have xS:=w9 (P:=l.prog) (w:=w) (mg:=mg) (base:=base) lC mR yE Bo Bc lV yV Fy wX mZ nH gM Ud
 have zE:=d6 (P:=l.prog) (w:=w) (mg:=mg) (base:=base) kU wZ xF yG Dc B9
 have jB:=Uq (P:=l.prog) (w:=w) (mg:=mg) (base:=base) fM lC Aa Bs xS kU yW Ai zE gS oR pU qH cR nU El O8
 have tD:=Xr (P:=l.prog) (w:=w) (mg:=mg) (base:=base) jN fM iV iO jB Ve
 have Bj:=Rf (P:=l.prog) (w:=w) (mg:=mg) (base:=base) mK eC fQ fX fV lG cR zL pN Yn
 have xB:=A7 (P:=l.prog) (w:=w) (mg:=mg) (base:=base) nE mK Dp zC Bj eV iY jC iU lG cR eM mM Dl A4
 have Fg:=X0 (P:=l.prog) (w:=w) (mg:=mg) (base:=base) nK fM iV iO jB nU Sb
 have qG:=BY (P:=l.prog) (w:=w) (mg:=mg) (base:=base) gU nK wY Bq Fg Fu cR Rq
 have De:=Um (P:=l.prog) (w:=w) (mg:=mg) (base:=base) mX eV iY jC iU fM iV iO jB jN sF uF tD nE Ff Bm xB gU oY pD qG nQ y4
 exact Zv yQ mQ Ed Ex Ct dA eD eE eF lL Cb By Ck mX xC zM De gU oY pD qG kB gM G5
theorem walk{l:PySem.W.OpenLaw}{q:Program}{loose:List Str}{XP:(Str->Option Value)->Heap->Prop}{YP:World->Heap->Prop}{d:DefRec}{K:Params->PySem.W.Frag}(hn:l.most=some 63)(hdf:d.params.defaults=[])
  (hY:∀ (w:World) (h:Heap),YP w h->(K w.params).In h)
  (F:∀ (w:World) (mg:Str->Option Value) (fa:Addr) (h:Heap),(K w.params).In h->h.Ns mainGlobals mg->mg d.name=some (.ref fa) ->
   ∃ fd:FuncData,(∀ (s:Shared) (u:Value),BindsTo s fd ⟨[u],[]⟩ [("_law_script",u)])/\∀ base:Heap,(K w.params).In base->base.Ns mainGlobals mg->FnOk l.prog w (K w.params) mg base aV 9 fa fd ["_law_script"] (LSp (K w.params) 1 nN)) :
  PySem.W.WalkO q loose XP YP l.row.toRowW d [] (fun f vs=>PySem.call f vs) :=
 L2.walk_of (n:=63) (k:=9) (x:="_law_script") (CX:=fun _=>aV) (sp:=fun w=>LSp (K w.params) 1 nN) hn (by decide) hdf ⟨rfl,rfl,by decide,by decide⟩ hY F (fun _ _ a ns hl _ hS=>y6 hS ⟨ns,rfl,hl,fun _=>rfl⟩) fun _ _ _ _ _ z=>z
def i7(P:Params):Obj:=⟨Value.type "dict",none,Data.dict #[{hash:=reduceHash (Builtin.Tuple.tupleHashOf [PyData.keyHash P (Str.ofString "point"),PyData.keyHash P (Str.ofString "point")]),key:=Value.ref 17,val:=Value.ref 18},{hash:=reduceHash (Builtin.Tuple.tupleHashOf [PyData.keyHash P (Str.ofString "point"),PyData.keyHash P (Str.ofString "stretch")]),key:=Value.ref 19,val:=Value.ref 20},{hash:=reduceHash (Builtin.Tuple.tupleHashOf [PyData.keyHash P (Str.ofString "stretch"),PyData.keyHash P (Str.ofString "point")]),key:=Value.ref 21,val:=Value.ref 22}] 3,#[]⟩
def G4(P:Params):Obj:=⟨Value.type "tuple",none,Data.seq #[Value.str (Str.ofString "point") 203,Value.str (Str.ofString "point") 204],#[]⟩
def V6(P:Params):Obj:=⟨Value.type "tuple",none,Data.seq #[Value.str (Str.ofString "ahead") 205,Value.str (Str.ofString "same") 206,Value.str (Str.ofString "behind") 207],#[]⟩
def Wm(P:Params):Obj:=⟨Value.type "tuple",none,Data.seq #[Value.str (Str.ofString "point") 208,Value.str (Str.ofString "stretch") 209],#[]⟩
def b9(P:Params):Obj:=⟨Value.type "tuple",none,Data.seq #[Value.str (Str.ofString "ahead") 210,Value.str (Str.ofString "begins") 211,Value.str (Str.ofString "within") 212,Value.str (Str.ofString "ends") 213,Value.str (Str.ofString "behind") 214],#[]⟩
def N4(P:Params):Obj:=⟨Value.type "tuple",none,Data.seq #[Value.str (Str.ofString "stretch") 215,Value.str (Str.ofString "point") 216],#[]⟩
def J7(P:Params):Obj:=⟨Value.type "tuple",none,Data.seq #[Value.str (Str.ofString "ahead") 217,Value.str (Str.ofString "ended") 218,Value.str (Str.ofString "holds") 219,Value.str (Str.ofString "begun") 220,Value.str (Str.ofString "behind") 221],#[]⟩
noncomputable def kk(P:Params):PySem.W.Frag:=[(3,H38.o3 P),(15,H38.o15 P),(16,i7 P),(17,G4 P),(18,V6 P),(19,Wm P),(20,b9 P),(21,N4 P),(22,J7 P),(23,H38.o23 P),(24,H38.o24 P),(25,H38.o25 P),(26,H38.o26 P),(27,H38.o27 P),(28,H38.o28 P),(29,H38.o29 P),(30,H38.o30 P),(31,H38.o31 P),(32,H38.o32 P),(33,H38.o33 P),(34,H38.o34 P),(35,H38.o35 P),(36,H38.o36 P),(37,H38.o37 P),(43,H38.o43 P),(44,H38.o44 P),(50,H38.o50 P),(51,H38.o51 P),(57,H38.o57 P),(58,H38.o58 P),(62,H38.o62 P),(63,H38.o63 P),(69,H38.o69 P),(70,H38.o70 P),(74,H38.o74 P),(75,H38.o75 P),(79,H38.o79 P),(80,H38.o80 P),(86,H38.o86 P),(87,H38.o87 P),(91,H38.o91 P),(92,H38.o92 P),(96,H38.o96 P),(97,H38.o97 P),(103,H38.o103 P),(104,H38.o104 P),(110,H38.o110 P),(111,H38.o111 P),(117,H38.o117 P),(118,H38.o118 P),(124,H38.o124 P),(125,H38.o125 P),(131,H38.o131 P),(132,H38.o132 P),(136,H38.o136 P),(137,H38.o137 P),(141,H38.o141 P),(142,H38.o142 P),(146,H38.o146 P),(147,H38.o147 P),(153,H38.o153 P),(154,H38.o154 P),(158,H38.o158 P),(159,H38.o159 P),(163,H38.o163 P),(164,H38.o164 P),(170,H38.o170 P),(171,H38.o171 P),(177,H38.o177 P),(178,H38.o178 P)]
end K38
open PySem PySem.W PyProof.Rows
set_option maxRecDepth 100000 in
set_option maxHeartbeats 0 in
theorem PySem.Challenge.cw_whens_k38_plain_mays_and_parts_holds : PySem.Challenge.rw_whens_k38_plain_mays_and_parts.Holds := by
 w_on;o_law;refine H38.head (H:=kHook K38.kk [3,15,16,17,18,19,20,21,22,23,24,25,26,27,28,29,30,31,32,33,34,35,36,37,43,44,50,51,57,58,62,63,69,70,74,75,79,80,86,87,91,92,96,97,103,104,110,111,117,118,124,125,131,132,136,137,141,142,146,147,153,154,158,159,163,164,170,171,177,178] (fun _=>by kernel_rfl)) (fun w os=>by kernel_rfl) (by assumption) (by rfl) (by rfl) (by rfl) ?hw ?hc;(case hw=>w_witness2)
 k_fill
 refine K38.walk (l:=PySem.Challenge.rw_whens_k38_plain_mays_and_parts) rfl rfl (fun w h Y=>PySem.W.kIn_of Y) ?F
 case F =>
  intro w mg fa h KX G hmg
  refine' K38.all_mk  (vF:=44) (uU:=51) (sO:=58) (sZ:=63) (uN:=70) (uP:=75) (tN:=80) (tW:=87) (vT:=92) (tI:=97) (vE:=104) (sV:=111) (sG:=118) (tJ:=125) (vK:=132) (sY:=137) (tQ:=142) (vU:=147) (tL:=154) (wA:=159) (vP:=164) (vZ:=171) (vV:=178) (kL:=16) (lD:=15) (kF:=23) (gI:=37) KX G hmg ?a0 ?l0 ?c0 ?k0 ?a1 ?l1 ?c1 ?k1 ?a2 ?l2 ?c2 ?k2 ?a3 ?l3 ?c3 ?k3 ?a4 ?l4 ?c4 ?k4 ?a5 ?l5 ?c5 ?k5 ?a6 ?l6 ?c6 ?k6 ?a7 ?l7 ?c7 ?k7 ?a8 ?l8 ?c8 ?k8 ?a9 ?l9 ?c9 ?k9 ?a10 ?l10 ?c10 ?k10 ?a11 ?l11 ?c11 ?k11 ?a12 ?l12 ?c12 ?k12 ?a13 ?l13 ?c13 ?k13 ?a14 ?l14 ?c14 ?k14 ?a15 ?l15 ?c15 ?k15 ?a16 ?l16 ?c16 ?k16 ?a17 ?l17 ?c17 ?k17 ?a18 ?l18 ?c18 ?k18 ?a19 ?l19 ?c19 ?k19 ?a20 ?l20 ?c20 ?k20 ?a21 ?l21 ?c21 ?k21 ?a22 ?l22 ?c22 ?k22 ?Eo ?Fl ?Dm ?Br ?yC ?Ac ?yU ?Dh ?Ek ?zQ ?Ec ?Fp ?yD ?Dq ?Fc ?y_WAYS ?Ap ?zI ?y_END_COUNTS ?Ae ?wV ?lk_POINT_WORDS_0 ?lr_POINT_WORDS_0 ?lk_POINT_WORDS_1 ?lr_POINT_WORDS_1 ?lk_POINT_WORDS_2 ?lr_POINT_WORDS_2 ?y_POINT_WORDS ?yO ?zA ?z_tuple ?z_sorted ?z_range ?z_all ?z_zip ?z_any ?z_list ?z_len ?z_int ?z_dict ?z_min ?z_max ?z_isinstance ?z_str ?z_set ?z_repr
  (case a0=>kernel_rfl)
  (case l0=>exact rfl)
  (case c0=>kernel_rfl)
  (case k0=>kernel_rfl)
  (case a1=>kernel_rfl)
  (case l1=>exact rfl)
  (case c1=>kernel_rfl)
  (case k1=>kernel_rfl)
  (case a2=>kernel_rfl)
  (case l2=>exact rfl)
  (case c2=>kernel_rfl)
  (case k2=>kernel_rfl)
  (case a3=>kernel_rfl)
  (case l3=>exact rfl)
  (case c3=>kernel_rfl)
  (case k3=>kernel_rfl)
  (case a4=>kernel_rfl)
  (case l4=>exact rfl)
  (case c4=>kernel_rfl)
  (case k4=>kernel_rfl)
  (case a5=>kernel_rfl)
  (case l5=>exact rfl)
  (case c5=>kernel_rfl)
  (case k5=>kernel_rfl)
  (case a6=>kernel_rfl)
  (case l6=>exact rfl)
  (case c6=>kernel_rfl)
  (case k6=>kernel_rfl)
  (case a7=>kernel_rfl)
  (case l7=>exact rfl)
  (case c7=>kernel_rfl)
  (case k7=>kernel_rfl)
  (case a8=>kernel_rfl)
  (case l8=>exact rfl)
  (case c8=>kernel_rfl)
  (case k8=>kernel_rfl)
  (case a9=>kernel_rfl)
  (case l9=>exact rfl)
  (case c9=>kernel_rfl)
  (case k9=>kernel_rfl)
  (case a10=>kernel_rfl)
  (case l10=>exact rfl)
  (case c10=>kernel_rfl)
  (case k10=>kernel_rfl)
  (case a11=>kernel_rfl)
  (case l11=>exact rfl)
  (case c11=>kernel_rfl)
  (case k11=>kernel_rfl)
  (case a12=>kernel_rfl)
  (case l12=>exact rfl)
  (case c12=>kernel_rfl)
  (case k12=>kernel_rfl)
  (case a13=>kernel_rfl)
  (case l13=>exact rfl)
  (case c13=>kernel_rfl)
  (case k13=>kernel_rfl)
  (case a14=>kernel_rfl)
  (case l14=>exact rfl)
  (case c14=>kernel_rfl)
  (case k14=>kernel_rfl)
  (case a15=>kernel_rfl)
  (case l15=>exact rfl)
  (case c15=>kernel_rfl)
  (case k15=>kernel_rfl)
  (case a16=>kernel_rfl)
  (case l16=>exact rfl)
  (case c16=>kernel_rfl)
  (case k16=>kernel_rfl)
  (case a17=>kernel_rfl)
  (case l17=>exact rfl)
  (case c17=>kernel_rfl)
  (case k17=>kernel_rfl)
  (case a18=>kernel_rfl)
  (case l18=>exact rfl)
  (case c18=>kernel_rfl)
  (case k18=>kernel_rfl)
  (case a19=>kernel_rfl)
  (case l19=>exact rfl)
  (case c19=>kernel_rfl)
  (case k19=>kernel_rfl)
  (case a20=>kernel_rfl)
  (case l20=>exact rfl)
  (case c20=>kernel_rfl)
  (case k20=>kernel_rfl)
  (case a21=>kernel_rfl)
  (case l21=>exact rfl)
  (case c21=>kernel_rfl)
  (case k21=>kernel_rfl)
  (case a22=>kernel_rfl)
  (case l22=>exact rfl)
  (case c22=>kernel_rfl)
  (case k22=>kernel_rfl)
  (case Eo=>kernel_rfl)
  (case Fl=>exact rfl)
  (case Dm=>exact rfl)
  (case Br=>exact rfl)
  (case yC=>exact rfl)
  (case Ac=>exact rfl)
  (case yU=>exact rfl)
  (case Dh=>exact rfl)
  (case Ek=>exact rfl)
  (case zQ=>exact rfl)
  (case Ec=>exact rfl)
  (case Fp=>exact rfl)
  (case yD=>exact rfl)
  (case Dq=>exact rfl)
  (case Fc=>exact rfl)
  (case y_WAYS=>rfl)
  (case Ap=>kernel_rfl)
  (case zI=>exact rfl)
  (case y_END_COUNTS=>rfl)
  (case Ae=>kernel_rfl)
  (case wV=>exact rfl)
  (case lk_POINT_WORDS_0=>exact rfl)
  (case lr_POINT_WORDS_0=>exact rfl)
  (case lk_POINT_WORDS_1=>exact rfl)
  (case lr_POINT_WORDS_1=>exact rfl)
  (case lk_POINT_WORDS_2=>exact rfl)
  (case lr_POINT_WORDS_2=>exact rfl)
  (case y_POINT_WORDS=>rfl)
  (case yO=>kernel_rfl)
  (case zA=>exact rfl)
  (case z_tuple=>kernel_rfl)
  (case z_sorted=>kernel_rfl)
  (case z_range=>kernel_rfl)
  (case z_all=>kernel_rfl)
  (case z_zip=>kernel_rfl)
  (case z_any=>kernel_rfl)
  (case z_list=>kernel_rfl)
  (case z_len=>kernel_rfl)
  (case z_int=>kernel_rfl)
  (case z_dict=>kernel_rfl)
  (case z_min=>kernel_rfl)
  (case z_max=>kernel_rfl)
  (case z_isinstance=>kernel_rfl)
  (case z_str=>kernel_rfl)
  (case z_set=>kernel_rfl)
  (case z_repr=>kernel_rfl)
#print axioms PySem.Challenge.cw_whens_k38_plain_mays_and_parts_holds
