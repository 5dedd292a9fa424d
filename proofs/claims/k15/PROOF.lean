import PyProof.Rows.All
import Wide.All
import OpenK.AllK
import Wide.FinOn
import Lean
import PyProof.EqAt
import PyProof.EqKinds
import PyProof.TupleCall
import PyProof.ListMulRoad
import KE.KRevIter
import PyProof.ZipIter
import PyProof.TupleIter
import PyProof.Rows.SortWalk
import PyProof.Rows.SortStr
import PyProof.Rows.StrWeight2
import PyProof.ConsumeWalk
import PyProof.SliceStr2
import PyProof.ListRange
import PyProof.TupleOfSeq
import PyProof.P3In
import PyProof.AttrMissHeap
import KE.KDictOf
import PyProof.StrBlockI
import PyProof.WalksEnum
import PyProof.EnumMake
import PyProof.DictWalks
import PyProof.SetRoads
import PyProof.SetNew
import PyProof.Rows.SetFrom
import PyProof.CollectWalk
import PyProof.StrWalks
import PyProof.FString5
import Open.Tops
import PyProof.DictDisplay
import PyProof.Rows.TupDisplay
import PySem.Challenge.RW_whens_k15_talks_by_kind
set_option Elab.async false
set_option linter.all false
set_option maxRecDepth 100000
set_option maxHeartbeats 4000000
namespace L2
open PySem PySem.Spec PyProof.Rows
abbrev aU:=Sum Int Str
def oG:aU->Value->Bool
 | .inl k,v=>Value.isInt k v
 | .inr x,v=>Value.isStrOf x v
def UZ(w:World):aU->Int
 | .inl k=>hashInt k
 | .inr x=>hashStr w x
theorem kH:∀ {k:aU} {v:Value},oG k v=true->(∃ i t,k=Sum.inl i/\v=Value.int i t)\/(∃ x t,k=Sum.inr x/\v=Value.str x t)
 | .inl i,v,h=>by
  obtain⟨t,e⟩:=Value.isInt_shape (k:=i) (v:=v) h;exact .inl ⟨i,t,rfl,e⟩
 | .inr x,v,h=>by
  obtain⟨t,e⟩:=Value.isStrOf_shape (x:=x) (v:=v) h;exact .inr ⟨x,t,rfl,e⟩
theorem ET(i:Int)(t:Tok):oG (.inl i) (.int i t)=true:=by simp[oG,Value.isInt]
theorem O5(x:Str)(t:Tok):oG (.inr x) (.str x t)=true:=by simp[oG,Value.isStrOf]
theorem Y0(a b:Int):decide ((Sum.inl a:aU)=Sum.inl b)=(a==b):=by
 by_cases e:a=b
 ·subst e;simp
 ·have h:¬ (Sum.inl a:aU)=Sum.inl b:=fun q=>e (Sum.inl.inj q)
  rw[decide_eq_false h];exact(beq_eq_false_iff_ne.mpr e).symm
theorem NB(a b:Str):decide ((Sum.inr a:aU)=Sum.inr b)=decide (a=b):=by
 by_cases e:a=b
 ·subst e;simp
 ·have h:¬ (Sum.inr a:aU)=Sum.inr b:=fun q=>e (Sum.inr.inj q)
  rw[decide_eq_false h,decide_eq_false e]
theorem RV(a:Int)(b:Str):decide ((Sum.inl a:aU)=Sum.inr b)=false:=decide_eq_false (fun q=>nomatch q)
theorem IM(a:Str)(b:Int):decide ((Sum.inr a:aU)=Sum.inl b)=false:=decide_eq_false (fun q=>nomatch q)
def dC(prog:Program)(w:World):PySem.KeyKind prog w aU where
 is:=oG
 hash:=UZ w
 inj:=fun v a b ha hb=>by
  rcases kH ha with⟨i,t,rfl,rfl⟩ | ⟨x,t,rfl,rfl⟩
  ·rcases kH hb with⟨j,u,rfl,e⟩ | ⟨y,u,rfl,e⟩
   ·injection e with e1 _;rw[e1]
   ·exact nomatch e
  ·rcases kH hb with⟨j,u,rfl,e⟩ | ⟨y,u,rfl,e⟩
   ·exact nomatch e
   ·injection e with e1 _;rw[e1]
 byValue:=fun k v h=>by
  rcases kH h with⟨i,t,rfl,rfl⟩ | ⟨x,t,rfl,rfl⟩<;>rfl
 pyHash:=fun hv h=>by
  rcases kH hv with⟨i,t,rfl,rfl⟩ | ⟨x,t,rfl,rfl⟩
  ·exact wpAny_pyHash_int h
  ·exact wpAny_pyHash_str h
 eqBool:=fun hu hv h=>by
  rcases kH hu with⟨i,t,rfl,rfl⟩ | ⟨x,t,rfl,rfl⟩
  ·rcases kH hv with⟨j,u,rfl,rfl⟩ | ⟨y,u,rfl,rfl⟩
   ·rw[Y0]at h;exact wpAny_eqBool_int h
   ·rw[RV]at h;exact SeqAt.EqAt.int_str i t y u _ _ _ _ h
  ·rcases kH hv with⟨j,u,rfl,rfl⟩ | ⟨y,u,rfl,rfl⟩
   ·rw[IM]at h;exact SeqAt.EqAt.str_int x t j u _ _ _ _ h
   ·rw[NB]at h;exact wpAny_eqBool_str h
 «strs»:=fun k x t v h=>by
  rcases kH h with⟨i,u,rfl,e⟩ | ⟨y,u,rfl,e⟩
  ·exact nomatch e
  ·injection e with e1 _
   subst e1
   cases v<;>rfl
theorem MS(prog:Program)(w:World)(i:Int)(t:Tok):(dC prog w).is (.inl i) (.int i t)=true:=ET i t
theorem ON(prog:Program)(w:World)(x:Str)(t:Tok):(dC prog w).is (.inr x) (.str x t)=true:=O5 x t
inductive V where
 | non | bl (b:Bool) | int (i:Int) | str (x:Str) | byt (b:Array UInt8) | flt (b:UInt64) | ref (a:Addr) | ty (n:String)
 deriving DecidableEq
def RelV:V->Value->Prop
 | .non,u=>u=Value.none
 | .bl b,u=>u=Value.bool b
 | .int i,u=>∃ t,u=Value.int i t
 | .str x,u=>∃ t,u=Value.str x t
 | .byt b,u=>∃ t,u=Value.bytes b t
 | .flt b,u=>∃ t,u=Value.float b t
 | .ref a,u=>u=Value.ref a
 | .ty n,u=>u=Value.type n
abbrev Vals:List V->List Value->Prop:=Paired RelV
theorem Vals.length{xs:List V}{us:List Value}(r:Vals xs us):xs.length=us.length:=Paired.length r
theorem Vals.get:∀ {xs:List V} {us:List Value} {i:Nat} {x:V},Vals xs us->xs[i]?=some x->∃ u,us[i]?=some u/\RelV x u
 | _,_,_,_,.nil,e=>by simp at e
 | _,_,0,_,.cons r _,e=>by simp at e;subst e;exact⟨_,rfl,r⟩
 | _,_,i+1,x,.cons _ t,e=>by
  obtain⟨u,h1,h2⟩:=Vals.get (i:=i) (x:=x) t (by simpa using e)
  exact⟨u,by simpa using h1,h2⟩
theorem Vals.set{x:V}{u:Value}(r:RelV x u):∀ {xs:List V} {us:List Value} (i:Nat),Vals xs us->Vals (xs.set i x) (us.set i u)
 | _,_,_,.nil=>.nil
 | _,_,0,.cons _ t=>.cons r t
 | _,_,i+1,.cons q t=>.cons q (Vals.set r i t)
theorem Vals.append:∀ {xs ys:List V} {us ws:List Value},Vals xs us->Vals ys ws->Vals (xs++ys) (us++ws)
 | _,_,_,_,.nil,s=>s
 | _,_,_,_,.cons r t,s=>.cons r (Vals.append t s)
theorem Vals.take:∀ {xs:List V} {us:List Value} (n:Nat),Vals xs us->Vals (xs.take n) (us.take n)
 | _,_,0,_=>.nil
 | _,_,_+1,.nil=>.nil
 | _,_,n+1,.cons r t=>.cons r (Vals.take n t)
theorem Vals.drop:∀ {xs:List V} {us:List Value} (n:Nat),Vals xs us->Vals (xs.drop n) (us.drop n)
 | _,_,0,r=>r
 | _,_,_+1,.nil=>.nil
 | _,_,n+1,.cons _ t=>Vals.drop n t
def RelO:Option V->Option Value->Prop
 | some v,some u=>RelV v u
 | none,none=>True
 | _,_=>False
def KV{κ:Type}:List (κ×V)->List (κ×Value)->Prop:=Paired fun(p:κ×V) (q:κ×Value)=>p.1=q.1/\RelV p.2 q.2
def kV:aU->V
 | .inl i=>.int i
 | .inr x=>.str x
inductive HO where
 | lst (xs:List V)
 | tup (xs:List V)
 | dK (kvs:List (aU×V)) | dT (kvs:List (List aU×V))
 | set (S:Int->Bool) (n:Nat)
 | ins (C dx:Addr) (fs:List (Str×V))
 | own (x:Addr)
 | xd (fs:List (Str×V))
 | met (f x:Addr)
 | rng (lo hi:Int)
 | frz (o:Obj) (u:HO)
 | tbl (ps:Array Value)
 | ext (φ:Heap->Prop)
abbrev Hp:=Addr->Option HO
def upd(H:Hp)(a:Addr)(o:HO):Hp:=fun b=>if b=a then some o else H b
theorem dR{H:Hp}{a:Addr}{o:HO}:upd H a o a=some o:=by unfold upd;rw[if_pos rfl]
theorem cW{H:Hp}{a b:Addr}{o:HO}(h:b≠a):upd H a o b=H b:=by unfold upd;rw[if_neg h]
theorem wG{H:Hp}{a b:Addr}{o:HO}(h:H a=some o)(h':H b=none):a≠b:=by
 intro e;subst e;rw[h]at h';cases h'
def NoD(h:Heap)(a:Addr):Prop:=∃ o,h.get? a=some o/\o.dict=none
theorem NoD.new(h:Heap)(c:Value)(d:Data)(hf:Obj.isFreed {cls:=c,data:=d}=false:=by rfl):NoD (h.push {cls:=c,data:=d}) h.objs.size:=⟨_,Heap.get?_push_size _ hf,rfl⟩
theorem NoD.keep{h h':Heap}{a:Addr}(x:NoD h a)(k:∀ o,h.get? a=some o->h'.get? a=some o):NoD h' a:=let ⟨o,e,d⟩:=x;⟨o,k _ e,d⟩
section
variable (P:Program)(w:World)
def ObjOk(H:Hp)(h:Heap)(a:Addr):HO->Prop
 | .lst xs=>xs.length<=sizeLine/\∃ (its:List Value) (n:Nat),Vals xs its/\h.get? a=some {cls:=.type "list",data:=.seq its.toArray n}
 | .tup xs=>(xs.length<=sizeLine/\NoD h a)/\∃ its:List Value,Vals xs its/\IsTup h a its.toArray
 | .dK kvs=>kvs.length<=sizeLine/\(a==sysModules)=false/\∃ vs,KV kvs vs/\h.DictOf (dC P w) a vs
 | .dT kvs=>kvs.length<=sizeLine/\(a==sysModules)=false/\∃ xs:List (List aU×Addr×Value),
   Paired (fun(p:List aU×V) (q:List aU×Addr×Value)=>p.1=q.1/\H q.2.1=some (.tup (p.1.map kV))/\RelV p.2 q.2.2) kvs xs /\
   ∃ o es ep,h.get? a=some o/\o.ExactDict/\o.data=.dict es ep/\es.toList=xs.map (entryOfKey (tupleKind (dC P w)))/\(xs.map (·.1)).Nodup
 | .set S n=>h.SetOf (intKind P w) a S n
 | .ins C dx fs=>H dx=some (.own a)/\fs.length<=1000/\dx≠a/\h.get? a=some (PySem.W.instObj C dx) /\
   ∃ mA,h.Ns1 dx mA/\(∀ f,RelO (fs.lookup f) (mA f))/\PySem.Within mA (fs.map (·.1))
 | .own _=>∃ o,h.get? a=some o
 | .xd fs=>∃ mA,h.Ns1 a mA/\∀ f,RelO (fs.lookup f) (mA f)
 | .rng lo hi=>∃ t u v,h.get? a=some {cls:=.type "range",data:=.fields #[.int lo t,.int hi u,.int 1 v]}
 | .frz o u=>h.get? a=some o/\ObjOk H h a u
 | .tbl ps=>h.get? a=some {cls:=.none,data:=.fields ps}
 | .met f x=>h.get? a=some (PySem.W.methodObj (.ref f) (.ref x))
 | .ext φ=>φ h/\(∃ o,h.get? a=some o)/\∀ h1 h2:Heap,φ h1->(∀ o,h1.get? a=some o->h2.get? a=some o)->φ h2
def HOk(H:Hp)(h:Heap):Prop:=∀ a o,H a=some o->ObjOk P w H h a o
end
section
variable {P:Program}{w:World}{H H':Hp}{h h':Heap}{a:Addr}{o:HO}
theorem ObjOk.lt(x:ObjOk P w H h a o):a<h.objs.size:=by
 cases o with
 | lst xs=>obtain⟨_,_,_,_,e⟩:=x;exact Heap.lt_size e
 | tup xs=>obtain⟨_,_,_,p⟩:=x;exact p.lt
 | dK kvs=>obtain⟨_,_,_,_,o,_,_,e,_⟩:=x;exact Heap.lt_size e
 | dT kvs=>obtain⟨_,_,_,_,o,_,_,e,_⟩:=x;exact Heap.lt_size e
 | set S n=>obtain⟨o,_,_,_,e,_⟩:=x;exact Heap.lt_size e
 | ins C dx fs=>obtain⟨_,_,_,e,_⟩:=x;exact Heap.lt_size e
 | own y=>obtain⟨_,e⟩:=x;exact Heap.lt_size e
 | xd fs=>obtain⟨_,⟨_,_,_,e,_⟩,_⟩:=x;exact Heap.lt_size e
 | rng lo hi=>obtain⟨_,_,_,e⟩:=x;exact Heap.lt_size e
 | frz ob u=>obtain⟨e,_⟩:=x;exact Heap.lt_size e
 | tbl ps=>exact Heap.lt_size (show h.get? a=some _ from x)
 | met f y=>exact Heap.lt_size (show h.get? a=some _ from x)
 | ext φ=>obtain⟨_,⟨_,e⟩,_⟩:=x;exact Heap.lt_size e
theorem Paired.mapP{α β:Type}{F G:α->β->Prop}:∀ {l₁:List α} {l₂:List β},Paired F l₁ l₂->(∀ a b,F a b->G a b)->Paired G l₁ l₂
 | _,_,.nil,_=>.nil
 | _,_,.cons r t,f=>.cons (f _ _ r) (Paired.mapP t f)
theorem ObjOk.stay(x:ObjOk P w H h a o)(k:∀ b u,(b=a\/H b=some (.own a))->h.get? b=some u->h'.get? b=some u)
  (ho:∀ b,H b=some (.own a)->H' b=some (.own a)) (ht:∀ b xs,H b=some (.tup xs)->H' b=some (.tup xs)):ObjOk P w H' h' a o:=by
 induction o with
 | lst xs=>obtain⟨z,its,n,r,e⟩:=x;exact⟨z,its,n,r,k _ _ (.inl rfl) e⟩
 | tup xs=>obtain⟨z,its,r,ob,e,c⟩:=x;exact⟨⟨z.1,z.2.keep fun _ e=>k _ _ (.inl rfl) e⟩,its,r,ob,k _ _ (.inl rfl) e,c⟩
 | dK kvs=>obtain⟨z,y,vs,r,ob,es,ep,e,c⟩:=x;exact⟨z,y,vs,r,ob,es,ep,k _ _ (.inl rfl) e,c⟩
 | dT kvs =>
  obtain⟨z,y,xs,r,ob,es,ep,e,c⟩:=x;exact⟨z,y,xs,Paired.mapP r fun p q z=>⟨z.1,ht _ _ z.2.1,z.2.2⟩,ob,es,ep,k _ _ (.inl rfl) e,c⟩
 | set S n=>obtain⟨ob,es,ep,t,e,c⟩:=x;exact⟨ob,es,ep,t,k _ _ (.inl rfl) e,c⟩
 | ins C dx fs =>
  obtain⟨d,z,ne,e,mA,⟨od,es,ep,e2,c⟩,r⟩:=x;exact⟨ho _ d,z,ne,k _ _ (.inl rfl) e,mA,⟨od,es,ep,k _ _ (.inr d) e2,c⟩,r⟩
 | own y=>obtain⟨ob,e⟩:=x;exact⟨ob,k _ _ (.inl rfl) e⟩
 | xd fs=>obtain⟨mA,⟨od,es,ep,e,c⟩,r⟩:=x;exact⟨mA,⟨od,es,ep,k _ _ (.inl rfl) e,c⟩,r⟩
 | rng lo hi=>obtain⟨t,u,v,e⟩:=x;exact⟨t,u,v,k _ _ (.inl rfl) e⟩
 | frz ob u ih=>obtain⟨e,q⟩:=x;exact⟨k _ _ (.inl rfl) e,ih q⟩
 | tbl ps =>
  have e:h.get? a=some {cls:=.none,data:=.fields ps}:=x
  show h'.get? a=some {cls:=.none,data:=.fields ps}
  exact k a _ (.inl rfl) e
 | met f y =>
  have e:h.get? a=some (PySem.W.methodObj (.ref f) (.ref y)):=x
  show h'.get? a=some (PySem.W.methodObj (.ref f) (.ref y))
  exact k a _ (.inl rfl) e
 | ext φ=>obtain⟨p,⟨o,e⟩,st⟩:=x;exact⟨st _ _ p fun o q=>k _ _ (.inl rfl) q,⟨o,k _ _ (.inl rfl) e⟩,st⟩
theorem HOk.lt(x:HOk P w H h)(e:H a=some o):a<h.objs.size:=(x a o e).lt
theorem HOk.fresh(x:HOk P w H h)(e:h.objs.size<=a):H a=none:=by
 cases q:H a with
 | none=>rfl
 | some u=>exact absurd (Nat.lt_of_lt_of_le (x.lt q) e) (Nat.lt_irrefl _)
theorem HOk.kept(x:HOk P w H h)(k:∀ b u,h.get? b=some u->h'.get? b=some u):HOk P w H h':=fun a o e =>
 (x a o e).stay (fun b u _ q=>k b u q) (fun _ q=>q) fun _ _ q=>q
theorem HOk.laid(x:HOk P w H h)(k:∀ b u,h.get? b=some u->h'.get? b=some u)(hp:h.objs.size<=a)(new:ObjOk P w (upd H a o) h' a o):HOk P w (upd H a o) h':=fun b u e=>by
 have hn:=x.fresh hp
 by_cases hb:b=a
 ·subst hb;rw[dR]at e;cases e;exact new
 ·rw[cW hb]at e;exact(x b u e).stay (fun c v _ q=>k c v q) (fun c q=>by rw[cW (wG q hn)];exact q) fun c xs q=>by rw[cW (wG q hn)];exact q
end
def Rd(H:Hp)(a:Addr)(u:HO):Prop:=H a=some u\/∃ o,H a=some (.frz o u)
theorem Rd.of{H:Hp}{a:Addr}{u:HO}(h:H a=some u):Rd H a u:=.inl h
theorem Rd.ok{P:Program}{w:World}{H:Hp}{h:Heap}{a:Addr}{u:HO}(r:Rd H a u)(x:HOk P w H h):ObjOk P w H h a u:=by
 rcases r with r | ⟨o,r⟩
 ·exact x a u r
 ·obtain⟨_,q⟩:=x a _ r;exact q
def Bi:Option HO->Prop
 | some (.lst _)=>True
 | some (.dK _)=>True
 | some (.dT _)=>True
 | some (.set _ _)=>True
 | some (.ins _ _ _)=>True
 | some (.ext _)=>True
 | _=>False
section
variable {P:Program}{w:World}{H:Hp}{h h':Heap}{x e:Addr}{o':HO}
theorem HOk.write(ok:HOk P w H h)(mu:Bi (H x))(he:e=x\/H e=some (.own x))(k:∀ b u,b≠e->h.get? b=some u->h'.get? b=some u)(heo:∃ u,h'.get? e=some u)
  (new:ObjOk P w (upd H x o') h' x o'):HOk P w (upd H x o') h':=fun b u q=>by
 have nown:∀ c y,H c=some (.own y)->c≠x:=fun c y r z=>by subst z;rw[r]at mu;exact mu
 have ntup:∀ c xs,H c=some (.tup xs)->c≠x:=fun c xs r z=>by subst z;rw[r]at mu;exact mu
 by_cases hb:b=x
 ·subst hb;rw[dR]at q;cases q;exact new
 ·rw[cW hb]at q
  by_cases hbe:b=e
  ·have q':H b=some (.own x):=by
    rcases he with z | z
    ·exact absurd (hbe.trans z) hb
    ·rw[hbe];exact z
   rw[q]at q';cases q';obtain⟨v,hv⟩:=heo;exact⟨v,by rw[hbe];exact hv⟩
  ·refine(ok b u q).stay (fun c v hc r=>k c v ?_ r) (fun c r=>by rw[cW (nown c b r)];exact r) fun c xs r=>by rw[cW (ntup c xs r)];exact r
   rcases hc with rfl | hc
   ·exact hbe
   ·rintro rfl;rcases he with z | z
    ·exact nown c b hc z
    ·rw[hc]at z;cases z;exact hb rfl
end
structure Un (fs ex:List Addr) (H H':Hp) (h h':Heap):Prop where
 keep:∀ b o,h.get? b=some o->H b=none->b∉fs->b∉ex->h'.get? b=some o
 slot:∀ b o,h.get? b=some o->H b=none->b∈fs->b∉ex->∃ sl,h'.get? b=some {o with slots:=sl}
 free:∀ b o,h.get? b=some o->H b=none->b∉ex->H' b=none
 there:∀ b o,h.get? b=some o->b∉ex->∃ o',h'.get? b=some o'
 tups:∀ b xs,H b=some (.tup xs)->H' b=some (.tup xs)
 frzs:∀ b o u,H b=some (.frz o u)->H' b=some (.frz o u)
 tbls:∀ b ps,H b=some (.tbl ps)->∃ more,H' b=some (.tbl (ps++more))
section
variable {fs fs' ex ex':List Addr}{H H1 H2:Hp}{h h1 h2 h':Heap}{a x e:Addr}{o:HO}
theorem Un.any(u:Un fs ex H H1 h h1){b:Addr}{ob:Obj}(q:h.get? b=some ob)(n:H b=none)(hx:b∉ex):∃ sl,h1.get? b=some {ob with slots:=sl}:=by
 by_cases hb:b∈fs
 ·exact u.slot b ob q n hb hx
 ·exact⟨ob.slots,u.keep b ob q n hb hx⟩
theorem Un.trans(a:Un fs ex H H1 h h1)(b:Un fs ex H1 H2 h1 h2):Un fs ex H H2 h h2 where
 keep:=fun c ob q n hc hx=>b.keep c ob (a.keep c ob q n hc hx) (a.free c ob q n hx) hc hx
 slot:=fun c ob q n hc hx=>by
  obtain⟨sl,e1⟩:=a.slot c ob q n hc hx;obtain⟨sl',e2⟩:=b.slot c _ e1 (a.free c ob q n hx) hc hx;exact⟨sl',e2⟩
 free:=fun c ob q n hx=>by
  obtain⟨o',e1⟩:=a.there c ob q hx;exact b.free c o' e1 (a.free c ob q n hx) hx
 there:=fun c ob q hx=>by
  obtain⟨o',e1⟩:=a.there c ob q hx;exact b.there c o' e1 hx
 tups:=fun c xs q=>b.tups c xs (a.tups c xs q)
 frzs:=fun c ob xs q=>b.frzs c ob xs (a.frzs c ob xs q)
 tbls:=fun c ps q=>by
  obtain⟨m1,e1⟩:=a.tbls c ps q;obtain⟨m2,e2⟩:=b.tbls c _ e1;exact⟨m1++m2,by rw[e2,Array.append_assoc]⟩
theorem Un.kept(k:∀ b u,h.get? b=some u->h'.get? b=some u):Un fs ex H H h h' :=
 ⟨fun b ob q _ _ _=>k b ob q,fun b ob q _ _ _=>⟨ob.slots,k b ob q⟩,fun _ _ _ n _=>n,fun b ob q _=>⟨ob,k b ob q⟩,fun _ _ q=>q,fun _ _ _ q=>q,fun _ ps q=>⟨#[],by rw[q];simp⟩⟩
theorem Un.refl:Un fs ex H H h h:=Un.kept fun _ _ q=>q
theorem Un.laid(k:∀ b u,h.get? b=some u->h'.get? b=some u)(hp:h.objs.size<=a)(hn:H a=none):Un fs ex H (upd H a o) h h' where
 keep:=fun b u q _ _ _=>k b u q
 slot:=fun b u q _ _ _=>⟨u.slots,k b u q⟩
 free:=fun b u q n _=>by rw[cW (Nat.ne_of_lt (Nat.lt_of_lt_of_le (Heap.lt_size q) hp))];exact n
 there:=fun b u q _=>⟨u,k b u q⟩
 tups:=fun b xs q=>by rw[cW (wG q hn)];exact q
 frzs:=fun b u xs q=>by rw[cW (wG q hn)];exact q
 tbls:=fun b ps q=>⟨#[],by rw[cW (wG q hn),q];simp⟩
theorem Un.write(mu:Bi (H x))(he:e=x\/H e=some (.own x))(k:∀ b u,b≠e->h.get? b=some u->h'.get? b=some u)(heo:∃ u,h'.get? e=some u):Un fs ex H (upd H x o) h h':=by
 have hx:∀ b,H b=none->b≠x:=fun b n z=>by subst z;rw[n]at mu;exact mu
 have hb:∀ b,H b=none->b≠e:=fun b n z=>by
  subst z;rcases he with r | r
  ·exact hx b n r
  ·rw[n]at r;cases r
 have hm:∀ b u,H b=some u->¬ Bi (some u)->b≠x:=fun b u q nm z=>by subst z;rw[q]at mu;exact nm mu
 refine⟨fun b u q n _ _=>k b u (hb b n) q,fun b u q n _ _=>⟨u.slots,k b u (hb b n) q⟩,fun b u q n _=>by rw[cW (hx b n)];exact n,fun b u q _=>?_,
  fun b xs q=>by rw[cW (hm b _ q fun z=>z)];exact q,fun b u xs q=>by rw[cW (hm b _ q fun z=>z)];exact q,fun b ps q=>⟨#[],by rw[cW (hm b _ q fun z=>z),q];simp⟩⟩
 by_cases hbe:b=e
 ·subst hbe;exact heo
 ·exact⟨u,k b u hbe q⟩
theorem Un.mono(u:Un fs ex H H1 h h1)(hs:∀ b∈fs,b∈fs')(hx:∀ b∈ex,b∈ex'):Un fs' ex' H H1 h h1 :=
 ⟨fun b ob q n hb he=>u.keep b ob q n (fun z=>hb (hs b z)) fun z=>he (hx b z),fun _ _ q n _ he=>u.any q n fun z=>he (hx _ z),fun b ob q n he=>u.free b ob q n fun z=>he (hx b z),fun b ob q he=>u.there b ob q fun z=>he (hx b z),u.tups,u.frzs,u.tbls⟩
end
def Fl(h:Heap)(H:Hp):List Addr:=(List.range h.objs.size).filter fun a=>(H a).isSome
def lO(h:Heap)(H:Hp):Heap:=PySem.W.hideAll h (Fl h H)
theorem AT(h:Heap)(H:Hp):(lO h H).objs.size=h.objs.size:=PySem.W.hideAll_size _ _
theorem LN{h:Heap}{H:Hp}{b:Addr}{o:Obj}(e:h.get? b=some o)(n:H b=none):(lO h H).get? b=some o :=
 PySem.W.hideAll_get _ e fun hm=>by
  have q:(H b).isSome=true:=(List.mem_filter.mp hm).2
  rw[n]at q;simp at q
theorem NN{h:Heap}{H:Hp}{b:Addr}{o:Obj}(e:(lO h H).get? b=some o):h.get? b=some o/\H b=none:=by
 have e':h.get? b=some o:=PySem.W.of_hideAll (Fl h H) e
 refine⟨e',?_⟩
 cases q:H b with
 | none=>rfl
 | some x =>
  have hm:b∈Fl h H:=List.mem_filter.mpr ⟨List.mem_range.mpr (Heap.lt_size e'),by simp[q]⟩
  have z:(lO h H).get? b=none:=PySem.W.hideAll_none (Fl h H) hm
  rw[z]at e;cases e
def JR(g h:Heap)(L:Addr):List (Addr×Obj):=(List.range h.objs.size).filterMap fun a=>if a=L\/(g.get? a).isSome=true then none else (h.get? a).map fun o=>(a,o)
def bC(g h:Heap)(L d:Addr):List (Addr×Obj):=(JR g h L).filter fun p=>decide (p.1≠d)
structure Mod (K:PySem.W.Frag) (mg:Str->Option Value) (base:Heap):Prop where
 kin:K.In base
 glob:base.Ns mainGlobals mg
 blt:∃ mb,base.Ns builtinsNs mb/\∀ x:Str,x≠"__name__"->mb x=bootBuiltins x
 nolimit:base.NoLimit
structure Cx where
 prog:Program
 w:World
 K:PySem.W.Frag
 mg:Str->Option Value
 base:Heap
 A:Around
 N:List Str
 s₀:Shared
 H₀:Hp
 env:Env
 outer:List Env
 stack:List Env
 ex:List Addr
 fn:Str->Bool
 calm:Bool
 pn:List (Addr×Obj)
 xe:Value->Shared->Prop
def jC(l:List Env):List Addr:=l.filterMap (·.frame)
abbrev Cx.fs(X:Cx):List Addr:=jC X.outer
def mO(sc:Scope)(x:Str):Prop:=sc.names.lookup x=some .local\/sc.names.lookup x=some .cell\/sc.names.lookup x=some .free
def jG(sc:Scope)(x:Str):Prop:=sc.names.lookup x=some .local\/sc.names.lookup x=some .cell
def SN(env:Env)(h:Heap)(m:Str->Option Value)(x:Str)(u:Value):Prop :=
 (env.kindOf x=some .local/\m x=some u)\/((env.kindOf x=some .cell\/env.kindOf x=some .free)/\∃ c,env.cells.lookup x=some c/\h.IsCell c (some u))
structure Cx.Ok (X:Cx):Prop where
 mod:Mod X.K X.mg X.base
 kind:X.env.scope.kind=.function
 glob:X.env.globals=mainGlobals
 blt:X.env.builtins=builtinsNs
 above:X.s₀.heap.objs.size<=X.env.locals
 inj:∀ x y c,X.env.cells.lookup x=some c->X.env.cells.lookup y=some c->x=y
 has:∀ x,(X.env.kindOf x=some .cell\/X.env.kindOf x=some .free)->∃ c,X.env.cells.lookup x=some c
 cab:∀ x c,X.fn x=true->X.env.cells.lookup x=some c->X.s₀.heap.objs.size<=c
 hd:X.calm=true->X.A.handled=none
 frames:X.A.frames=some X.stack
 stk:X.stack=X.outer\/(X.stack=X.env::X.outer/\X.env.frame=some X.env.locals)
 exf:∀ b∈X.ex,b≠X.env.locals/\∀ x c,X.env.cells.lookup x=some c->c≠b
 bs:∀ b o,X.base.get? b=some o->X.s₀.heap.get? b=some o/\X.H₀ b=none
 bsz:X.base.objs.size<=X.s₀.heap.objs.size
 noex:∀ b o,X.base.get? b=some o->b∉X.ex
 exfs:∀ b∈X.ex,b∉X.fs
 funs:X.s₀.heap.FunFrames X.base X.outer
 frf:∀ b∈X.fs,X.H₀ b=none
structure Inv (X:Cx) (pins:List (Addr×Obj)) (σ:List (Option V)) (H:Hp) (s:Shared):Prop where
 ok:X.Ok
 os:s.os=X.s₀.os
 bare:AllBare s.gens
 base:Un X.fs X.ex X.H₀ H X.s₀.heap s.heap
 loc:∃ m,s.heap.Ns X.env.locals m/\∀ (i:Nat) (x:Str) (v:V),X.N[i]?=some x->σ[i]?=some (some v)->mO X.env.scope x->∃ u,RelV v u/\SN X.env s.heap m x u
 cell:∀ x c,X.env.cells.lookup x=some c->∃ v,s.heap.IsCell c v
 free:H X.env.locals=none
 freeC:∀ x c,X.env.cells.lookup x=some c->H c=none
 pin:∀ p∈X.pn++pins,s.heap.get? p.1=some p.2/\H p.1=none/\p.1≠X.env.locals/\p.1∉X.fs/\∀ v,p.2.data≠.cell v
 hok:HOk X.prog X.w H s.heap
 len:σ.length=X.N.length
section
variable {X:Cx}{pins:List (Addr×Obj)}{σ:List (Option V)}{H H':Hp}{s:Shared}{h':Heap}
theorem Cx.Ok.nofr(ok:X.Ok){b:Addr}{o:Obj}(e:X.base.get? b=some o):b∉X.fs:=fun hb=>by
 have:=(ok.funs.mem hb).1
 rw[e]at this;cases this
theorem Inv.bs(I:Inv X pins σ H s):∀ b o,X.base.get? b=some o->s.heap.get? b=some o/\H b=none:=fun b o e =>
 ⟨I.base.keep b o (I.ok.bs b o e).1 (I.ok.bs b o e).2 (I.ok.nofr e) (I.ok.noex b o e),I.base.free b o (I.ok.bs b o e).1 (I.ok.bs b o e).2 (I.ok.noex b o e)⟩
theorem Inv.bk(I:Inv X pins σ H s):∀ b o,X.base.get? b=some o->s.heap.get? b=some o:=fun b o e=>(I.bs b o e).1
theorem Inv.mod(I:Inv X pins σ H s):Mod X.K X.mg X.base:=I.ok.mod
theorem Inv.kIn(I:Inv X pins σ H s):X.K.In s.heap:=I.ok.mod.kin.keeps I.bk
theorem Inv.nolimit(I:Inv X pins σ H s):s.heap.NoLimit:=I.ok.mod.nolimit.keeps I.bk
theorem Inv.fr(I:Inv X pins σ H s):∃ m,Fr X.base X.env.locals s.heap m :=
 let ⟨m,hn,_⟩:=I.loc
 ⟨m,hn,I.bk,Nat.le_trans I.ok.bsz I.ok.above⟩
theorem Inv.lt(I:Inv X pins σ H s):X.env.locals<s.heap.objs.size:=let ⟨_,hn,_⟩:=I.loc;hn.lt
theorem Inv.sz(I:Inv X pins σ H s):X.s₀.heap.objs.size<=s.heap.objs.size:=Nat.le_trans I.ok.above (Nat.le_of_lt I.lt)
theorem Inv.nofs(I:Inv X pins σ H s){a:Addr}(h:s.heap.objs.size<=a):a∉X.fs:=fun hb=>by
 obtain⟨_,o,ho,_⟩:=I.ok.funs.mem hb;exact absurd (Nat.lt_of_lt_of_le (Heap.lt_size ho) (Nat.le_trans I.sz h)) (Nat.lt_irrefl _)
theorem Inv.cne(I:Inv X pins σ H s):∀ x c,X.env.cells.lookup x=some c->c≠X.env.locals:=fun x c e z=>by
 obtain⟨v,o,ho,hd⟩:=I.cell x c e;obtain⟨m,⟨o',es,ep,ho',hd',_⟩,_⟩:=I.loc;rw[z,ho']at ho;cases ho;rw[hd']at hd;cases hd
theorem Inv.funs(I:Inv X pins σ H s):s.heap.FunFrames X.base X.outer:=by
 have all:∀ (l:List Env),(∀ b∈jC l,b∈X.fs)->X.s₀.heap.FunFrames X.base l->s.heap.FunFrames X.base l:=by
  intro l
  induction l with
  | nil=>intro _ _;trivial
  | cons env r ih =>
   intro hs hl;obtain⟨hk,⟨L,o,hf,hn,ho,hd⟩,hr⟩:=hl;have hL:L∈X.fs:=hs L (by unfold jC;rw[List.filterMap_cons,hf];exact List.mem_cons_self)
   obtain⟨sl,e⟩:=I.base.slot L o ho (I.ok.frf L hL) hL fun z=>I.ok.exfs L z hL;exact⟨hk,⟨L,_,hf,hn,e,hd⟩,ih (fun b hb=>hs b (by unfold jC;rw[List.filterMap_cons,hf];exact List.mem_cons_of_mem _ hb)) hr⟩
 exact all X.outer (fun _ hb=>hb) I.ok.funs
theorem Inv.stack(I:Inv X pins σ H s):s.heap.FunFrames X.base X.stack:=by
 rcases I.ok.stk with e | ⟨e,hf⟩
 ·rw[e];exact I.funs
 ·rw[e];obtain⟨m,hn,_⟩:=I.loc;refine .cons (by rw[I.ok.kind];decide) hf hn ?_ I.funs
  exact Heap.get?_none_of_le (Nat.le_trans I.ok.bsz I.ok.above)
theorem Inv.stkSub(I:Inv X pins σ H s):∀ b∈jC X.stack,b∈X.env.locals::X.fs:=fun b hb=>by
 rcases I.ok.stk with e | ⟨e,hf⟩
 ·rw[e]at hb;exact List.mem_cons_of_mem _ hb
 ·rw[e]at hb;unfold jC at hb;rw[List.filterMap_cons,hf]at hb;exact hb
theorem Inv.stkFree(I:Inv X pins σ H s):∀ b∈jC X.stack,H b=none:=fun b hb=>by
 rcases List.mem_cons.mp (I.stkSub b hb) with e | hb
 ·rw[e];exact I.free
 ·obtain⟨_,o,ho,_⟩:=I.ok.funs.mem hb;exact I.base.free b o ho (I.ok.frf b hb) fun z=>I.ok.exfs b z hb
theorem Inv.step{g':Array GenState}{t':Nat}{d':Drawn}{ch:List Addr}(I:Inv X pins σ H s)
  (hch:∀ b∈ch,(b∈X.ex\/X.s₀.heap.objs.size<=b)/\b≠X.env.locals/\(∀ x c,X.env.cells.lookup x=some c->c≠b)/\∀ p∈X.pn++pins,p.1≠b)
  (keep:∀ b o,b≠X.env.locals->b∉X.fs->b∉ch->s.heap.get? b=some o->H b=none->h'.get? b=some o)
  (slot:∀ b o,b≠X.env.locals->b∈X.fs->b∉ch->s.heap.get? b=some o->H b=none->∃ sl,h'.get? b=some {o with slots:=sl}) (free:∀ b o,b∉ch->s.heap.get? b=some o->H b=none->H' b=none)
  (there:∀ b o,b∉ch->s.heap.get? b=some o->∃ o',h'.get? b=some o')
  (tups:∀ b xs,H b=some (.tup xs)->H' b=some (.tup xs)) (frzs:∀ b o u,H b=some (.frz o u)->H' b=some (.frz o u)) (tbls:∀ b ps,H b=some (.tbl ps)->∃ more,H' b=some (.tbl (ps++more)))
  (ns:∀ m,s.heap.Ns X.env.locals m->h'.Ns X.env.locals m) (hok:HOk X.prog X.w H' h') (hg:AllBare g') :
  Inv X pins σ H' {s with heap:=h',gens:=g',drawn:=d',toks:=t'}:=by
 have neL:∀ b o,X.s₀.heap.get? b=some o->b≠X.env.locals:=fun b o e=>Nat.ne_of_lt (Nat.lt_of_lt_of_le (Heap.lt_size e) I.ok.above)
 have neC:∀ b o,X.s₀.heap.get? b=some o->b∉X.ex->b∉ch:=fun b o e hx hb=>by
  rcases (hch b hb).1 with z | z
  ·exact hx z
  ·exact absurd (Nat.lt_of_lt_of_le (Heap.lt_size e) z) (Nat.lt_irrefl _)
 have cellK:∀ x c,X.env.cells.lookup x=some c->∀ v,s.heap.IsCell c v->h'.IsCell c v:=fun x c e v ⟨o,ho,hd⟩=>by
  have nch:c∉ch:=fun z=>(hch c z).2.2.1 x c e rfl
  by_cases hc:c∈X.fs
  ·obtain⟨sl,q⟩:=slot c o (I.cne x c e) hc nch ho (I.freeC x c e);exact⟨_,q,hd⟩
  ·exact⟨o,keep c o (I.cne x c e) hc nch ho (I.freeC x c e),hd⟩
 refine⟨I.ok,I.os,hg,⟨fun b o e n hb hx=>?_,fun b o e n hb hx=>?_,fun b o e n hx=>?_,fun b o e hx=>?_,fun b xs e=>tups b xs (I.base.tups b xs e),fun b o xs e=>frzs b o xs (I.base.frzs b o xs e),fun b ps e=>?_⟩,?_,fun x c e=>?_,?_,fun x c e=>?_,fun p hp=>?_,hok,I.len⟩
 ·exact keep b o (neL b o e) hb (neC b o e hx) (I.base.keep b o e n hb hx) (I.base.free b o e n hx)
 ·obtain⟨sl,e1⟩:=I.base.slot b o e n hb hx;obtain⟨sl',e2⟩:=slot b _ (neL b o e) hb (neC b o e hx) e1 (I.base.free b o e n hx);exact⟨sl',e2⟩
 ·obtain⟨o',e1⟩:=I.base.there b o e hx;exact free b o' (neC b o e hx) e1 (I.base.free b o e n hx)
 ·obtain⟨o',e1⟩:=I.base.there b o e hx;exact there b o' (neC b o e hx) e1
 ·obtain⟨m1,e1⟩:=I.base.tbls b ps e;obtain⟨m2,e2⟩:=tbls b _ e1;exact⟨m1++m2,by rw[e2,Array.append_assoc]⟩
 ·obtain⟨m,hn,hl⟩:=I.loc;refine⟨m,ns m hn,fun i x v e1 e2 e3=>?_⟩;obtain⟨u,r,l⟩:=hl i x v e1 e2 e3;refine⟨u,r,?_⟩;rcases l with l | ⟨k,c,e,z⟩
  ·exact .inl l
  ·exact .inr ⟨k,c,e,cellK x c e _ z⟩
 ·obtain⟨v,z⟩:=I.cell x c e;exact⟨v,cellK x c e v z⟩
 ·obtain⟨m,⟨o,_,_,ho,_⟩,_⟩:=I.loc;exact free _ o (fun z=>(hch _ z).2.1 rfl) ho I.free
 ·obtain⟨v,o,ho,hd⟩:=I.cell x c e;exact free c o (fun z=>(hch c z).2.2.1 x c e rfl) ho (I.freeC x c e)
 ·obtain⟨e,n,ne,nf,d⟩:=I.pin p hp;have nch:p.1∉ch:=fun z=>(hch p.1 z).2.2.2 p hp rfl
  exact⟨keep p.1 p.2 ne nf nch e n,free p.1 p.2 nch e n,ne,nf,d⟩
theorem Inv.un{t':Nat}(I:Inv X pins σ H s)(u:Un X.fs [] H H' s.heap h')(hok:HOk X.prog X.w H' h'):Inv X pins σ H' {s with heap:=h',toks:=t'}:=by
 obtain⟨m,⟨o,es,ep,ho,r⟩,_⟩:=id I.loc;obtain⟨sl,hL⟩:=u.any ho I.free (by simp)
 exact I.step (g':=s.gens) (d':=s.drawn) (ch:=[]) (fun _ z=>nomatch z) (fun b o _ hb _ e n=>u.keep b o e n hb (by simp)) (fun b o _ hb _ e n=>u.slot b o e n hb (by simp)) (fun b o _ e n=>u.free b o e n (by simp)) (fun b o _ e=>u.there b o e (by simp)) u.tups u.frzs u.tbls (fun m' hm=>by
  obtain⟨o',es',ep',ho',r'⟩:=hm;rw[ho]at ho';cases ho';exact⟨_,es',ep',hL,r'⟩) hok I.bare
theorem Inv.call{g':Array GenState}{t':Nat}{d':Drawn}{ch:List Addr}(I:Inv X pins σ H s)(u:Un (jC X.stack) ch H H' s.heap h')(hok:HOk X.prog X.w H' h')(hg:AllBare g')
  (hch:∀ b∈ch,(b∈X.ex\/X.s₀.heap.objs.size<=b)/\b≠X.env.locals/\(∀ x c,X.env.cells.lookup x=some c->c≠b)/\∀ p∈X.pn++pins,p.1≠b) :
  Inv X pins σ H' {s with heap:=h',gens:=g',drawn:=d',toks:=t'}:=by
 obtain⟨m,⟨o,es,ep,ho,r⟩,_⟩:=id I.loc;obtain⟨sl,hL⟩:=u.any ho I.free fun z=>(hch _ z).2.1 rfl;exact I.step (ch:=ch) hch (fun b o hL hb hc e n=>u.keep b o e n (fun z=>(List.mem_cons.mp (I.stkSub b z)).elim hL hb) hc) (fun b o _ _ hc e n=>u.any e n hc) (fun b o hc e n=>u.free b o e n hc) (fun b o hc e=>u.there b o e hc) u.tups u.frzs u.tbls (fun m' hm=>by
  obtain⟨o',es',ep',ho',r'⟩:=hm;rw[ho]at ho';cases ho';exact⟨_,es',ep',hL,r'⟩) hok hg
theorem Inv.turned{t':Nat}{it:Addr}(I:Inv X pins σ H s)(k:∀ b o,b≠it->s.heap.get? b=some o->h'.get? b=some o)(hn:H it=none)(hL:it≠X.env.locals)
  (h1:it∈X.ex\/X.s₀.heap.objs.size<=it) (h2:∀ x c,X.env.cells.lookup x=some c->c≠it) (h3:∀ p∈X.pn++pins,p.1≠it):Inv X pins σ H {s with heap:=h',toks:=t'}:=by
 have nit:∀ b u,H b=some u->b≠it:=fun b u e z=>by rw[z,hn]at e;cases e
 refine I.step (g':=s.gens) (d':=s.drawn) (ch:=[it]) (fun b hb=>?_) (fun b o _ _ hc e _=>k b o (fun z=>hc (by simp[z])) e) (fun b o _ _ hc e _=>⟨o.slots,k b o (fun z=>hc (by simp[z])) e⟩) (fun _ _ _ _ n=>n)
  (fun b o hc e=>⟨o,k b o (fun z=>hc (by simp[z])) e⟩) (fun _ _ e=>e) (fun _ _ _ e=>e) (fun b ps e=>⟨#[],by rw[e];simp⟩) (fun m hm=>?_) (fun b u e=>?_) I.bare
 ·have e:b=it:=by simpa using hb
  subst e;exact⟨h1,hL,h2,h3⟩
 ·obtain⟨o,es,ep,ho,r⟩:=hm;exact⟨o,es,ep,k _ o (Ne.symm hL) ho,r⟩
 ·refine(I.hok b u e).stay (fun c v hc q=>k c v ?_ q) (fun _ q=>q) fun _ _ q=>q;rcases hc with z | z
  ·rw[z];exact nit b u e
  ·exact nit c _ z
theorem Inv.tok(I:Inv X pins σ H s)(t:Nat):Inv X pins σ H {s with toks:=t}:=I.un (h':=s.heap) (t':=t) Un.refl I.hok
theorem Inv.kept{t':Nat}(I:Inv X pins σ H s)(k:∀ b u,s.heap.get? b=some u->h'.get? b=some u):Inv X pins σ H {s with heap:=h',toks:=t'}:=I.un (Un.kept k) (I.hok.kept k)
theorem Inv.laid{a:Addr}{o:HO}{t':Nat}(I:Inv X pins σ H s)(k:∀ b u,s.heap.get? b=some u->h'.get? b=some u)(hp:s.heap.objs.size<=a)(new:ObjOk X.prog X.w (upd H a o) h' a o) :
  Inv X pins σ (upd H a o) {s with heap:=h',toks:=t'}:=I.un (Un.laid k hp (I.hok.fresh hp)) (I.hok.laid k hp new)
theorem Inv.write{x e:Addr}{o:HO}{t':Nat}(I:Inv X pins σ H s)(mu:Bi (H x))(he:e=x\/H e=some (.own x))(k:∀ b u,b≠e->s.heap.get? b=some u->h'.get? b=some u)(heo:∃ u,h'.get? e=some u)
  (new:ObjOk X.prog X.w (upd H x o) h' x o):Inv X pins σ (upd H x o) {s with heap:=h',toks:=t'}:=I.un (Un.write mu he k heo) (I.hok.write mu he k heo new)
theorem Inv.pins_of{pins':List (Addr×Obj)}(I:Inv X pins σ H s)(h:∀ p∈pins',s.heap.get? p.1=some p.2/\H p.1=none/\p.1≠X.env.locals/\p.1∉X.fs/\∀ v,p.2.data≠.cell v):Inv X pins' σ H s :=
 ⟨I.ok,I.os,I.bare,I.base,I.loc,I.cell,I.free,I.freeC,fun p hp=>(List.mem_append.mp hp).elim (fun z=>I.pin p (List.mem_append_left _ z)) (h p),I.hok,I.len⟩
theorem I0{N:List Str}(hN:N.Nodup){i j:Nat}{x:Str}(a:N[i]?=some x)(b:N[j]?=some x):i=j:=by
 obtain⟨h1,e1⟩:=List.getElem?_eq_some_iff.mp a;obtain⟨h2,e2⟩:=List.getElem?_eq_some_iff.mp b;exact(List.getElem_inj hN).mp (e1.trans e2.symm)
theorem J4{M:Model}{A:Around}{E:Value->Shared->Prop}{i:Nat}{x:Str}{v:V}{u:Value}{Q:Unit->Shared->Prop}(I:Inv X pins σ H s)(hN:X.N.Nodup)(hi:X.N[i]?=some x)(hx:jG X.env.scope x)(r:RelV v u)
  (h:∀ s',Inv X pins (σ.set i (some v)) H s'->(∃ a,Heap.SameBut a s.heap s'.heap/\(a=X.env.locals\/X.env.cells.lookup x=some a))->Q () s') (hf:X.fn x=true\/X.env.scope.names.lookup x=some .local:=by first | exact .inl rfl | exact .inr rfl | assumption):wpAny M A (storeName X.env x u) Q E s:=by
 obtain⟨m,hn,hl⟩:=id I.loc;have hcls:(X.env.scope.kind==.class||(X.env.scope.kind==.module&&X.env.locals != X.env.globals))=false:=by rw[I.ok.kind];rfl
 have hiσ:i<σ.length:=by rw[I.len];exact(List.getElem?_eq_some_iff.mp hi).1
 have cne:=I.cne
 have tracked:∀ {a:Addr} {h':Heap},(∃ o,s.heap.get? a=some o/\H a=none)->Heap.SameBut a s.heap h'->HOk X.prog X.w H h':=fun {a h'} ha hs b ob e=>by
  obtain⟨_,_,hfree⟩:=ha;refine(I.hok b ob e).stay (fun c w' hc q=>(hs.2 c ?_).trans q) (fun _ q=>q) fun _ _ q=>q;rintro rfl;rcases hc with rfl | hc
  ·rw[hfree]at e;cases e
  ·rw[hfree]at hc;cases hc
 rcases hx with hk | hk
 ·refine wpAny_storeName_local hk hn (fun h' hn' hs=>?_) hcls;obtain⟨oL,_,_,hoL,_⟩:=id hn;refine h _ ⟨I.ok,I.os,I.bare,⟨fun b o e n hb hx=>?_,fun b o e n hb hx=>?_,I.base.free,fun b o e hx=>?_,I.base.tups,I.base.frzs,I.base.tbls⟩,⟨_,hn',fun j y v' e1 e2 e3=>?_⟩,fun y c e=>?_,I.free,I.freeC,fun p hp=>?_,tracked ⟨oL,hoL,I.free⟩ hs,by simpa using I.len⟩ ⟨_,hs,.inl rfl⟩
  ·exact(hs.2 b (Nat.ne_of_lt (Nat.lt_of_lt_of_le (Heap.lt_size e) I.ok.above))).trans (I.base.keep b o e n hb hx)
  ·obtain⟨sl,e1⟩:=I.base.slot b o e n hb hx;exact⟨sl,(hs.2 b (Nat.ne_of_lt (Nat.lt_of_lt_of_le (Heap.lt_size e) I.ok.above))).trans e1⟩
  ·obtain⟨o',e1⟩:=I.base.there b o e hx;exact⟨o',(hs.2 b (Nat.ne_of_lt (Nat.lt_of_lt_of_le (Heap.lt_size e) I.ok.above))).trans e1⟩
  ·by_cases hj:j=i
   ·subst hj;rw[hi]at e1;cases e1;rw[List.getElem?_set_self hiσ]at e2
    cases e2
    exact⟨u,r,.inl ⟨hk,by simp⟩⟩
   ·rw[List.getElem?_set_ne (Ne.symm hj)]at e2;obtain⟨u',r',q⟩:=hl j y v' e1 e2 e3;refine⟨u',r',?_⟩;rcases q with⟨k,e⟩ | ⟨k,c,e,z⟩
    ·refine .inl ⟨k,?_⟩;have:y≠x:=fun e=>hj (I0 hN e1 (e▸hi))
     simp[this,e]
    ·exact .inr ⟨k,c,e,z.sameBut hs (cne y c e)⟩
  ·obtain⟨w',z⟩:=I.cell y c e;exact⟨w',z.sameBut hs (cne y c e)⟩
  ·obtain⟨e,n,ne,nf,d⟩:=I.pin p hp;exact⟨(hs.2 p.1 ne).trans e,n,ne,nf,d⟩
 ·have hfn:X.fn x=true:=by
   rcases hf with z | z
   ·exact z
   ·rw[z]at hk;cases hk
  obtain⟨c,hc⟩:=I.ok.has x (.inl hk);obtain⟨w',z⟩:=I.cell x c hc;refine wpAny_storeName_cell I.ok.kind hk hc z (fun h' hc' hs=>?_);obtain⟨oc,hoc,hocd⟩:=id z;refine h {s with heap:=h'} ⟨I.ok,I.os,I.bare,⟨fun b o e n hb hx=>?_,fun b o e n hb hx=>?_,I.base.free,fun b o e hx=>?_,I.base.tups,I.base.frzs,I.base.tbls⟩,⟨m,hn.sameBut hs (Ne.symm (cne x c hc)),fun j y v' e1 e2 e3=>?_⟩,fun y c' e=>?_,I.free,I.freeC,fun p hp=>?_,tracked ⟨oc,hoc,I.freeC x c hc⟩ hs,by simpa using I.len⟩ ⟨c,hs,.inr hc⟩
  ·exact(hs.2 b (Nat.ne_of_lt (Nat.lt_of_lt_of_le (Heap.lt_size e) (I.ok.cab x c hfn hc)))).trans (I.base.keep b o e n hb hx)
  ·obtain⟨sl,e1⟩:=I.base.slot b o e n hb hx;exact⟨sl,(hs.2 b (Nat.ne_of_lt (Nat.lt_of_lt_of_le (Heap.lt_size e) (I.ok.cab x c hfn hc)))).trans e1⟩
  ·obtain⟨o',e1⟩:=I.base.there b o e hx;exact⟨o',(hs.2 b (Nat.ne_of_lt (Nat.lt_of_lt_of_le (Heap.lt_size e) (I.ok.cab x c hfn hc)))).trans e1⟩
  ·by_cases hj:j=i
   ·subst hj;rw[hi]at e1;cases e1;rw[List.getElem?_set_self hiσ]at e2
    cases e2
    exact⟨u,r,.inr ⟨.inl hk,c,hc,hc'⟩⟩
   ·rw[List.getElem?_set_ne (Ne.symm hj)]at e2;obtain⟨u',r',q⟩:=hl j y v' e1 e2 e3;refine⟨u',r',?_⟩;rcases q with q | ⟨k,c',e,z'⟩
    ·exact .inl q
    ·refine .inr ⟨k,c',e,z'.sameBut hs ?_⟩;rintro rfl;exact hj (I0 hN e1 (I.ok.inj _ _ _ e hc▸hi))
  ·by_cases hcc:c'=c
   ·subst hcc;exact⟨_,hc'⟩
   ·obtain⟨w2,z2⟩:=I.cell y c' e;exact⟨w2,z2.sameBut hs hcc⟩
  ·obtain⟨e,n,ne,nf,d⟩:=I.pin p hp;refine⟨(hs.2 p.1 ?_).trans e,n,ne,nf,d⟩;intro q;rw[q,hoc]at e;have q':oc=p.2:=Option.some.inj e
   exact d w' (by rw[<- q'];exact hocd)
theorem Gk{M:Model}{A:Around}{E:Value->Shared->Prop}{i:Nat}{x:Str}{v:V}{u:Value}{Q:Unit->Shared->Prop}(I:Inv X pins σ H s)(hN:X.N.Nodup)(hi:X.N[i]?=some x)(hx:jG X.env.scope x)(r:RelV v u)
  (h:∀ s',Inv X pins (σ.set i (some v)) H s'->Q () s') (hf:X.fn x=true\/X.env.scope.names.lookup x=some .local:=by first | exact .inl rfl | exact .inr rfl | assumption):wpAny M A (storeName X.env x u) Q E s :=
 J4 I hN hi hx r (fun s' I' _=>h s' I') hf
theorem Inv.call'{s':Shared}{ch:List Addr}(I:Inv X pins σ H s)(ho:s'.os=s.os)(u:Un (jC X.stack) ch H H' s.heap s'.heap)(hok:HOk X.prog X.w H' s'.heap)(hg:AllBare s'.gens)
  (hch:∀ b∈ch,(b∈X.ex\/X.s₀.heap.objs.size<=b)/\b≠X.env.locals/\(∀ x c,X.env.cells.lookup x=some c->c≠b)/\∀ p∈X.pn++pins,p.1≠b):Inv X pins σ H' s':=by
 obtain⟨h',g',d',t',o'⟩:=s';have e:o'=s.os:=ho
 subst e;exact I.call (g':=g') (t':=t') (d':=d') u hok hg hch
end
abbrev XK:=Value->Option Addr->Hp->Prop
abbrev St:=List (Option V)
abbrev VK:=V->Hp->Prop
abbrev TE:=St->Hp->VK->Prop
abbrev TT:=St->Hp->(Bool->Hp->Prop)->Prop
abbrev TA:=St->Hp->(List V->Hp->Prop)->Prop
structure Ends where
 nx:St->Hp->Prop
 rt:VK
 bk:St->Hp->Prop:=fun _ _=>False
 ct:St->Hp->Prop:=fun _ _=>False
abbrev TS:=Ends->St->Hp->Prop
def EP(X:Cx)(pins:List (Addr×Obj))(σ:St)(Q:VK)(u:Value)(s':Shared):Prop:=∃ v H',Inv X pins σ H' s'/\RelV v u/\Q v H'
def TP(X:Cx)(pins:List (Addr×Obj))(σ:St)(Q:Bool->Hp->Prop)(b:Bool)(s':Shared):Prop:=∃ H',Inv X pins σ H' s'/\Q b H'
def AP(X:Cx)(pins:List (Addr×Obj))(σ:St)(Q:List V->Hp->Prop)(us:List Value)(s':Shared):Prop:=∃ vs H',Inv X pins σ H' s'/\Vals vs us/\Q vs H'
def SP(X:Cx)(pins:List (Addr×Obj))(D:Ends)(f:Flow)(s':Shared):Prop :=
 match f with
 | .next=>∃ σ' H',Inv X pins σ' H' s'/\D.nx σ' H'
 | .brk=>∃ σ' H',Inv X pins σ' H' s'/\D.bk σ' H'
 | .cont=>∃ σ' H',Inv X pins σ' H' s'/\D.ct σ' H'
 | .ret u=>∃ v σ' H',Inv X pins σ' H' s'/\RelV v u/\D.rt v H'
def PE(X:Cx)(e:Expr)(t:TE):Prop :=
 ∀ (pins:List (Addr×Obj)) (s:Shared) (σ:St) (H:Hp) (Q:VK),Inv X pins σ H s->t σ H Q->wpAny (model X.prog X.w) X.A (eval e X.env) (EP X pins σ Q) X.xe s
def PT(X:Cx)(e:Expr)(t:TT):Prop :=
 ∀ (pins:List (Addr×Obj)) (s:Shared) (σ:St) (H:Hp) (Q:Bool->Hp->Prop),Inv X pins σ H s->t σ H Q->wpAny (model X.prog X.w) X.A (isTrue e X.env (eval e X.env)) (TP X pins σ Q) X.xe s
def PW(X:Cx)(e:Expr)(t:TT):Prop :=
 ∀ (whole:Sem Value) (pins:List (Addr×Obj)) (s:Shared) (σ:St) (H:Hp) (Q:Bool->Hp->Prop),Inv X pins σ H s->t σ H Q->wpAny (model X.prog X.w) X.A (isTrue e X.env whole) (TP X pins σ Q) X.xe s
theorem PW.pt{X:Cx}{e:Expr}{t:TT}(h:PW X e t):PT X e t:=h _
def PA(X:Cx)(es:List Expr)(t:TA):Prop :=
 ∀ (pos:Pos) (pins:List (Addr×Obj)) (s:Shared) (σ:St) (H:Hp) (Q:List V->Hp->Prop),Inv X pins σ H s->t σ H Q->wpAny (model X.prog X.w) X.A (spliced (backTo pos (starEach es X.env))) (AP X pins σ Q) X.xe s
def PS(X:Cx)(st:Stmt)(t:TS):Prop :=
 ∀ (pins:List (Addr×Obj)) (s:Shared) (σ:St) (H:Hp) (D:Ends),Inv X pins σ H s->t D σ H->wpAny (model X.prog X.w) X.A (exec st X.env) (SP X pins D) X.xe s
def PSs(X:Cx)(st:List Stmt)(t:TS):Prop :=
 ∀ (pins:List (Addr×Obj)) (s:Shared) (σ:St) (H:Hp) (D:Ends),Inv X pins σ H s->t D σ H->wpAny (model X.prog X.w) X.A (execs st X.env) (SP X pins D) X.xe s
theorem aZ{α:Type}{t:Sem α}{Q Q':α->Shared->Prop}{M:Model}{A:Around}{E:Value->Shared->Prop}{s:Shared}(h:wpAny M A t Q E s)(hQ:∀ a s,Q a s->Q' a s):wpAny M A t Q' E s:=wpAny_mono h hQ fun _ _ x=>x
section
variable {X:Cx}
def FK(i:Nat):TE:=fun σ H Q=>∃ v,σ[i]?=some (some v)/\Q v H
def tC(v:V):TE:=fun _ H Q=>Q v H
theorem JB{i:Nat}{x:Str}{pos:Pos}(hN:X.N[i]?=some x)(hv:mO X.env.scope x)(hd:(x==("__debug__" : Str))=false:=by decide)(hcd:(x==("__classdict__" : Str))=false:=by decide):PE X (.Name x pos) (FK i):=by
 intro pins s σ H Q I h;obtain⟨v,e,h⟩:=h;obtain⟨m,hn,hl⟩:=I.loc;obtain⟨u,r,l⟩:=hl i x v hN e hv;have fin:EP X pins σ Q u s:=⟨v,H,I,r,h⟩
 rcases l with⟨hk,hm⟩ | ⟨hk,c,hc,hcell⟩
 ·exact wpAny_Name (wpAny_loadName_local I.ok.kind hk hn hm fin) hd
 ·rcases hk with hk | hk
  ·exact wpAny_Name (wpAny_loadName_cell I.ok.kind hk hc hcell fin) hd
  ·exact wpAny_Name (wpAny_loadName_free I.ok.kind hk hc hcell fin hcd) hd
theorem VB{i j pos}:PE X (.Constant (.int i) j pos) (tC (.int i)):=fun _ _ _ H _ I h=>wpAny_Constant_int ⟨.int i,H,I.tok _,⟨_,rfl⟩,h⟩
theorem HL{b j pos}:PE X (.Constant (.bool b) j pos) (tC (.bl b)):=fun _ _ _ H _ I h=>Constant_bool ⟨.bl b,H,I,rfl,h⟩
theorem U1{j pos}:PE X (.Constant .none j pos) (tC .non):=fun _ _ _ H _ I h=>Constant_none ⟨.non,H,I,rfl,h⟩
theorem Uk{x j pos}:PE X (.Constant (.str x) j pos) (tC (.str x)):=fun _ _ _ H _ I h=>Calls.Constant_str ⟨.str x,H,I.tok _,⟨_,rfl⟩,h⟩
def Gl(X:Cx)(x:Str):Prop:=X.env.kindOf x=some .globalImplicit
theorem Xz{E:Value->Shared->Prop}{pins:List (Addr×Obj)}{s:Shared}{σ:St}{H:Hp}{x:Str}{u:Value}{pos:Pos}{Q:Value->Shared->Prop}(I:Inv X pins σ H s)(hg:Gl X x)(hm:X.mg x=some u)(h:Q u s)
  (hd:(x==("__debug__" : Str))=false:=by decide):wpAny (model X.prog X.w) X.A (eval (.Name x pos) X.env) Q E s :=
 Calls.Name_function_global I.ok.kind hg (Calls.loadGlobal_global (by rw[I.ok.glob];exact I.mod.glob.keeps I.bk) hm h) hd
theorem qI{E:Value->Shared->Prop}{pins:List (Addr×Obj)}{s:Shared}{σ:St}{H:Hp}{x:Str}{u:Value}{pos:Pos}{Q:Value->Shared->Prop}(I:Inv X pins σ H s)(hg:Gl X x)(hm:X.mg x=none)(hv:bootBuiltins x=some u)(h:Q u s)
  (hn:x≠"__name__":=by decide) (hd:(x==("__debug__" : Str))=false:=by decide):wpAny (model X.prog X.w) X.A (eval (.Name x pos) X.env) Q E s:=by
 obtain⟨mb,h1,h2⟩:=I.mod.blt;exact Calls.Name_function_global I.ok.kind hg (Calls.loadGlobal_builtin (by rw[I.ok.glob];exact I.mod.glob.keeps I.bk) hm (by rw[I.ok.blt];exact h1.keeps I.bk) ((h2 x hn).trans hv) h) hd
theorem yS{x:Str}{v:V}{u:Value}{pos:Pos}(hg:Gl X x)(hm:X.mg x=some u)(r:RelV v u)(hd:(x==("__debug__" : Str))=false:=by decide):PE X (.Name x pos) (tC v) :=
 fun _ _ _ H _ I h=>Xz I hg hm ⟨v,H,I,r,h⟩ hd
theorem Kt{x:Str}{v:V}{u:Value}{pos:Pos}(hg:Gl X x)(hm:X.mg x=none)(hv:bootBuiltins x=some u)(r:RelV v u)(hn:x≠"__name__":=by decide)(hd:(x==("__debug__" : Str))=false:=by decide):PE X (.Name x pos) (tC v) :=
 fun _ _ _ H _ I h=>qI I hg hm hv ⟨v,H,I,r,h⟩ hn hd
variable {a b:Expr}{ta tb:TE}{pos:Pos}
def tB(t:TE):TT:=fun σ H Q=>t σ H fun x H1=>∃ c,x=.bl c/\Q c H1
theorem OP{e:Expr}{t:TE}(h:PE X e t)(he:∀ whole,isTrue e X.env whole=(do let v <- whole;standAt e.pos;holding [v] (truthy v)):=by intro _;rfl):PT X e (tB t):=by
 intro pins s σ H Q I hw;refine isTrue_plain (aZ (h pins s σ H _ I hw) fun v s1 ⟨x,H1,I1,r1,q1⟩=>?_) (he _);obtain⟨d,rfl,q⟩:=q1
 cases r1
 exact wpAny_truthy_bool ⟨H1,I1,q⟩
variable {tA tB':TT}{bC:List Expr}
def QV(t u:TT):TT:=fun σ H Q=>t σ H fun c H1=>if c=true then u σ H1 Q else Q false H1
def j2(t u:TT):TT:=fun σ H Q=>t σ H fun c H1=>if c=true then Q true H1 else u σ H1 Q
def p6(t:TT):TT:=fun σ H Q=>t σ H fun c H1=>Q (!c) H1
theorem DN(ha:PT X a tA):PW X (.BoolOp .And [a] pos) tA:=by
 intro wh pins s σ H Q I h;refine isTrue_and (aZ (ha pins s σ H Q I h) fun c s1 e=>?_)
 cases c with
 | true=>exact isTrue_and_nil e
 | false=>exact e
theorem GI(ha:PT X a tA):PW X (.BoolOp .Or [a] pos) tA:=by
 intro wh pins s σ H Q I h;refine isTrue_or (aZ (ha pins s σ H Q I h) fun c s1 e=>?_)
 cases c with
 | false=>exact isTrue_or_nil e
 | true=>exact e
theorem u9(ha:PT X a tA)(hb:PW X (.BoolOp .And (b::bC) pos) tB'):PW X (.BoolOp .And (a::b::bC) pos) (QV tA tB'):=by
 intro wh pins s σ H Q I h;refine isTrue_and (aZ (ha pins s σ H _ I h) fun c s1 ⟨H1,I1,q1⟩=>?_)
 cases c with
 | true=>exact hb wh pins s1 σ H1 Q I1 q1
 | false=>exact⟨H1,I1,q1⟩
theorem d8(ha:PT X a tA)(hb:PW X (.BoolOp .Or (b::bC) pos) tB'):PW X (.BoolOp .Or (a::b::bC) pos) (j2 tA tB'):=by
 intro wh pins s σ H Q I h;refine isTrue_or (aZ (ha pins s σ H _ I h) fun c s1 ⟨H1,I1,q1⟩=>?_)
 cases c with
 | true=>exact⟨H1,I1,q1⟩
 | false=>exact hb wh pins s1 σ H1 Q I1 q1
theorem d5(ha:PT X a tA):PT X (.UnaryOp .Not a pos) (p6 tA):=by
 intro pins s σ H Q I h;exact isTrue_not (ha pins s σ H (fun c H1=>Q (!c) H1) I h)
def MF(ta tb:TE):TE:=fun σ H Q=>ta σ H fun x H1=>∃ c,x=.bl c/\if c=true then tb σ H1 Q else Q (.bl false) H1
def LB(ta:TE):TE:=fun σ H Q=>ta σ H fun x H1=>∃ c,x=.bl c/\Q (.bl (!c)) H1
theorem DP{op}{t:TE}(h:PE X a t):PE X (.BoolOp op [a] pos) t:=fun pins s σ H Q I hw=>BoolOp_one (h pins s σ H Q I hw)
theorem SF(ha:PE X a ta)(hb:PE X (.BoolOp .And (b::bC) pos) tb):PE X (.BoolOp .And (a::b::bC) pos) (MF ta tb):=by
 intro pins s σ H Q I h;refine BoolOp_and (aZ (ha pins s σ H _ I h) fun v s1 ⟨x,H1,I1,r1,q1⟩=>?_);obtain⟨c,rfl,q1⟩:=q1
 cases r1
 refine wpAny_truthy_bool ?_
 cases c with
 | true=>exact hb pins s1 σ H1 Q I1 q1
 | false=>exact⟨.bl false,H1,I1,rfl,q1⟩
theorem w5(ha:PE X a ta):PE X (.UnaryOp .Not a pos) (LB ta):=by
 intro pins s σ H Q I h;refine UnaryOp_ (aZ (ha pins s σ H _ I h) fun v s1 ⟨x,H1,I1,r1,q1⟩=>?_);obtain⟨c,rfl,q1⟩:=q1
 cases r1
 exact not_of (wpAny_truthy_bool ⟨.bl (!c),H1,I1,rfl,q1⟩)
def PV(t:TT)(ta tb:TE):TE:=fun σ H Q=>t σ H fun c H1=>if c=true then ta σ H1 Q else tb σ H1 Q
theorem ID{c:Expr}(hc:PT X c tA)(ha:PE X a ta)(hb:PE X b tb):PE X (.IfExp c a b pos) (PV tA ta tb):=by
 intro pins s σ H Q I h;refine wpAny_IfExp (aZ (hc pins s σ H _ I h) fun d s1 ⟨H1,I1,q1⟩=>?_)
 cases d with
 | true=>exact ha pins s1 σ H1 Q I1 q1
 | false=>exact hb pins s1 σ H1 Q I1 q1
end
def SqL(K:PySem.W.Frag)(H:Hp)(a:Addr)(xs:List V):Prop :=
 Rd H a (.lst xs) \/
  ∃ (o:Obj) (its:Array Value) (n:Nat),K.lookup a=some o/\o.cls=.type "list"/\o.dict=none/\o.data=.seq its n/\its.size<=sizeLine/\Vals xs its.toList
def SqT(K:PySem.W.Frag)(H:Hp)(a:Addr)(xs:List V):Prop :=
 Rd H a (.tup xs) \/
  ∃ (o:Obj) (its:Array Value) (n:Nat),K.lookup a=some o/\(o.cls=.type "tuple"/\o.dict=none)/\o.data=.seq its n/\its.size<=sizeLine/\Vals xs its.toList
def LJ:Value->Option V
 | .none=>some .non
 | .bool b=>some (.bl b)
 | .int i _=>some (.int i)
 | .str x _=>some (.str x)
 | .bytes b _=>some (.byt b)
 | .float b _=>some (.flt b)
 | .ref a=>some (.ref a)
 | .type n=>some (.ty n)
 | _=>none
theorem RelV.abs{x:V}{u:Value}(r:RelV x u):LJ u=some x:=by
 cases x with
 | non=>cases r;rfl
 | bl _=>cases r;rfl
 | int _=>obtain⟨t,rfl⟩:=r;rfl
 | str _=>obtain⟨t,rfl⟩:=r;rfl
 | byt _=>obtain⟨t,rfl⟩:=r;rfl
 | flt _=>obtain⟨t,rfl⟩:=r;rfl
 | ref _=>cases r;rfl
 | ty _=>cases r;rfl
theorem RelV.inj{x y:V}{u:Value}(r:RelV x u)(q:RelV y u):x=y:=Option.some.inj (r.abs.symm.trans q.abs)
theorem Vals.inj:∀ {xs ys:List V} {us:List Value},Vals xs us->Vals ys us->xs=ys
 | _,_,_,.nil,.nil=>rfl
 | _,_,_,.cons r t,.cons r' t'=>by rw[r.inj r',Vals.inj t t']
section
variable {X:Cx}{pins:List (Addr×Obj)}{σ:St}{H:Hp}{s:Shared}{a:Addr}{xs ys:List V}
theorem SqL.of{K:PySem.W.Frag}(h:H a=some (.lst xs)):SqL K H a xs:=.inl (.inl h)
theorem SqT.of{K:PySem.W.Frag}(h:H a=some (.tup xs)):SqT K H a xs:=.inl (.inl h)
theorem Inv.list(I:Inv X pins σ H s)(h:SqL X.K H a xs):∃ its:List Value,Vals xs its/\PlainL s.heap a its.toArray/\xs.length<=sizeLine:=by
 rcases h with h | ⟨o,its,n,hk,hc,hd,hs,hz,r⟩
 ·obtain⟨z,its,n,r,e⟩:=h.ok I.hok;exact⟨its,r,⟨_,n,e,rfl,rfl,rfl⟩,z⟩
 ·refine⟨its.toList,r,⟨o,n,I.kIn a o hk,hc,hd,by simpa using hs⟩,?_⟩
  have e:=r.length
  simp only[Array.length_toList]at e;omega
theorem Inv.tuple(I:Inv X pins σ H s)(h:SqT X.K H a xs):∃ its:List Value,Vals xs its/\IsTup s.heap a its.toArray/\xs.length<=sizeLine:=by
 rcases h with h | ⟨o,its,n,hk,hc,hs,hz,r⟩
 ·obtain⟨z,its,r,p⟩:=h.ok I.hok;exact⟨its,r,p,z.1⟩
 ·refine⟨its.toList,r,⟨o,I.kIn a o hk,hc.1,n,by simpa using hs⟩,?_⟩
  have e:=r.length
  simp only[Array.length_toList]at e;omega
theorem Inv.list_inj(I:Inv X pins σ H s)(h:SqL X.K H a xs)(h':SqL X.K H a ys):xs=ys:=by
 obtain⟨its,r,⟨o,n,e,_,_,d⟩,_⟩:=I.list h;obtain⟨its',r',⟨o',n',e',_,_,d'⟩,_⟩:=I.list h';rw[e]at e';cases e';rw[d]at d'
 injection d' with d1 _
 have:its=its':=by simpa using congrArg Array.toList d1
 subst this;exact r.inj r'
theorem Inv.tuple_inj(I:Inv X pins σ H s)(h:SqT X.K H a xs)(h':SqT X.K H a ys):xs=ys:=by
 obtain⟨its,r,⟨o,e,_,n,d⟩,_⟩:=I.tuple h;obtain⟨its',r',⟨o',e',_,n',d'⟩,_⟩:=I.tuple h';rw[e]at e';cases e';rw[d]at d'
 injection d' with d1 _
 have:its=its':=by simpa using congrArg Array.toList d1
 subst this;exact r.inj r'
end
abbrev Cx.wish(X:Cx)(E:Value->Shared->Prop):Cx:={X with xe:=E}
abbrev Cx.nox(X:Cx):Cx:=X.wish fun _ _=>False
theorem Cx.Ok.wish{X:Cx}(ok:X.Ok)(E:Value->Shared->Prop):(X.wish E).Ok :=
 ⟨ok.mod,ok.kind,ok.glob,ok.blt,ok.above,ok.inj,ok.has,ok.cab,ok.hd,ok.frames,ok.stk,ok.exf,ok.bs,ok.bsz,ok.noex,ok.exfs,ok.funs,ok.frf⟩
theorem Cx.Ok.unwish{X:Cx}{E:Value->Shared->Prop}(ok:(X.wish E).Ok):X.Ok :=
 ⟨ok.mod,ok.kind,ok.glob,ok.blt,ok.above,ok.inj,ok.has,ok.cab,ok.hd,ok.frames,ok.stk,ok.exf,ok.bs,ok.bsz,ok.noex,ok.exfs,ok.funs,ok.frf⟩
section
variable {X:Cx}{pins:List (Addr×Obj)}{σ:St}{H:Hp}{s:Shared}{E:Value->Shared->Prop}
theorem Inv.wish(I:Inv X pins σ H s)(E:Value->Shared->Prop):Inv (X.wish E) pins σ H s:=⟨I.ok.wish E,I.os,I.bare,I.base,I.loc,I.cell,I.free,I.freeC,I.pin,I.hok,I.len⟩
theorem Inv.unwish(I:Inv (X.wish E) pins σ H s):Inv X pins σ H s:=⟨I.ok.unwish,I.os,I.bare,I.base,I.loc,I.cell,I.free,I.freeC,I.pin,I.hok,I.len⟩
theorem SP.unwish{D:Ends}{f:Flow}{s':Shared}(h:SP (X.wish E) pins D f s'):SP X pins D f s':=by
 cases f with
 | next=>obtain⟨σ',H',I,q⟩:=h;exact⟨σ',H',I.unwish,q⟩
 | brk=>obtain⟨σ',H',I,q⟩:=h;exact⟨σ',H',I.unwish,q⟩
 | cont=>obtain⟨σ',H',I,q⟩:=h;exact⟨σ',H',I.unwish,q⟩
 | ret u=>obtain⟨v,σ',H',I,r,q⟩:=h;exact⟨v,σ',H',I.unwish,r,q⟩
theorem PE.nox{e:Expr}{t:TE}(h:PE X.nox e t):PE X e t:=fun pins s σ H Q I hw =>
 wpAny_mono (h pins s σ H Q (I.wish _) hw) (fun _ _ ⟨v,H',I',r,q⟩=>⟨v,H',I'.unwish,r,q⟩) fun _ _ z=>False.elim z
theorem PT.nox{e:Expr}{t:TT}(h:PT X.nox e t):PT X e t:=fun pins s σ H Q I hw =>
 wpAny_mono (h pins s σ H Q (I.wish _) hw) (fun _ _ ⟨H',I',q⟩=>⟨H',I'.unwish,q⟩) fun _ _ z=>False.elim z
theorem PSs.nox{st:List Stmt}{t:TS}(h:PSs X.nox st t):PSs X st t:=fun pins s σ H D I hw =>
 wpAny_mono (h pins s σ H D (I.wish _) hw) (fun _ _ q=>q.unwish) fun _ _ z=>False.elim z
end
section
variable {X:Cx}{st:Stmt}{bC:List Stmt}{t u:TS}{e:Expr}{te:TE}{pos:Pos}
def OB:TS:=fun D σ H=>D.nx σ H
def u6(t u:TS):TS:=fun D σ H=>t {D with nx:=u D} σ H
theorem OD:PSs X [] OB:=fun _ _ σ H _ I h=>wpAny_execs_nil ⟨σ,H,I,h⟩
theorem d9(h1:PS X st t)(h2:PSs X bC u):PSs X (st::bC) (u6 t u):=by
 intro pins s σ H D I h;refine wpAny_execs_cons (aZ (h1 pins s σ H {D with nx:=u D} I h) fun f s1 q=>?_)
 cases f with
 | next =>
  obtain⟨σ',H',I',q⟩:=q;exact h2 pins s1 σ' H' D I' q
 | ret v=>exact q
 | brk=>exact q
 | cont=>exact q
theorem Inv.quiet{pins:List (Addr×Obj)}{σ:St}{H:Hp}{s:Shared}(I:Inv X pins σ H s):interactive X.env=false:=by simp[interactive,I.ok.kind]
def SZ(te:TE):TS:=fun D σ H=>te σ H fun _ H1=>D.nx σ H1
theorem z9(he:PE X e te)(hs:swapsWith e none pos.line X.env=pure false:=by rfl):PS X (.Expr e pos) (SZ te):=by
 intro pins s σ H D I h;exact wpAny_Expr_any (aZ (he pins s σ H _ I h) fun v s1 ⟨x,H1,I1,r1,q1⟩=>⟨σ,H1,I1,q1⟩) I.quiet hs
def CK(te:TE):TS:=fun D σ H=>te σ H D.rt
theorem WB(he:PE X e te):PS X (.Return (some e) pos) (CK te):=by
 intro pins s σ H D I h;exact wpAny_Return_some (aZ (he pins s σ H _ I h) fun v s1 ⟨x,H1,I1,r1,q1⟩=>⟨x,σ,H1,I1,r1,q1⟩)
def ED(c:TT)(t u:TS):TS:=fun D σ H=>c σ H fun b H1=>if b=true then t D σ H1 else u D σ H1
theorem Q0{c:Expr}{a b:List Stmt}{tc:TT}(hc:PT X c tc)(ha:PSs X a t)(hb:PSs X b u):PS X (.If c a b pos) (ED tc t u):=by
 intro pins s σ H D I h;refine wpAny_If (aZ (hc pins s σ H _ I h) fun d s1 ⟨H1,I1,q1⟩=>?_)
 cases d with
 | true=>exact ha pins s1 σ H1 D I1 q1
 | false=>exact hb pins s1 σ H1 D I1 q1
end
abbrev TG:=V->St->Hp->(St->Hp->Prop)->Prop
abbrev kP:=List V->St->Hp->(St->Hp->Prop)->Prop
def PG(X:Cx)(target:Expr)(t:TG):Prop :=
 ∀ (pins:List (Addr×Obj)) (s:Shared) (σ:St) (H:Hp) (v:V) (u:Value) (Q:St->Hp->Prop),Inv X pins σ H s->RelV v u->t v σ H Q ->
  wpAny (model X.prog X.w) X.A (assign target X.env u) (fun _ s'=>∃ σ' H',Inv X pins σ' H' s'/\Q σ' H') X.xe s
def PGs(X:Cx)(ts:List Expr)(t:kP):Prop :=
 ∀ (pins:List (Addr×Obj)) (s:Shared) (σ:St) (H:Hp) (vs:List V) (us:List Value) (Q:St->Hp->Prop),Inv X pins σ H s->Vals vs us->t vs σ H Q ->
  wpAny (model X.prog X.w) X.A (assignInOrder ((assignEach ts X.env).map (·.2)) us) (fun _ s'=>∃ σ' H',Inv X pins σ' H' s'/\Q σ' H') X.xe s
abbrev TSet:=V->V->V->Hp->(Hp->Prop)->Prop
def Zm(X:Cx)(t:TSet):Prop :=
 ∀ (pins:List (Addr×Obj)) (s:Shared) (σ:St) (H:Hp) (o i v:V) (ov iv u:Value) (Q:Hp->Prop),Inv X pins σ H s->RelV o ov->RelV i iv->RelV v u->t o i v H Q ->
  wpAny (model X.prog X.w) X.A (setItem ov iv u) (fun _ s'=>∃ H',Inv X pins σ H' s'/\Q H') X.xe s
section
variable {X:Cx}{pos:Pos}
def Ys(i:Nat):TG:=fun v σ H Q=>Q (σ.set i (some v)) H
theorem U5{i:Nat}{x:Str}(hN:X.N.Nodup)(hi:X.N[i]?=some x)(hx:jG X.env.scope x)(hf:X.fn x=true\/X.env.scope.names.lookup x=some .local:=by first | exact .inl rfl | exact .inr rfl | assumption):PG X (.Name x pos) (Ys i):=by
 intro pins s σ H v u Q I r h;exact wpAny_assign_Name (Gk I hN hi hx r (fun s' I'=>⟨_,H,I',h⟩) hf)
def FP:kP:=fun vs σ H Q=>vs=[]/\Q σ H
def GF(t:TG)(u:kP):kP:=fun vs σ H Q=>∃ v r,vs=v::r/\t v σ H fun σ' H'=>u r σ' H' Q
theorem ND:PGs X [] FP:=by
 intro pins s σ H vs us Q I r h;obtain⟨e,h⟩:=h;subst e
 cases r
 exact assignInOrder_nil ⟨σ,H,I,h⟩
theorem FL{e:Expr}{es:List Expr}{t:TG}{u:kP}(h1:PG X e t)(h2:PGs X es u)
  (hs:(assignEach (e::es) X.env).map (·.2)=assign e X.env::(assignEach es X.env).map (·.2):=by rfl):PGs X (e::es) (GF t u):=by
 intro pins s σ H vs us Q I r h;obtain⟨v,vr,e1,h⟩:=h;subst e1
 cases r with
 | cons r rr =>
  rw[hs];refine assignInOrder_cons (aZ (h1 pins s σ H _ _ _ I r h) fun _ s1 ⟨σ1,H1,I1,q1⟩=>?_);exact h2 pins s1 σ1 H1 _ _ Q I1 rr q1
def MX(K:PySem.W.Frag)(n:Nat)(t:kP):TG:=fun v σ H Q=>∃ a xs,v=.ref a/\SqT K H a xs/\xs.length=n/\t xs σ H Q
theorem p8{es:List Expr}{k:Nat}{t:kP}{n:Nat}(hc:X.calm=true)(h:PGs X es t)
  (hn:(assignEach es X.env).length=n:=by rfl) (hst:(assignEach es X.env).findIdx? (·.1)=none:=by rfl):PG X (.Tuple es k pos) (MX X.K n t):=by
 intro pins s σ H v u Q I r hw;obtain⟨a,xs,e1,hq,hl,hw⟩:=hw;subst e1
 cases r
 obtain⟨its,rv,ht,hz⟩:=I.tuple hq;refine assign_Tuple_tuple (I.ok.hd hc) ht (by simp[hn,<- hl,rv.length]) hst fun h' hx=>?_
 have I1:Inv X pins σ H {s with heap:=h'}:=I.kept (t':=s.toks) fun b o e=>hx b o (Nat.ne_of_lt (Heap.lt_size e)) e
 exact h pins _ σ H xs _ Q I1 (by simpa using rv) hw
def W1(to ti:TE)(t:TSet):TG:=fun v σ H Q=>to σ H fun o H1=>ti σ H1 fun i H2=>t o i v H2 fun H3=>Q σ H3
theorem VQ{o i:Expr}{to ti:TE}{t:TSet}(ho:PE X o to)(hi:PE X i ti)(hs:Zm X t)
  (ha:∀ v,assign (.Subscript o i pos) X.env v=(do
   let ov <- holding [v] (eval o X.env)
   let iv <- holding [v,ov] (eval i X.env)
   standAt pos
   holding [v,ov,iv] (setItem ov iv v)
   release [v,ov,iv] []):=by intro _;rfl):PG X (.Subscript o i pos) (W1 to ti t):=by
 intro pins s σ H v u Q I r h;rw[ha];refine wpAny_bind (wpAny_holding (aZ (ho pins s σ H _ I h) fun ov s1 ⟨x,H1,I1,r1,q1⟩=>?_));refine wpAny_bind (wpAny_holding (aZ (hi pins s1 σ H1 _ I1 q1) fun iv s2 ⟨y,H2,I2,r2,q2⟩=>?_));refine wpAny_bind (wpAny_standAt (wpAny_bind (wpAny_holding (aZ (hs pins s2 σ H2 x y v ov iv u _ I2 r1 r2 r q2) fun _ s3 ⟨H3,I3,q3⟩=>?_))));exact wpAny_release ⟨σ,H3,I3,q3⟩
def Sw(te:TE)(g:TG):TS:=fun D σ H=>te σ H fun x H1=>g x σ H1 D.nx
theorem Sk{tg e:Expr}{te:TE}{g:TG}(he:PE X e te)(hg:PG X tg g)(hs:swapsWithSole [tg] e pos.line X.env=pure false:=by rfl)(hw:swappedStores [tg] e X.env=pure none:=by rfl)
  (h1:(assignEach [tg] X.env).map (·.2)=[assign tg X.env]:=by rfl):PS X (.Assign [tg] e pos) (Sw te g):=by
 intro pins s σ H D I h;refine wpAny_Assign_stores (aZ (he pins s σ H _ I h) fun v s1 ⟨x,H1,I1,r1,q1⟩=>?_) hs hw;rw[h1];exact aZ (hg pins s1 σ H1 x v _ I1 r1 q1) fun _ s2 q=>q
theorem GT{i:Nat}{x:Str}{e:Expr}{te:TE}{pos':Pos}(hN:X.N.Nodup)(hi:X.N[i]?=some x)(hx:jG X.env.scope x)(he:PE X e te)(hs:swapsWith e (some (.Name x pos')) pos.line X.env=pure false:=by rfl)(hf:X.fn x=true\/X.env.scope.names.lookup x=some .local:=by first | exact .inl rfl | exact .inr rfl | assumption) :
  PS X (.Assign [.Name x pos'] e pos) (Sw te (Ys i)):=by
 intro pins s σ H D I h;refine wpAny_Assign_Name (aZ (he pins s σ H _ I h) fun v s1 ⟨y,H1,I1,r1,q1⟩=>?_) hs;exact Gk I1 hN hi hx r1 (fun s2 I2=>⟨_,H1,I2,q1⟩) hf
def AR(i j:Nat)(ta:TA):TS:=fun D σ H=>ta σ H fun vs H1=>∃ v w,vs=[v,w]/\D.nx ((σ.set i (some v)).set j (some w)) H1
theorem WN{i j:Nat}{x y:Str}{a b:Expr}{ta:TA}{px py pt:Pos}{kt k2 pt2}(hc:X.calm=true)(hN:X.N.Nodup)(hi:X.N[i]?=some x)(hj:X.N[j]?=some y)(hij:i≠j)
  (hx:X.env.scope.names.lookup x=some .local) (hy:X.env.scope.names.lookup y=some .local) (ha:PA X [a,b] ta)
  (hw:swappedStores [.Tuple [.Name x px,.Name y py] kt pt] (.Tuple [a,b] k2 pt2) X.env=pure (some [x,y]))
  (hs:swapsWithSole [.Tuple [.Name x px,.Name y py] kt pt] (.Tuple [a,b] k2 pt2) pos.line X.env=pure false:=by rfl) :
  PS X (.Assign [.Tuple [.Name x px,.Name y py] kt pt] (.Tuple [a,b] k2 pt2) pos) (AR i j ta):=by
 intro pins s σ H D I h;rw[exec_Assign_arm];refine wpAny_bind (wpAny_standAt ?_);rw[hs];refine wpAny_bind (wpAny_pure ?_);rw[if_neg (by decide)]
 refine wpAny_bind (Tuple_ (aZ (ha _ pins s σ H _ I h) fun us s1 ⟨vs,H1,I1,r1,q1⟩=>?_));obtain⟨v,w,e1,q1⟩:=q1;subst e1;obtain⟨u1,u2,rfl,rv,rw'⟩:∃ u1 u2,us=[u1,u2]/\RelV v u1/\RelV w u2:=by
  cases r1 with
  | cons p q =>
   cases q with
   | cons p' q' =>
    cases q'
    exact⟨_,_,rfl,p,p'⟩
 refine wpAny_newObj_type ?_ (by show 2<=sizeLine;decide)
 have I2:Inv X pins σ H1 {s1 with heap:=s1.heap.push {cls:=.type "tuple",data:=.seq [u1,u2].toArray}}:=I1.kept (t':=s1.toks) fun b o e=>Heap.get?_push_of_some _ e
 rw[hw];refine wpAny_bind (wpAny_pure ?_);show wpAny (model X.prog X.w) X.A (do rule "assign.swapped-stores";let items <- unpackItems (.ref s1.heap.objs.size) 2 none;assignInOrder [fun v=>bindName X.env y v,fun v=>bindName X.env x v] items.reverse;pure Flow.next) _ _ _
 refine wpAny_bind (wpAny_rule (wpAny_bind (unpackItems_tuple (items:=#[u1,u2]) (I.ok.hd hc) (IsTup.new s1.heap _) fun h' hx'=>?_)));have I3:=I2.kept (h':=h') (t':=s1.toks) fun b o e=>hx' b o (Nat.ne_of_lt (Heap.lt_size e)) e
 show wpAny _ _ (assignInOrder [fun v=>bindName X.env y v,fun v=>bindName X.env x v] [u2,u1]>>=fun _=>pure Flow.next) _ _ _
 refine wpAny_bind (assignInOrder_cons (wpAny_bindName (Gk I3 hN hj (.inl hy) rw' (fun s2 I4=>?_) (.inr hy))));refine assignInOrder_cons (wpAny_bindName (Gk I4 hN hi (.inl hx) rv (fun s3 I5=>assignInOrder_nil (wpAny_pure ?_)) (.inr hx)));rw[List.set_comm _ _ (Ne.symm hij)]at I5;exact⟨_,H1,I5,q1⟩
def AU(c:TT)(tb:TS):TS:=fun D σ H=>∃ W:Nat->St->Hp->Prop,(∃ m,W m σ H)/\∀ m σ H,W m σ H ->
 c σ H fun b H1=>if b=true then ∃ N:St->Hp->Prop,(∀ σ' H',N σ' H'->∃ m',m'<m/\W m' σ' H')/\tb {D with nx:=N,ct:=N,bk:=D.nx} σ H1 else D.nx σ H1
theorem W2{c:Expr}{body:List Stmt}{tc:TT}{tb:TS}(hp:PassesOwn (model X.prog X.w) X.A X.env X.xe)(hc:PT X c tc)(hb:PSs X body tb):PS X (.While c body [] pos) (AU tc tb):=by
 intro pins s σ H D I h;obtain⟨W,⟨m0,w0⟩,turn⟩:=h;refine wpAny_While (codeAny_whileLoop (fun n s'=>∃ σ' H',Inv X pins σ' H' s'/\W n σ' H') ?_ m0 ⟨σ,H,I,w0⟩);rintro n s1 ⟨σ1,H1,I1,w1⟩;refine wpAny_passesOwn hp (aZ (hc pins s1 σ1 H1 _ I1 (turn n σ1 H1 w1)) fun b s2 ⟨H2,I2,q2⟩=>?_)
 cases b with
 | true =>
  obtain⟨N,hN,q2⟩:=q2;rw[if_pos rfl];refine wpAny_passesOwn hp (aZ (hb pins s2 σ1 H2 _ I2 q2) fun f s3 q3=>?_)
  cases f with
  | next =>
   obtain⟨σ3,H3,I3,n3⟩:=q3;obtain⟨m',hm,w3⟩:=hN σ3 H3 n3;exact⟨m',hm,σ3,H3,I3,w3⟩
  | cont =>
   obtain⟨σ3,H3,I3,n3⟩:=q3;obtain⟨m',hm,w3⟩:=hN σ3 H3 n3;exact⟨m',hm,σ3,H3,I3,w3⟩
  | brk=>exact q3
  | ret v=>exact q3
 | false =>
  rw[if_neg Bool.false_ne_true];exact wpAny_execs_nil ⟨σ1,H2,I2,q2⟩
end
structure It where
 go:Nat->Hp->Prop
 yld:Nat->Hp->V->Hp->Prop
 stop:Nat->Hp->Prop
def fY(X:Cx)(pins:List (Addr×Obj))(H:Hp)(b:Addr):Prop :=
 H b=none/\b≠X.env.locals/\b∉X.fs/\(b∈X.ex\/X.s₀.heap.objs.size<=b)/\(∀ x c,X.env.cells.lookup x=some c->c≠b)/\∀ p∈X.pn++pins,p.1≠b
theorem Inv.fpOk{X:Cx}{pins:List (Addr×Obj)}{σ:St}{H H':Hp}{s:Shared}{b:Addr}(I:Inv X pins σ H s)(hb:s.heap.objs.size<=b)(hn:H' b=none):fY X pins H' b:=by
 refine⟨hn,Nat.ne_of_gt (Nat.lt_of_lt_of_le I.lt hb),I.nofs hb,.inr (Nat.le_trans I.sz hb),fun x c e z=>?_,fun p hp z=>?_⟩
 ·obtain⟨v,q⟩:=I.cell x c e;exact absurd (Nat.lt_of_lt_of_le q.lt (by rw[z];exact hb)) (Nat.lt_irrefl _)
 ·exact absurd (Nat.lt_of_lt_of_le (Heap.lt_size (I.pin p hp).1) (by rw[z];exact hb)) (Nat.lt_irrefl _)
structure Turn (P:Program) (w:World) (K:PySem.W.Frag) (tg:Expr) (J:It) (fp:List Addr) (it:Addr) (tn:Nat->Heap->Prop):Prop where
 mem:it∈fp
 obj:∀ i h,tn i h->∀ b∈fp,∃ o,h.get? b=some o/\∀ v,o.data≠.cell v
 keep:∀ i h h',tn i h->(∀ b∈fp,∀ o,h.get? b=some o->h'.get? b=some o)->tn i h'
 item:∀ (X:Cx),X.prog=P->X.w=w->X.K=K->X.calm=true->∀ (i:Nat) (pins:List (Addr×Obj)) (s:Shared) (σ:St) (H:Hp) (E:Value->Shared->Prop),Inv X pins σ H s->(∀ b∈fp,fY X pins H b)->tn i s.heap->J.go i H ->
  wpAny (model P w) X.A (pyNext (.ref it)) (fun r s1=>∃ u,r=some u /\
   wpAny (model P w) X.A (letOwnedTupleGo tg (.ref it) u) (fun _ s2=>∃ x H',Inv X pins σ H' s2/\RelV x u/\J.yld i H x H'/\tn (i+1) s2.heap/\∀ b∈fp,H' b=none) E s1) E s
 done:∀ (X:Cx),X.prog=P->X.w=w->X.K=K->X.calm=true->∀ (i:Nat) (pins:List (Addr×Obj)) (s:Shared) (σ:St) (H:Hp) (E:Value->Shared->Prop),Inv X pins σ H s->(∀ b∈fp,fY X pins H b)->tn i s.heap->J.stop i H ->
  wpAny (model P w) X.A (pyNext (.ref it)) (fun r s1=>r=none/\Inv X pins σ H s1) E s
 self:∀ (A:Around) (i:Nat) (s:Shared) (Q:Value->Shared->Prop) (E:Value->Shared->Prop),tn i s.heap->Q (.ref it) s->wpAny (model P w) A (pyIter (.ref it)) Q E s
abbrev TI:=St->Hp->(It->Hp->Prop)->Prop
def Qj(X:Cx)(pins:List (Addr×Obj))(σ:St)(tg:Expr)(R:It->Hp->Prop)(itv:Value)(s2:Shared):Prop :=
 ∃ (it:Addr) (fp:List Addr) (tn:Nat->Heap->Prop) (J:It) (H':Hp),itv=.ref it/\Inv X pins σ H' s2/\Turn X.prog X.w X.K tg J fp it tn/\tn 0 s2.heap/\(∀ b∈fp,fY X pins H' b)/\R J H'
def PI(X:Cx)(tg iter:Expr)(wi:TI):Prop :=
 ∀ (pins:List (Addr×Obj)) (s:Shared) (σ:St) (H:Hp) (R:It->Hp->Prop),Inv X pins σ H s->wi σ H R ->
  wpAny (model X.prog X.w) X.A (eval iter X.env) (fun v s1=>wpAny (model X.prog X.w) X.A (pyIter v) (Qj X pins σ tg R) X.xe s1) X.xe s
theorem Bh{M:Model}{A:Around}{E:Value->Shared->Prop}{s:Shared}{tg:Expr}{it:Addr}{u:Value}{o:Obj}{n:String}{vs:Array Value}{Q:Unit->Shared->Prop}(ho:s.heap.get? it=some o)(hc:o.cls=.type n)(hd:o.data=.fields vs)
  (hn:["enumerate","zip","dict_itemiterator","dict_reverseitemiterator","odict_iterator","itertools.zip_longest","itertools.pairwise"].contains n=false) (hQ:Q () s):wpAny M A (letOwnedTupleGo tg (.ref it) u) Q E s:=by
 unfold letOwnedTupleGo
 cases tg<;>first
  | exact wpAny_pure hQ
  | (cases u<;>first
    | exact wpAny_pure hQ
    | (refine wpAny_bind (wpAny_load ho ?_)
       rw[hc,hd];show wpAny M A (if (["enumerate","zip","dict_itemiterator","dict_reverseitemiterator","odict_iterator","itertools.zip_longest","itertools.pairwise"].contains n&&vs[0]? == some (rawInt _))=true then _ else _) Q E s
       rw[if_neg (by intro h;rw[hn,Bool.false_and]at h;cases h)]
       exact wpAny_pure hQ))
def Bk(K:PySem.W.Frag)(a:Addr):It :=
 ⟨fun i H=>∃ xs x,SqL K H a xs/\xs[i]?=some x,fun i H x H'=>H'=H/\∀ xs,SqL K H a xs->xs[i]?=some x,fun i H=>∃ xs,SqL K H a xs/\xs.length<=i⟩
def La(K:PySem.W.Frag)(a:Addr):It :=
 ⟨fun i H=>∃ xs x,SqT K H a xs/\xs[i]?=some x,fun i H x H'=>H'=H/\∀ xs,SqT K H a xs->xs[i]?=some x,fun i H=>∃ xs,SqT K H a xs/\xs.length<=i⟩
def Ji(lo:Int)(n:Nat):It:=⟨fun i _=>i<n,fun i H x H'=>H'=H/\x=.int (lo+i),fun i _=>n<=i⟩
theorem EA{P:Program}{w:World}{K:PySem.W.Frag}{tg:Expr}(a it:Addr):Turn P w K tg (Bk K a) [it] it (fun i h=>h.IsListIter it a i) where
 mem:=by simp
 obj:=fun i h st b hb=>by
  have e:b=it:=by simpa using hb
  subst e;obtain⟨o,e,c,d⟩:=st;exact⟨o,e,fun v z=>by rw[d]at z;cases z⟩
 keep:=fun i h h' st k=>st.at fun o e=>k it (by simp) o e
 item:=by
  intro X hP hw hK hc i pins s σ H E I hf st hg;subst hP hw hK;obtain⟨xs,x,hq,hx⟩:=hg;obtain⟨its,rv,p,hz⟩:=I.list hq;obtain⟨u,hu,ru⟩:=rv.get hx;obtain⟨f0,f1,f2,f3,f4,f5⟩:=hf it (by simp)
  refine wpAny_pyNext_list_item st p.isList (x:=u) (by simpa using hu) fun h' st' sb=>?_
  have I1:Inv X pins σ H {s with heap:=h'}:=I.turned (t':=s.toks) (fun b o hb e=>(sb.2 b hb).trans e) f0 f1 f3 f4 f5
  obtain⟨o,e,c,d⟩:=id st';exact⟨u,rfl,Bh (s:={s with heap:=h'}) e c d (by decide) ⟨x,H,I1,ru,⟨rfl,fun ys hy=>by rw[I.list_inj hy hq];exact hx⟩,st',fun b hb=>(hf b hb).1⟩⟩
 done:=by
  intro X hP hw hK hc i pins s σ H E I hf st hg;subst hP hw hK;obtain⟨xs,hq,hx⟩:=hg;obtain⟨its,rv,p,hz⟩:=I.list hq;obtain⟨f0,f1,f2,f3,f4,f5⟩:=hf it (by simp)
  have hl:=rv.length
  exact wpAny_pyNext_list_end (I.ok.hd hc) st p.isList (by simp;omega) fun h' eb=>⟨rfl,I.turned (t':=s.toks) (fun b o hb e=>eb b o hb e) f0 f1 f3 f4 f5⟩
 self:=fun _ _ _ _ _ st h=>wpAny_pyIter_listiter st h
theorem VT{P:Program}{w:World}{K:PySem.W.Frag}{tg:Expr}(a it:Addr):Turn P w K tg (La K a) [it] it (fun i h=>h.IsTupleIter it a i) where
 mem:=by simp
 obj:=fun i h st b hb=>by
  have e:b=it:=by simpa using hb
  subst e;obtain⟨o,e,c,d⟩:=st;exact⟨o,e,fun v z=>by rw[d]at z;cases z⟩
 keep:=fun i h h' st k=>st.at fun o e=>k it (by simp) o e
 item:=by
  intro X hP hw hK hc i pins s σ H E I hf st hg;subst hP hw hK;obtain⟨xs,x,hq,hx⟩:=hg;obtain⟨its,rv,p,hz⟩:=I.tuple hq;obtain⟨u,hu,ru⟩:=rv.get hx;obtain⟨f0,f1,f2,f3,f4,f5⟩:=hf it (by simp)
  refine wpAny_pyNext_tuple_item st (show s.heap.IsTuple a its.toArray from p) (x:=u) (by simpa using hu) fun h' st' sb=>?_
  have I1:Inv X pins σ H {s with heap:=h'}:=I.turned (t':=s.toks) (fun b o hb e=>(sb.2 b hb).trans e) f0 f1 f3 f4 f5
  obtain⟨o,e,c,d⟩:=id st';exact⟨u,rfl,Bh (s:={s with heap:=h'}) e c d (by decide) ⟨x,H,I1,ru,⟨rfl,fun ys hy=>by rw[I.tuple_inj hy hq];exact hx⟩,st',fun b hb=>(hf b hb).1⟩⟩
 done:=by
  intro X hP hw hK hc i pins s σ H E I hf st hg;subst hP hw hK;obtain⟨xs,hq,hx⟩:=hg;obtain⟨its,rv,p,hz⟩:=I.tuple hq;obtain⟨f0,f1,f2,f3,f4,f5⟩:=hf it (by simp)
  have hl:=rv.length
  exact wpAny_pyNext_tuple_end (I.ok.hd hc) st (show s.heap.IsTuple a its.toArray from p) (by simp;omega) fun h' eb=>⟨rfl,I.turned (t':=s.toks) (fun b o hb e=>eb b o hb e) f0 f1 f3 f4 f5⟩
 self:=fun _ _ _ _ _ st h=>wpAny_pyIter_tupleiter st h
theorem FS{P:Program}{w:World}{K:PySem.W.Frag}{tg:Expr}(it:Addr)(lo:Int)(n:Nat):Turn P w K tg (Ji lo n) [it] it (fun i h=>IsRangeIter h it (lo+(i:Nat)*1) ((n:Int)-(i:Nat)) 1) where
 mem:=by simp
 obj:=fun i h st b hb=>by
  have e:b=it:=by simpa using hb
  subst e;exact⟨_,st,fun v z=>by
   have z':Data.fields _=Data.cell v:=z
   cases z'⟩
 keep:=fun i h h' st k=>k it (by simp) _ st
 item:=by
  intro X hP hw hK hc i pins s σ H E I hf st hg;subst hP hw hK;obtain⟨f0,f1,f2,f3,f4,f5⟩:=hf it (by simp)
  have W:=Walks.range (prog:=X.prog) (w:=X.w) (I.ok.hd hc) it lo 1 n
  refine W.item i s _ _ hg st fun v h' tk hv st' kk=>?_;obtain⟨t,rfl⟩:=hv;have I1:Inv X pins σ H {s with heap:=h',toks:=tk}:=I.turned (fun b o hb e=>kk b o (by simpa using hb) e) f0 f1 f3 f4 f5
  refine⟨_,rfl,Bh (s:={s with heap:=h',toks:=tk}) (n:="range_iterator") st' rfl rfl (by decide) ⟨.int (lo+i),H,I1,⟨t,?_⟩,⟨rfl,rfl⟩,st',fun b hb=>(hf b hb).1⟩⟩
  rw[Int.mul_one]
 done:=by
  intro X hP hw hK hc i pins s σ H E I hf st hg;subst hP hw hK;obtain⟨f0,f1,f2,f3,f4,f5⟩:=hf it (by simp)
  exact wpAny_pyNext_range_end (I.ok.hd hc) st (by have:n<=i:=hg;omega) fun h' eb=>⟨rfl,I.turned (t':=s.toks) (fun b o hb e=>eb b o hb e) f0 f1 f3 f4 f5⟩
 self:=fun _ _ _ _ _ st h=>wpAny_pyIter_rangeiter st h
section
variable {X:Cx}{tg:Expr}
theorem WP{pins:List (Addr×Obj)}{σ:St}{H:Hp}{s:Shared}{R:It->Hp->Prop}{E:Value->Shared->Prop}{lo hi:Int}{t u v:Tok}{tk:Nat}(I:Inv X pins σ H s)(h1:-(2^62)<=lo)(h2:lo<2^62)(h3:-(2^62)<=hi)(h4:hi<2^62)
  (q:R (Ji lo (hi-lo).toNat) H):wpAny (model X.prog X.w) X.A (pyIter (.ref s.heap.objs.size)) (Qj X pins σ tg R) E {s with heap:=s.heap.push {cls:=.type "range",data:=.fields #[.int lo t,.int hi u,.int 1 v]},toks:=tk}:=by
 refine wpAny_pyIter_range (IsRange.new ..) (small_one h1 h2 h3 h4) ?_;have I1:Inv X pins σ H {s with heap:=s.heap.push {cls:=.type "range",data:=.fields #[.int lo t,.int hi u,.int 1 v]},toks:=tk}:=I.kept fun b o e=>Heap.get?_push_of_some _ e
 refine⟨(s.heap.push {cls:=.type "range",data:=.fields #[.int lo t,.int hi u,.int 1 v]}).objs.size,[(s.heap.push {cls:=.type "range",data:=.fields #[.int lo t,.int hi u,.int 1 v]}).objs.size],_,_,H,rfl,
  I1.kept (t':=tk) fun b o e=>Heap.get?_push_of_some _ e,FS _ lo (hi-lo).toNat,?_,fun b hb=>?_,q⟩
 ·have e1:lo+((0:Nat):Int)*1=lo:=by simp
  have e2:(((hi-lo).toNat:Nat):Int)-((0:Nat):Int)=Builtin.Range.rangeSize lo hi 1:=by rw[rangeSize_one];split<;>omega
  show IsRangeIter _ _ (lo+((0:Nat):Int)*1) ((((hi-lo).toNat:Nat):Int)-((0:Nat):Int)) 1
  rw[e1,e2];exact Heap.get?_push_size _ rfl
 ·have e:b=(s.heap.push {cls:=.type "range",data:=.fields #[.int lo t,.int hi u,.int 1 v]}).objs.size:=by simpa using hb
  subst e;exact I1.fpOk (Nat.le_refl _) (I1.hok.fresh (Nat.le_refl _))
def EQ(ta:TA):TI:=fun σ H R=>ta σ H fun vs H1=>∃ j:Int,vs=[.int j]/\-(2^62)<=j/\j<2^62/\R (Ji 0 j.toNat) H1
theorem RY{a:Expr}{ta:TA}{p pos:Pos}(hg:Gl X "range")(hm:X.mg "range"=none)(ha:PA X [a] ta)(hs:starEach [a] X.env=[(false,eval a X.env)]:=by rfl):PI X tg (.Call (.Name "range" p) [a] [] pos) (EQ ta):=by
 intro pins s σ H R I h;refine Call_ (qI I hg hm boot_range (PyProof.Rows.callWith_type1 (aZ (ha pos pins s σ H _ I h) fun us s1 ⟨vs,H1,I1,r1,q1⟩=>?_) hs rfl));obtain⟨j,e,q1,q2,q⟩:=q1;subst e
 cases r1 with
 | cons r rr =>
  cases rr
  obtain⟨t,rfl⟩:=r;exact call_range_1 (WP I1 (by omega) (by omega) q1 q2 (by simpa using q))
def SY(wi:TI)(g:TG)(tb:TS):TS:=fun D σ H=>wi σ H fun J H1=>∃ W:Nat->Nat->St->Hp->Prop,(∃ m,W 0 m σ H1)/\∀ i m σ H,W i m σ H ->
 (J.stop i H/\D.nx σ H)\/(J.go i H/\∃ N:St->Hp->Prop,(∀ σ' H',N σ' H'->∃ m',m'<m/\W (i+1) m' σ' H')/\∀ x H',J.yld i H x H'->g x σ H' fun σ2 H2=>tb {D with nx:=N,ct:=N,bk:=D.nx} σ2 H2)
def rF(fp:List Addr)(h:Heap):List (Addr×Obj):=fp.filterMap fun b=>(h.get? b).map fun o=>(b,o)
theorem mY{fp:List Addr}{h:Heap}{b:Addr}{o:Obj}(hb:b∈fp)(e:h.get? b=some o):(b,o)∈rF fp h:=List.mem_filterMap.mpr ⟨b,hb,by rw[e];rfl⟩
theorem WT{fp:List Addr}{h:Heap}{p:Addr×Obj}(hp:p∈rF fp h):p.1∈fp/\h.get? p.1=some p.2:=by
 obtain⟨b,hb,e⟩:=List.mem_filterMap.mp hp
 cases q:h.get? b with
 | none=>rw[q]at e;cases e
 | some o =>
  rw[q]at e;have e':(b,o)=p:=Option.some.inj e
  subst e';exact⟨hb,q⟩
theorem Inv.pinned{pins:List (Addr×Obj)}{σ:St}{H:Hp}{s:Shared}{fp:List Addr}(I:Inv X pins σ H s)(hf:∀ b∈fp,fY X pins H b)(ho:∀ b∈fp,∃ o,s.heap.get? b=some o/\∀ v,o.data≠.cell v):Inv X (pins++rF fp s.heap) σ H s :=
 I.pins_of fun p hp=>(List.mem_append.mp hp).elim (fun z=>I.pin p (List.mem_append_right _ z)) fun z=>by
  obtain⟨hb,e⟩:=WT z;obtain⟨f0,f1,f2,_⟩:=hf p.1 hb;obtain⟨o,e',d⟩:=ho p.1 hb;rw[e]at e';cases e';exact⟨e,f0,f1,f2,d⟩
theorem Inv.unpinned{pins pl:List (Addr×Obj)}{σ:St}{H:Hp}{s:Shared}(I:Inv X (pins++pl) σ H s):Inv X pins σ H s:=I.pins_of fun p hp=>I.pin p (List.mem_append_right _ (List.mem_append_left _ hp))
theorem Z0{iter:Expr}{body:List Stmt}{wi:TI}{g:TG}{tb:TS}{pos:Pos}(hp:PassesOwn (model X.prog X.w) X.A X.env X.xe)(hc:X.calm=true)(hi:PI X tg iter wi)(hg:PG X tg g)(hb:PSs X body tb)
  (hs:∀ x,foldedSetIterable iter X.env x=pure x:=by intro _;rfl):PS X (.For tg iter body [] pos) (SY wi g tb):=by
 intro pins s σ H D I h;refine wpAny_For (aZ (hi pins s σ H _ I h) fun v s1 h1=>aZ h1 fun itv s2 h2=>?_) hs;obtain⟨it,fp,tn,J,H2,e,I2,T,st2,f2,W,⟨m0,w0⟩,turn⟩:=h2;subst e
 -- what stays true of the iterator's objects through the loop
 have stat:∀ {H':Hp},(∀ b∈fp,H' b=none)->∀ b∈fp,fY X pins H' b:=fun hn b hb=>⟨hn b hb,(f2 b hb).2⟩
 refine codeAny_forLoop_any (fun n s'=>∃ i σ' H',Inv X pins σ' H' s'/\tn i s'.heap/\(∀ b∈fp,H' b=none)/\W i n σ' H') ?_ m0 ⟨0,σ,H2,I2,st2,fun b hb=>(f2 b hb).1,w0⟩;rintro n s3 ⟨i,σ3,H3,I3,st3,fr3,w3⟩;rcases turn i n σ3 H3 w3 with⟨stop,qn⟩ | ⟨go,N,hN,step⟩
 ·refine wpAny_passesOwn hp (aZ (T.done X rfl rfl rfl hc i pins s3 σ3 H3 X.xe I3 (stat fr3) st3 stop) fun r s4 ⟨hr,I4⟩=>?_);subst hr;exact wpAny_execs_nil ⟨σ3,H3,I4,qn⟩
 ·refine wpAny_passesOwn hp (aZ (T.item X rfl rfl rfl hc i pins s3 σ3 H3 X.xe I3 (stat fr3) st3 go) fun r s4 ⟨u,hr,h4⟩=>?_);subst hr;refine wpAny_passesOwn hp (aZ h4 fun _ s5 ⟨x,H5,I5,r5,y5,st5,fr5⟩=>?_);have I5':=I5.pinned (stat fr5) (T.obj _ _ st5)
  refine wpAny_passesOwn hp (aZ (hg _ s5 σ3 H5 x u _ I5' r5 (step x H5 y5)) fun _ s6 ⟨σ6,H6,I6,q6⟩=>?_);refine wpAny_passesOwn hp (aZ (hb _ s6 σ6 H6 _ I6 q6) fun f s7 q7=>?_);have again:∀ {σ7:St} {H7:Hp},Inv X (pins++rF fp s5.heap) σ7 H7 s7->N σ7 H7->∃ m,m<n/\∃ i σ' H',Inv X pins σ' H' s7/\tn i s7.heap/\(∀ b∈fp,H' b=none)/\W i m σ' H':=fun {σ7 H7} I7 n7=>by
   obtain⟨m',hm,w7⟩:=hN σ7 H7 n7;refine⟨m',hm,i+1,σ7,H7,I7.unpinned,T.keep _ _ _ st5 fun b hb o e=>(I7.pin (b,o) (List.mem_append_right _ (List.mem_append_right _ (mY hb e)))).1,fun b hb=>?_,w7⟩;obtain⟨o,e,d⟩:=T.obj _ _ st5 b hb;exact(I7.pin (b,o) (List.mem_append_right _ (List.mem_append_right _ (mY hb e)))).2.1
  cases f with
  | next=>obtain⟨σ7,H7,I7,n7⟩:=q7;exact again I7 n7
  | cont=>obtain⟨σ7,H7,I7,n7⟩:=q7;exact again I7 n7
  | brk=>obtain⟨σ7,H7,I7,q7⟩:=q7;exact⟨σ7,H7,I7.unpinned,q7⟩
  | ret v=>obtain⟨x7,σ7,H7,I7,r7,q7⟩:=q7;exact⟨x7,σ7,H7,I7.unpinned,r7,q7⟩
end
abbrev R2:=V->V->Hp->VK->Prop
def OpR(X:Cx)(f:Value->Value->Sem Value)(r:R2):Prop :=
 ∀ (pins:List (Addr×Obj)) (s:Shared) (σ:St) (H:Hp) (x y:V) (v u:Value) (Q:VK),Inv X pins σ H s->RelV x v->RelV y u->r x y H Q ->
  wpAny (model X.prog X.w) X.A (f v u) (EP X pins σ Q) X.xe s
def Nb(X:Cx)(f:Value->Sem Value)(r:V->Hp->VK->Prop):Prop :=
 ∀ (pins:List (Addr×Obj)) (s:Shared) (σ:St) (H:Hp) (x:V) (v:Value) (Q:VK),Inv X pins σ H s->RelV x v->r x H Q ->
  wpAny (model X.prog X.w) X.A (f v) (EP X pins σ Q) X.xe s
def CallR(X:Cx)(f:Value)(r:List V->Hp->VK->Prop):Prop :=
 ∀ (pins:List (Addr×Obj)) (s:Shared) (σ:St) (H:Hp) (xs:List V) (us:List Value) (Q:VK),Inv X pins σ H s->Vals xs us->r xs H Q ->
  wpAny (model X.prog X.w) X.A (call f us) (EP X pins σ Q) X.xe s
def KN(r:R2)(ta tb:TE):TE:=fun σ H Q=>ta σ H fun x H1=>tb σ H1 fun y H2=>r x y H2 Q
def Z3(r:V->Hp->VK->Prop)(ta:TE):TE:=fun σ H Q=>ta σ H fun x H1=>r x H1 Q
def rI(C:Int->Int->Prop)(g:Int->Int->V):R2:=fun x y H Q=>∃ i j,x=.int i/\y=.int j/\C i j/\Q (g i j) H
def mG(g:Int->Int->V):R2:=fun x y H Q=>∃ i j,x=.int i/\y=.int j/\Q (g i j) H
def rU(g:Int->V):V->Hp->VK->Prop:=fun x H Q=>∃ i,x=.int i/\Q (g i) H
section
variable {X:Cx}{a b c:Expr}{ta tb tc:TE}{pos:Pos}
theorem Xg(ha:PE X a ta)(hb:PE X b tb){pins:List (Addr×Obj)}{s:Shared}{σ:St}{H:Hp}{R:V->V->Hp->Prop}(I:Inv X pins σ H s)
  (h:ta σ H fun x H1=>tb σ H1 fun y H2=>R x y H2) {Q:Value->Shared->Prop} {f:Value->Value->Sem Value}
  (hf:∀ v u s2 x y H2,Inv X pins σ H2 s2->RelV x v->RelV y u->R x y H2->wpAny (model X.prog X.w) X.A (f v u) Q X.xe s2) :
  wpAny (model X.prog X.w) X.A (eval a X.env) (fun v s₁=>wpAny (model X.prog X.w) X.A (eval b X.env) (fun u s₂=>wpAny (model X.prog X.w) X.A (f v u) Q X.xe s₂) X.xe s₁) X.xe s:=by
 refine aZ (ha pins s σ H _ I h) fun v s1 ⟨x,H1,I1,r1,q1⟩=>?_;refine aZ (hb pins s1 σ H1 _ I1 q1) fun u s2 ⟨y,H2,I2,r2,q2⟩=>?_;exact hf v u s2 x y H2 I2 r1 r2 q2
theorem AY{op:UnaryOp}{r:V->Hp->VK->Prop}(ho:Nb X (unaryOp op) r)(ha:PE X a ta):PE X (.UnaryOp op a pos) (Z3 r ta):=by
 intro pins s σ H Q I h;exact UnaryOp_ (aZ (ha pins s σ H _ I h) fun v s1 ⟨x,H1,I1,r1,q1⟩=>ho pins s1 σ H1 x v Q I1 r1 q1)
theorem Si{f:Value->Value->Sem Value}{C:Int->Int->Prop}{g:Int->Int->Int}
  (rule:∀ (i j:Int) (t u:Tok) (s:Shared) (Q:Value->Shared->Prop) (E:Value->Shared->Prop),C i j->Q (.int (g i j) s.toks) {s with toks:=s.toks+1}->wpAny (model X.prog X.w) X.A (f (.int i t) (.int j u)) Q E s) :
  OpR X f (rI C fun i j=>.int (g i j)):=by
 intro pins s σ H x y v u Q I rx ry h;obtain⟨i,j,rfl,rfl,hc,q⟩:=h;obtain⟨t,rfl⟩:=rx;obtain⟨t',rfl⟩:=ry;exact rule i j t t' s _ _ hc ⟨.int (g i j),H,I.tok _,⟨_,rfl⟩,q⟩
theorem Sc{f:Value->Value->Sem Value}{g:Int->Int->Int}
  (rule:∀ (i j:Int) (t u:Tok) (s:Shared) (Q:Value->Shared->Prop) (E:Value->Shared->Prop),Q (.int (g i j) s.toks) {s with toks:=s.toks+1}->wpAny (model X.prog X.w) X.A (f (.int i t) (.int j u)) Q E s) :
  OpR X f (mG fun i j=>.int (g i j)):=by
 intro pins s σ H x y v u Q I rx ry h;obtain⟨i,j,rfl,rfl,q⟩:=h;obtain⟨t,rfl⟩:=rx;obtain⟨t',rfl⟩:=ry;exact rule i j t t' s _ _ ⟨.int (g i j),H,I.tok _,⟨_,rfl⟩,q⟩
theorem Ce{f:Value->Value->Sem Value}{g:Int->Int->Bool}
  (rule:∀ (i j:Int) (t u:Tok) (s:Shared) (Q:Value->Shared->Prop) (E:Value->Shared->Prop),Q (.bool (g i j)) s->wpAny (model X.prog X.w) X.A (f (.int i t) (.int j u)) Q E s) :
  OpR X f (mG fun i j=>.bl (g i j)):=by
 intro pins s σ H x y v u Q I rx ry h;obtain⟨i,j,rfl,rfl,q⟩:=h;obtain⟨t,rfl⟩:=rx;obtain⟨t',rfl⟩:=ry;exact rule i j t t' s _ _ ⟨.bl (g i j),H,I,rfl,q⟩
def S7(i j:Int):Prop:=0<=j/\j<=1000000/\i.natAbs<2^64
def CMul(i j:Int):Prop:=(-(2^64)<i/\i<2^64)\/(-(2^64)<j/\j<2^64)
theorem CMul.ok{i j:Int}(h:CMul i j):IntMulOk i j:=by
 rcases h with⟨h1,h2⟩ | ⟨h1,h2⟩
 ·exact .of_left (intBits_le_64 h1 h2)
 ·exact .of_right (intBits_le_64 h1 h2)
theorem SI:OpR X (binaryOp .Add) (mG fun i j=>.int (i+j)):=Sc fun _ _ _ _ _ _ _ q=>add_int q
theorem HQ:OpR X (binaryOp .Sub) (mG fun i j=>.int (i-j)):=Sc fun _ _ _ _ _ _ _ q=>sub_int q
theorem GQ:OpR X (binaryOp .Mod) (rI (fun _ j=>j≠0) fun i j=>.int (i.fmod j)):=Si fun _ _ _ _ _ _ _ hc q=>mod_int' hc q
theorem BQ:OpR X (binaryOp .Pow) (rI S7 fun i j=>.int (i^j.toNat)):=Si fun _ _ _ _ _ _ _ hc q=>pow_int_small hc.1 hc.2.1 hc.2.2 q
theorem AM{f:Value->Sem Value}{g:Int->Int}
  (rule:∀ (i:Int) (t:Tok) (s:Shared) (Q:Value->Shared->Prop) (E:Value->Shared->Prop),Q (.int (g i) s.toks) {s with toks:=s.toks+1}->wpAny (model X.prog X.w) X.A (f (.int i t)) Q E s) :
  Nb X f (rU fun i=>.int (g i)):=by
 intro pins s σ H x v Q I rx h;obtain⟨i,rfl,q⟩:=h;obtain⟨t,rfl⟩:=rx;exact rule i t s _ _ ⟨.int (g i),H,I.tok _,⟨_,rfl⟩,q⟩
theorem RA:Nb X (unaryOp .USub) (rU fun i=>.int (-i)):=AM fun _ _ _ _ _ q=>neg_int q
end
def Zb:V->V->Bool
 | .non,.non=>true | .non,.int _=>true | .int _,.non=>true | .non,.bl _=>true | .bl _,.non=>true | .non,.str _=>true | .str _,.non=>true
 | .int _,.int _=>true | .bl _,.bl _=>true | .str _,.str _=>true | .byt _,.byt _=>true
 | .int _,.str _=>true | .str _,.int _=>true | .bl _,.str _=>true | .str _,.bl _=>true
 | _,_=>false
def WH:R2:=fun x y H Q=>Zb x y=true/\Q (.bl (decide (x=y))) H
def OJ:R2:=fun x y H Q=>Zb x y=true/\Q (.bl (!decide (x=y))) H
theorem B7{i j:Int}:decide (V.int i=V.int j)=(i==j):=by
 rw[Bool.eq_iff_iff];simp
theorem Sq{i j:Bool}:decide (V.bl i=V.bl j)=(i==j):=by
 rw[Bool.eq_iff_iff];simp
theorem Xc{i j:Str}:decide (V.str i=V.str j)=(i==j):=by
 rw[Bool.eq_iff_iff];simp
theorem Vf{i j:Array UInt8}:decide (V.byt i=V.byt j)=(i.toList==j.toList):=by
 rw[Bool.eq_iff_iff]
 cases i
 cases j
 simp
section
variable {X:Cx}{a b c:Expr}{ta tb tc:TE}{pos:Pos}
theorem dQ{pins:List (Addr×Obj)}{σ:St}{H:Hp}{s:Shared}{Q:VK}{k k':Bool}(I:Inv X pins σ H s)(q:Q (.bl k) H)(e:k=k'):EP X pins σ Q (.bool k') s:=by
 subst e;exact⟨.bl k,H,I,rfl,q⟩
theorem BL:OpR X (compareOp .Eq) WH:=by
 intro pins s σ H x y v u Q I rx ry h;obtain⟨hs,q⟩:=h
 cases x with
 | non =>
  cases rx
  cases y with
  | non=>cases ry;exact PySem.EqNone.eq_none_none (dQ I q (by simp))
  | bl j=>cases ry;exact PySem.EqNone.eq_none_bool (dQ I q (by simp))
  | int j=>obtain⟨t',rfl⟩:=ry;exact PySem.EqNone.eq_none_int (dQ I q (by simp))
  | str j=>obtain⟨t',rfl⟩:=ry;exact PySem.EqNone.eq_none_str (dQ I q (by simp))
  | _=>exact absurd (show false=true from hs) Bool.false_ne_true
 | bl i =>
  cases rx
  cases y with
  | non=>cases ry;exact PySem.EqNone.eq_bool_none (dQ I q (by simp))
  | bl j=>cases ry;exact eq_bool (dQ I q Sq)
  | str j=>obtain⟨t',rfl⟩:=ry;exact PySem.EqMixed.eq_bool_str (dQ I q (by simp))
  | _=>exact absurd (show false=true from hs) Bool.false_ne_true
 | int i =>
  obtain⟨t,rfl⟩:=rx
  cases y with
  | non=>cases ry;exact PySem.EqNone.eq_int_none (dQ I q (by simp))
  | int j=>obtain⟨t',rfl⟩:=ry;exact eq_int (dQ I q B7)
  | str j=>obtain⟨t',rfl⟩:=ry;exact PySem.EqMixed.eq_int_str (dQ I q (by simp))
  | _=>exact absurd (show false=true from hs) Bool.false_ne_true
 | str i =>
  obtain⟨t,rfl⟩:=rx
  cases y with
  | non=>cases ry;exact PySem.EqNone.eq_str_none (dQ I q (by simp))
  | bl j=>cases ry;exact PySem.EqMixed.eq_str_bool (dQ I q (by simp))
  | int j=>obtain⟨t',rfl⟩:=ry;exact PySem.EqMixed.eq_str_int (dQ I q (by simp))
  | str j=>obtain⟨t',rfl⟩:=ry;exact eq_str (dQ I q Xc)
  | _=>exact absurd (show false=true from hs) Bool.false_ne_true
 | byt i =>
  obtain⟨t,rfl⟩:=rx
  cases y with
  | byt j=>obtain⟨t',rfl⟩:=ry;exact PySem.W.eq_bytes (dQ I q Vf)
  | _=>exact absurd (show false=true from hs) Bool.false_ne_true
 | _=>cases y<;>exact absurd (show false=true from hs) Bool.false_ne_true
theorem IS:OpR X (compareOp .NotEq) OJ:=by
 intro pins s σ H x y v u Q I rx ry h;obtain⟨hs,q⟩:=h
 cases x with
 | non =>
  cases rx
  cases y with
  | non=>cases ry;exact PySem.EqNone.ne_none_none (dQ I q (by simp))
  | bl j=>cases ry;exact PySem.EqNone.ne_none_bool (dQ I q (by simp))
  | int j=>obtain⟨t',rfl⟩:=ry;exact PySem.EqNone.ne_none_int (dQ I q (by simp))
  | str j=>obtain⟨t',rfl⟩:=ry;exact PySem.EqNone.ne_none_str (dQ I q (by simp))
  | _=>exact absurd (show false=true from hs) Bool.false_ne_true
 | bl i =>
  cases rx
  cases y with
  | non=>cases ry;exact PySem.EqNone.ne_bool_none (dQ I q (by simp))
  | bl j=>cases ry;exact ne_bool (dQ I q (congrArg not Sq))
  | str j=>obtain⟨t',rfl⟩:=ry;exact PySem.EqMixed.ne_bool_str (dQ I q (by simp))
  | _=>exact absurd (show false=true from hs) Bool.false_ne_true
 | int i =>
  obtain⟨t,rfl⟩:=rx
  cases y with
  | non=>cases ry;exact PySem.EqNone.ne_int_none (dQ I q (by simp))
  | int j=>obtain⟨t',rfl⟩:=ry;exact ne_int (dQ I q (congrArg not B7))
  | str j=>obtain⟨t',rfl⟩:=ry;exact PySem.EqMixed.ne_int_str (dQ I q (by simp))
  | _=>exact absurd (show false=true from hs) Bool.false_ne_true
 | str i =>
  obtain⟨t,rfl⟩:=rx
  cases y with
  | non=>cases ry;exact PySem.EqNone.ne_str_none (dQ I q (by simp))
  | bl j=>cases ry;exact PySem.EqMixed.ne_str_bool (dQ I q (by simp))
  | int j=>obtain⟨t',rfl⟩:=ry;exact PySem.EqMixed.ne_str_int (dQ I q (by simp))
  | str j=>obtain⟨t',rfl⟩:=ry;exact ne_str (dQ I q (congrArg not Xc))
  | _=>exact absurd (show false=true from hs) Bool.false_ne_true
 | byt i =>
  obtain⟨t,rfl⟩:=rx
  cases y with
  | byt j=>obtain⟨t',rfl⟩:=ry;exact PySem.W.ne_bytes (dQ I q (congrArg not Vf))
  | _=>exact absurd (show false=true from hs) Bool.false_ne_true
 | _=>cases y<;>exact absurd (show false=true from hs) Bool.false_ne_true
theorem WO:OpR X (compareOp .Lt) (mG fun i j=>.bl (decide (i<j))):=Ce fun _ _ _ _ _ _ _ q=>lt_int q
theorem IC:OpR X (compareOp .LtE) (mG fun i j=>.bl (decide (i<=j))):=Ce fun _ _ _ _ _ _ _ q=>le_int q
theorem FD:OpR X (compareOp .Gt) (mG fun i j=>.bl (decide (j<i))):=Ce fun _ _ _ _ _ _ _ q=>gt_int q
theorem ST:OpR X (compareOp .GtE) (mG fun i j=>.bl (decide (j<=i))):=Ce fun _ _ _ _ _ _ _ q=>ge_int q
theorem OpR.or{f:Value->Value->Sem Value}{r r':R2}(h:OpR X f r)(h':OpR X f r'):OpR X f (fun x y H Q=>r x y H Q\/r' x y H Q):=by
 intro pins s σ H x y v u Q I rx ry q;rcases q with q | q
 ·exact h pins s σ H x y v u Q I rx ry q
 ·exact h' pins s σ H x y v u Q I rx ry q
theorem Cm(b:Expr){op:CmpOp}(h:op≠.In:=by decide)(h2:op≠.NotIn:=by decide):behindInMarks op b=false:=by
 have e1:(op==CmpOp.In)=false:=by cases op<;>first | rfl | exact absurd rfl h
 have e2:(op==CmpOp.NotIn)=false:=by cases op<;>first | rfl | exact absurd rfl h2
 cases b<;>simp[behindInMarks,e1,e2]
theorem mV:(sizeLine:Nat)<2^63:=by rw[sizeLine_eq];decide
theorem XI:OpR X (binaryOp .Add) (fun x y H Q=>∃ i j,x=.str i/\y=.str j/\i.length+j.length<=sizeLine/\Q (.str (i++j)) H):=by
 intro pins s σ H x y v u Q I rx ry h;obtain⟨i,j,rfl,rfl,hz,q⟩:=h;obtain⟨t,rfl⟩:=rx;obtain⟨t',rfl⟩:=ry;exact add_str (fun t' tk=>⟨.str (i++j),H,I.tok _,⟨_,rfl⟩,q⟩) hz
theorem fS{x:V}{us:List Value}(r:Vals [x] us):∃ u,us=[u]/\RelV x u:=by
 cases r with
 | cons r1 r2=>cases r2;exact⟨_,rfl,r1⟩
theorem Gx{x y:V}{us:List Value}(r:Vals [x,y] us):∃ u w',us=[u,w']/\RelV x u/\RelV y w':=by
 cases r with
 | cons r1 r2 =>
  cases r2 with
  | cons r3 r4=>cases r4;exact⟨_,_,rfl,r1,r3⟩
theorem TB:CallR X (.builtin "abs") (fun xs H Q=>∃ i,xs=[.int i]/\Q (.int (if i<0 then -i else i)) H):=by
 intro pins s σ H xs us Q I r h;obtain⟨i,rfl,q⟩:=h;obtain⟨u,rfl,t,rfl⟩:=fS r;exact call_abs_int fun u tk=>⟨.int (if i<0 then -i else i),H,I.tok _,⟨_,rfl⟩,q⟩
theorem HY(hc:X.calm=true):CallR X (.builtin "max") (fun xs H Q=>∃ i j,xs=[.int i,.int j]/\Q (.int (if j > i then j else i)) H):=by
 intro pins s σ H xs us Q I r h;obtain⟨i,j,rfl,q⟩:=h;obtain⟨u,w',rfl,⟨t,rfl⟩,⟨t',rfl⟩⟩:=Gx r;refine max_two_ints (I.ok.hd hc) fun h' tk k=>⟨_,H,I.kept k,?_,q⟩
 by_cases hj:j > i
 ·rw[if_pos hj,if_pos hj];exact⟨_,rfl⟩
 ·rw[if_neg hj,if_neg hj];exact⟨_,rfl⟩
theorem K9:CallR X (.type "int") (fun xs H Q=>(∃ i,xs=[.int i]/\Q (.int i) H)\/∃ k,xs=[.bl k]/\Q (.int (if k then 1 else 0)) H):=by
 intro pins s σ H xs us Q I r h;rcases h with⟨i,rfl,q⟩ | ⟨k,rfl,q⟩
 ·obtain⟨u,rfl,t,rfl⟩:=fS r;exact call_int_int ⟨.int i,H,I,⟨_,rfl⟩,q⟩
 ·obtain⟨u,rfl,r1⟩:=fS r
  cases r1
  exact call_int_bool ⟨.int (if k then 1 else 0),H,I.tok _,⟨_,rfl⟩,q⟩
theorem NM:CallR X (.type "str") (fun xs H Q=>∃ i,xs=[.int i]/\i.natAbs.log2<1920/\Q (.str (toString i)) H):=by
 intro pins s σ H xs us Q I r h;obtain⟨i,rfl,hz,q⟩:=h;obtain⟨u,rfl,t,rfl⟩:=fS r;exact PySem.P.str_of_int hz ⟨.str _,H,I.tok _,⟨_,rfl⟩,q⟩
end
structure ObjM (h:Heap) (x dx C:Addr) (mA:Str->Option Value):Prop where
 obj:h.get? x=some (PySem.W.instObj C dx)
 ns:h.Ns1 dx mA
 ne:dx≠x
theorem w4{h:Heap}{dx:Addr}{mA:Str->Option Value}(n:h.Ns1 dx mA):∃ od,h.get? dx=some od/\∀ name,PySem.W.lookIn name od=some (mA name):=by
 obtain⟨o,es,ep,ho,hd,hk,_,hm⟩:=n;refine⟨o,ho,fun name=>?_⟩;have e:=hm name
 unfold nsFind findBy at e;rw[<- Array.find?_toList]at e;unfold PySem.W.lookIn;rw[hd];dsimp only
 split
 ·rename_i y q;rw[q]at e;exact congrArg some e
 ·rename_i q;rw[q]at e;have a:es.toList.any (·.refKey)=false:=by
   rw[List.any_eq_false];intro y hy;obtain⟨z,t,hkey⟩:=hk y (Array.mem_toList_iff.mp hy);simp[DictEntry.refKey,hkey]
  have a':¬ es.toList.any (·.refKey)=true:=by rw[a];exact Bool.false_ne_true
  rw[if_neg a'];exact congrArg some e
theorem ObjM.look{h:Heap}{x dx C:Addr}{mA:Str->Option Value}(I:ObjM h x dx C mA):∃ od,PySem.W.InstAt h x (PySem.W.instObj C dx) C (some od)/\∀ name,PySem.W.lookIn name od=some (mA name) :=
 let ⟨od,ho,hl⟩:=w4 I.ns
 ⟨od,⟨I.obj,rfl,rfl,ho⟩,hl⟩
section
variable {prog:Program}{w:World}{A:Around}{E:Value->Shared->Prop}{s:Shared}{K:PySem.W.Frag}{x dx C f:Addr}{mA:Str->Option Value}{name:Str}{v:Value}
theorem Oi{expr:Bool}{Q:Value->Shared->Prop}(X:K.In s.heap)(I:ObjM s.heap x dx C mA)(hg:PySem.W.plainGet K C name=true)(hh:PySem.W.hasDictIn K C=true)
  (ha:PySem.W.findIn K (.ref C) name=some none) (hv:mA name=some v) (hv':PySem.W.handedIn v=true) (h:Q v {s with toks:=s.toks+1}) :
  wpAny (model prog w) A (getAttr (.ref x) name expr) Q E s:=by
 obtain⟨od,J,hl⟩:=I.look;exact PySem.W.get_value X J (PySem.W.plainGet_of hg).1 (PySem.W.findObj_own hh ha rfl (by rw[hl,hv])) hv' h
end
theorem RelO.some_of{v:V}{o:Option Value}(r:RelO (some v) o):∃ u,o=some u/\RelV v u:=by
 cases o with
 | none=>exact(show False from r).elim
 | some u=>exact⟨u,rfl,r⟩
structure Cls (K:PySem.W.Frag) (C:Addr):Prop where
 pg:PySem.W.plainGet K C Str.empty=true
 hd:PySem.W.hasDictIn K C=true
 po:PySem.W.plainOver K C=true
 sa:PySem.W.findIn K (.ref C) "__setattr__"=some (some (.builtin "object.__setattr__"))
theorem Cls.get{K:PySem.W.Frag}{C:Addr}(c:Cls K C)(f:Str):PySem.W.plainGet K C f=true:=c.pg
section
variable {X:Cx}{pins:List (Addr×Obj)}{σ:St}{H:Hp}{s:Shared}{a C dx:Addr}{fs:List (Str×V)}{f:Str}{v:V}{A:Around}{E:Value->Shared->Prop}
theorem Inv.made(I:Inv X pins σ H s):Inv X pins σ (upd (upd H s.heap.objs.size (.own (s.heap.objs.size+1))) (s.heap.objs.size+1) (.ins C s.heap.objs.size []))
  {s with heap:=(s.heap.push PySem.W.emptyDict).push (PySem.W.instObj C s.heap.objs.size)}:=by
 have e1:(s.heap.push PySem.W.emptyDict).get? s.heap.objs.size=some PySem.W.emptyDict:=Heap.get?_push_size s.heap rfl
 have e2:((s.heap.push PySem.W.emptyDict).push (PySem.W.instObj C s.heap.objs.size)).get? (s.heap.objs.size+1)=some (PySem.W.instObj C s.heap.objs.size):=by
  have:=Heap.get?_push_size (s.heap.push PySem.W.emptyDict) (o:=PySem.W.instObj C s.heap.objs.size) rfl
  rwa [Heap.size_push]at this
 have e3:(s.heap.push PySem.W.emptyDict).Ns s.heap.objs.size (fun _=>none):=⟨PySem.W.emptyDict,#[],_,e1,rfl,(fun e he=>absurd he (by simp)),fun _=>rfl⟩
 have I1:=I.laid (a:=s.heap.objs.size) (o:=.own (s.heap.objs.size+1)) (h':=s.heap.push PySem.W.emptyDict) (t':=s.toks) (fun b u q=>Heap.get?_push_of_some _ q) (Nat.le_refl _) ⟨_,e1⟩
 refine I1.laid (a:=s.heap.objs.size+1) (o:=.ins C s.heap.objs.size []) (t':=s.toks) (fun b u q=>Heap.get?_push_of_some _ q) (Nat.le_of_eq (Heap.size_push _ _)) ?_;have ne:s.heap.objs.size≠s.heap.objs.size+1:=Nat.ne_of_lt (Nat.lt_succ_self _)
 refine⟨by rw[cW ne,dR],Nat.zero_le _,ne,e2,fun _=>none,(Heap.Ns1.of_empty e3).at fun o q=>Heap.get?_push_of_some _ q,fun _=>True.intro,fun y hy=>absurd rfl hy⟩
end
structure Room (k:Nat) (A:Around):Prop where
 hd:A.handled=none
 gd:A.guards=some []
 dp:A.depth+3*k+5<recursionLimit
 un:A.units+16*k+200<cLine
theorem Room.mono{j k:Nat}{A:Around}(r:Room k A)(h:j<=k):Room j A:=⟨r.hd,r.gd,by have:=r.dp;omega,by have:=r.un;omega⟩
theorem Room.deeper{k:Nat}{A:Around}(r:Room (k+1) A)(env:Env):Room k (A.deeper env) :=
 ⟨r.hd,r.gd,by have:=r.dp;show A.depth+1+3*k+5<_;omega,by have:=r.un;show A.units+3+16*k+200<_;omega⟩
theorem Room.in1{k:Nat}{A:Around}(r:Room (k+1) A):Room k A.in1 :=
 ⟨r.hd,r.gd,by have:=r.dp;show A.depth+3*k+5<_;omega,by have:=r.un;show A.units+1+16*k+200<_;omega⟩
theorem Room.depth{k:Nat}{A:Around}(r:Room k A):A.depth<recursionLimit:=by have:=r.dp;omega
theorem Room.units{k:Nat}{A:Around}(r:Room k A):A.units+64<cLine:=by have:=r.un;omega
def Q4:TA:=fun _ H Q=>Q [] H
def EH(ta:TE)(tr:TA):TA:=fun σ H Q=>ta σ H fun x H1=>tr σ H1 fun xs H2=>Q (x::xs) H2
section
variable {X:Cx}{e:Expr}{es:List Expr}{te:TE}{t:TA}{pos:Pos}
theorem lN:PA X [] Q4:=fun _ _ _ _ H Q I h=>Calls.spliced_nil ⟨[],H,I,.nil,h⟩
theorem iV(ha:PE X e te)(hr:PA X es t)(hs:starEach (e::es) X.env=(false,eval e X.env)::starEach es X.env:=by rfl):PA X (e::es) (EH te t):=by
 intro pos pins s σ H Q I h;rw[hs];show wpAny _ _ (spliced ((false,eval e X.env)::backTo pos (starEach es X.env))) _ _ s
 refine Calls.spliced_cons (aZ (ha pins s σ H _ I h) fun u s1 ⟨x,H1,I1,r1,q1⟩=>?_);exact aZ (hr pos pins s1 σ H1 _ I1 q1) fun us s2 ⟨xs,H2,I2,r2,q2⟩=>⟨x::xs,H2,I2,.cons r1 r2,q2⟩
def VC(t:TA):TE:=fun σ H Q=>t σ H fun xs H1=>xs.length<=sizeLine/\∀ p,H1 p=none->Q (.ref p) (upd H1 p (.tup xs))
theorem So{x1}(h:PA X es t):PE X (.Tuple es x1 pos) (VC t):=by
 intro pins s σ H Q I hq;refine wpAny_Tuple_spliced (aZ (h pos pins s σ H _ I hq) fun us s1 ⟨xs,H1,I1,r,z,q⟩=>⟨by rw[<- r.length];exact z,?_⟩)
 have hf:H1 s1.heap.objs.size=none:=I1.hok.fresh (Nat.le_refl _)
 refine⟨.ref s1.heap.objs.size,upd H1 s1.heap.objs.size (.tup xs),I1.laid (t':=s1.toks) (fun b u e=>Heap.get?_push_of_some _ e) (Nat.le_refl _) ?_,rfl,q _ hf⟩;exact⟨⟨z,NoD.new _ _ _⟩,us,r,⟨_,Heap.get?_push_size _ rfl,rfl,_,rfl⟩⟩
end
abbrev Sp:=List V->Hp->VK->XK->Prop
abbrev iW:=List Env->Hp->Shared->XK->Value->Shared->Prop
structure Env0 (P:Program) (w:World) (K:PySem.W.Frag) (mg:Str->Option Value) (base:Heap) (A:Around) (outer:List Env) (s:Shared) (H:Hp):Prop where
 frames:A.frames=some outer
 mod:Mod K mg base
 bs:∀ b o,base.get? b=some o->s.heap.get? b=some o/\H b=none
 bsz:base.objs.size<=s.heap.objs.size
 funs:s.heap.FunFrames base outer
 frf:∀ b∈jC outer,H b=none
 hok:HOk P w H s.heap
 bare:AllBare s.gens
def CE(outer:List Env)(P:Program)(w:World)(H:Hp)(s:Shared)(Q:VK)(u:Value)(s':Shared):Prop :=
 ∃ v H',s'.os=s.os/\AllBare s'.gens/\Un (jC outer) [] H H' s.heap s'.heap/\HOk P w H' s'.heap/\RelV v u/\Q v H'
def CR(CX:iW)(outer:List Env)(P:Program)(w:World)(H:Hp)(s:Shared)(Q:VK)(E:XK)(r:Result)(s':Shared):Prop :=
 match r with
 | .ok (.ret u)=>CE outer P w H s Q u s'
 | .ok _=>False
 | .error e=>CX outer H s E e s'
structure FnOk (P:Program) (w:World) (K:PySem.W.Frag) (mg:Str->Option Value) (base:Heap) (CX:iW) (k:Nat) (f:Addr) (fd:FuncData) (ps:List Str) (sp:Sp):Prop where
 len:∀ vs H Q E,sp vs H Q E->vs.length=ps.length
 run:∀ (A:Around) (outer:List Env) (s:Shared) (H:Hp) (args:Args) (us:List Value) (vs:List V) (Q:VK) (E:XK),Room k A->Env0 P w K mg base A outer s H->BindsTo s fd args (ps.zip us)->Vals vs us->sp vs H Q E ->
  codeAny (model P w) A (.call (.ref f) args) (CR CX outer P w H s Q E) s
theorem FnOk.mono{P:Program}{w:World}{K:PySem.W.Frag}{mg:Str->Option Value}{base:Heap}{CX:iW}{j k:Nat}{f:Addr}{fd:FuncData}{ps:List Str}{sp:Sp}(F:FnOk P w K mg base CX j f fd ps sp)(h:j<=k) :
  FnOk P w K mg base CX k f fd ps sp:=⟨F.len,fun A outer s H args us vs Q E hr=>F.run A outer s H args us vs Q E (hr.mono h)⟩
theorem FnOk.imp{P:Program}{w:World}{K:PySem.W.Frag}{mg:Str->Option Value}{base:Heap}{CX:iW}{k:Nat}{f:Addr}{fd:FuncData}{ps:List Str}{sp sp':Sp}(F:FnOk P w K mg base CX k f fd ps sp)
  (h:∀ vs H Q E,sp' vs H Q E->sp vs H Q E):FnOk P w K mg base CX k f fd ps sp' :=
 ⟨fun vs H Q E q=>F.len vs H Q E (h _ _ _ _ q),fun A outer s H args us vs Q E hr he hb hv hs=>F.run A outer s H args us vs Q E hr he hb hv (h _ _ _ _ hs)⟩
theorem Env0.in1{P:Program}{w:World}{K:PySem.W.Frag}{mg:Str->Option Value}{base:Heap}{A:Around}{outer:List Env}{s:Shared}{H:Hp}(e:Env0 P w K mg base A outer s H) :
  Env0 P w K mg base A.in1 outer s H:=⟨e.frames,e.mod,e.bs,e.bsz,e.funs,e.frf,e.hok,e.bare⟩
section
variable {X:Cx}{pins:List (Addr×Obj)}{σ:St}{H:Hp}{s s':Shared}
theorem Inv.env0(I:Inv X pins σ H s):Env0 X.prog X.w X.K X.mg X.base X.A X.stack s H :=
 ⟨I.ok.frames,I.ok.mod,I.bs,Nat.le_trans I.ok.bsz I.sz,I.stack,I.stkFree,I.hok,I.bare⟩
theorem Inv.after{Q:VK}{u:Value}(I:Inv X pins σ H s)(h:CE X.stack X.prog X.w H s Q u s'):EP X pins σ Q u s':=by
 obtain⟨v,H',os,bare,un,hok,r,q⟩:=h;obtain⟨hh,g,d,t,os'⟩:=s';obtain rfl:os'=s.os:=os;exact⟨v,H',I.call (h':=hh) (g':=g) (d':=d) (t':=t) (ch:=[]) un hok bare (fun b z=>absurd z (by simp)),r,q⟩
end
def HA(sp:Sp)(dvs:List V)(E:XK)(t:TA):TE:=fun σ H Q=>t σ H fun vs H1=>sp (vs++dvs) H1 Q E
def Binds(K:PySem.W.Frag)(fd:FuncData)(ps:List Str)(ds:List Value):Prop :=
 ∀ (s:Shared) (us:List Value),K.In s.heap->(us++ds).length=ps.length->BindsTo s fd ⟨us,[]⟩ (ps.zip (us++ds))
theorem Binds.all{K:PySem.W.Frag}{fd:FuncData}{ps:List Str}(h:∀ us:List Value,us.length=ps.length->bindArgs fd ⟨us,[]⟩=pure (ps.zip us)):Binds K fd ps []:=fun s us _ hl=>by
 rw[List.append_nil]at hl ⊢;exact .of_eq (h us hl)
def Ie(CX:iW)(X:Cx)(E:XK):Prop:=∀ (pins:List (Addr×Obj)) (σ:St) (H:Hp) (s:Shared) (e:Value) (s':Shared),Inv X pins σ H s->CX X.stack H s E e s'->X.xe e s'
section
variable {X:Cx}{CX:iW}{k:Nat}{f C:Addr}{fd:FuncData}{ps:List Str}{sp:Sp}{dvs:List V}{ds:List Value}{E:XK}{x m:Str}{p pos apos:Pos}{e o:Expr}{es:List Expr}{ta:TE}{t:TA}
theorem CL{pins:List (Addr×Obj)}{σ:St}{H:Hp}{s:Shared}{Q:VK}{us:List Value}{vs:List V}(F:FnOk X.prog X.w X.K X.mg X.base CX k f fd ps sp)(hr:Room k X.A)(hb:Binds X.K fd ps ds)(hd:Vals dvs ds)(hx:Ie CX X E)
  (I:Inv X pins σ H s) (r:Vals vs us) (h:sp (vs++dvs) H Q E):wpAny (model X.prog X.w) X.A (call (.ref f) us) (EP X pins σ Q) X.xe s:=by
 have r2:Vals (vs++dvs) (us++ds):=r.append hd
 have hl:(us++ds).length=ps.length:=by rw[<- r2.length];exact F.len _ _ _ _ h
 refine wpAny_call (codeAny_mono (F.run X.A X.stack s H ⟨us,[]⟩ (us++ds) (vs++dvs) Q E hr I.env0 (hb s us I.kIn hl) r2 h) fun r s' hq=>?_)
 cases r with
 | error e=>exact hx pins σ H s e s' I hq
 | ok fl =>
  cases fl with
  | ret u=>exact I.after hq
  | next=>exact False.elim hq
  | brk=>exact False.elim hq
  | cont=>exact False.elim hq
theorem AS(F:FnOk X.prog X.w X.K X.mg X.base CX k f fd ps sp)(hr:Room k X.A)(hg:Gl X x)(hm:X.mg x=some (.ref f))(hk:PySem.W.keepIn X.K (.ref f)=true)(hb:Binds X.K fd ps ds)(hd:Vals dvs ds)(hx:Ie CX X E)
  (ha:PA X (e::es) t) (hdb:(x==("__debug__" : Str))=false:=by decide) (he:starEach (e::es) X.env=(false,eval e X.env)::starEach es X.env:=by rfl) (hpl:(backTo pos (starEach es X.env)).any (·.1)=false:=by rfl) :
  PE X (.Call (.Name x p) (e::es) [] pos) (HA sp dvs E t):=by
 intro pins s σ H Q I h;refine wpAny_Call_Name_kw (Xz I hg hm ?_ hdb);refine PySem.W.callWith_K (h₀:=X.base) I.ok.mod.kin hk (aZ (ha pos pins s σ H _ I h) fun us s1 ⟨vs,H1,I1,r,q⟩=>⟨I1.kIn,?_⟩) he hpl;exact CL F hr hb hd hx I1 r q
end
structure FnScope (N P:List Str) (sc:Scope):Prop where
 kind:sc.kind=.function
 co:sc.isCoroutine=false
 gen:sc.isGenerator=false
 nd:N.Nodup
 pre:N.take P.length=P
 par:∀ x∈P,sc.names.lookup x=some .local\/sc.names.lookup x=some .cell
 nofree:∀ y∈sc.names,y.2≠.free
theorem Xk{kindOf:Str->Option NameKind}{x:Str}:∀ {binds:List (Str×Value)} {m:Str->Option Value},(∀ v,(x,v)∉binds)->bindL kindOf binds m x=m x
 | [],_,_=>rfl
 | (n,v)::r,m,h=>by
  unfold bindL;rw[Xk fun w hw=>h w (List.mem_cons_of_mem _ hw)]
  split
  ·have:x≠n:=by rintro rfl;exact h v List.mem_cons_self
   simp[this]
  ·rfl
theorem Ul{kindOf:Str->Option NameKind}{x:Str}:∀ {binds:List (Str×Value)} {m:Str->Option Value},(∀ v,(x,v)∉binds)->bindC kindOf binds m x=m x
 | [],_,_=>rfl
 | (n,v)::r,m,h=>by
  unfold bindC;rw[Ul fun w hw=>h w (List.mem_cons_of_mem _ hw)]
  split
  ·rfl
  ·have:x≠n:=by rintro rfl;exact h v List.mem_cons_self
   simp[this]
theorem Vr{kindOf:Str->Option NameKind}{x:Str}{v:Value}:∀ {P:List Str} {vs:List Value} {i:Nat} {m:Str->Option Value},P.Nodup->P[i]?=some x->vs[i]?=some v->kindOf x=some .local ->
  bindL kindOf (P.zip vs) m x=some v
 | [],_,_,_,_,h,_,_=>by simp at h
 | _::_,[],_,_,_,_,h,_=>by simp at h
 | p::P,w::vs,0,m,nd,h1,h2,hk=>by
  simp at h1 h2;subst h1;subst h2;show bindL kindOf ((p,w)::P.zip vs) m p=_
  unfold bindL;rw[Xk fun v hv=>(List.nodup_cons.mp nd).1 (List.of_mem_zip hv).1,if_pos hk];simp
 | p::P,w::vs,i+1,m,nd,h1,h2,hk=>by
  show bindL kindOf ((p,w)::P.zip vs) m x=_
  unfold bindL;exact Vr (i:=i) (List.nodup_cons.mp nd).2 (by simpa using h1) (by simpa using h2) hk
theorem L9{kindOf:Str->Option NameKind}{x:Str}{v:Value}:∀ {P:List Str} {vs:List Value} {i:Nat} {m:Str->Option Value},P.Nodup->P[i]?=some x->vs[i]?=some v->kindOf x≠some .local ->
  bindC kindOf (P.zip vs) m x=some v
 | [],_,_,_,_,h,_,_=>by simp at h
 | _::_,[],_,_,_,_,h,_=>by simp at h
 | p::P,w::vs,0,m,nd,h1,h2,hk=>by
  simp at h1 h2;subst h1;subst h2;show bindC kindOf ((p,w)::P.zip vs) m p=_
  unfold bindC;rw[Ul fun v hv=>(List.nodup_cons.mp nd).1 (List.of_mem_zip hv).1,if_neg hk];simp
 | p::P,w::vs,i+1,m,nd,h1,h2,hk=>by
  show bindC kindOf ((p,w)::P.zip vs) m x=_
  unfold bindC;exact L9 (i:=i) (List.nodup_cons.mp nd).2 (by simpa using h1) (by simpa using h2) hk
def start(N:List Str)(vs:List V):St:=vs.map some++List.replicate (N.length-vs.length) none
def mM(CX:iW)(P:Program)(w:World)(K:PySem.W.Frag)(mg:Str->Option Value)(base:Heap)(N:List Str)(qual:Str)(scope:Scope)(f:Addr)(cd:Value)(A:Around)(outer:List Env)(s:Shared)(H:Hp)(E:XK):Cx where
 prog:=P
 w:=w
 K:=K
 mg:=mg
 base:=base
 A:=A.deeper (envOfC qual scope s.heap.objs.size f cd)
 N:=N
 s₀:=s
 H₀:=H
 env:=envOfC qual scope s.heap.objs.size f cd
 outer:=outer
 stack:=envOfC qual scope s.heap.objs.size f cd::outer
 ex:=[]
 calm:=true
 fn:=fun _=>true
 pn:=[]
 xe:=fun e s'=>wpAny (model P w) (A.deeper (envOfC qual scope s.heap.objs.size f cd)) («leaving» (envOfC qual scope s.heap.objs.size f cd) e) (fun _ s''=>CX outer H s E e s'') (fun e' s''=>CX outer H s E e' s'') s'
theorem Ye{sc:Scope}{n:Nat}{x:Str}(h:sc.names.lookup x=some .cell):∃ c,(cellsFrom n sc.names []).lookup x=some c:=by
 have q:=PySem.W.cellsFrom_some sc.names n [] (.inl h)
 exact Option.isSome_iff_exists.mp q
theorem X3{CX:iW}{P:Program}{w:World}{K:PySem.W.Frag}{mg:Str->Option Value}{base:Heap}{N ps:List Str}{qual:Str}{scope:Scope}{f:Addr}{cd:Value}{A:Around}{outer:List Env}{s s1:Shared}{H:Hp}{E:XK}{us:List Value}{vs:List V}
  (S:FnScope N ps scope) (hd:A.handled=none) (e0:Env0 P w K mg base A outer s H) (hl:vs.length=ps.length) (r:Vals vs us)
  (x:InCallC s s.heap.objs.size (bindL (envOfC qual scope s.heap.objs.size f cd).kindOf (ps.zip us) fun _=>none) (cellsFrom (s.heap.objs.size+1) scope.names []) (bindC (envOfC qual scope s.heap.objs.size f cd).kindOf (ps.zip us) fun _=>none) s1) :
  Inv (mM CX P w K mg base N qual scope f cd A outer s H E) [] (start N vs) H s1:=by
 have hpl:ps.length<=N.length:=by have:=congrArg List.length S.pre;rw[List.length_take]at this;omega
 obtain⟨h1,tk,rfl,hk⟩:=x.done;have noA:∀ b:Addr,b∉(mM CX P w K mg base N qual scope f cd A outer s H E).ex:=fun b z=>absurd (show b∈([]:List Addr) from z) (by simp)
 refine⟨⟨e0.mod,S.kind,rfl,rfl,Nat.le_refl _,fun y z c h1 h2=>?_,fun y hy=>?_,fun y c _ h=>?_,fun _=>hd,Around.frames_deeper e0.frames,.inr ⟨rfl,rfl⟩,fun b z=>absurd z (noA b),e0.bs,e0.bsz,fun b _ _=>noA b,fun b z=>absurd z (noA b),e0.funs,e0.frf⟩,
  rfl,e0.bare,Un.kept hk,⟨_,x.toInCall.ns,fun i y v h1 h2 h3=>?_⟩,fun y c h=>⟨_,x.cell y c h⟩,e0.hok.fresh (Nat.le_refl _),fun y c h=>?_,fun p hp=>absurd (show p∈([]:List (Addr×Obj)) from hp) (by simp),e0.hok.kept hk,?_⟩
 ·exact name_of_addr x.apart (PySem.mem_of_lookup h1) (PySem.mem_of_lookup h2)
 ·have hy:scope.names.lookup y=some .cell\/scope.names.lookup y=some .free:=hy
  rcases hy with hy | hy
  ·exact Ye hy
  ·exact absurd rfl (S.nofree _ (PySem.mem_of_lookup hy))
 ·exact Nat.le_of_lt (x.above y c (PySem.mem_of_lookup h))
 ·have hi:i<vs.length:=by
   unfold start at h2
   by_cases hi:i<vs.length
   ·exact hi
   ·rw[List.getElem?_append_right (by simpa using hi)]at h2
    rw[List.getElem?_replicate]at h2
    split at h2<;>cases h2
  have ha:vs[i]?=some v:=by
   unfold start at h2;rw[List.getElem?_append_left (by simpa using hi),List.getElem?_map]at h2
   cases e:vs[i]? with
   | none=>rw[e]at h2;cases h2
   | some a=>rw[e]at h2;cases h2;rfl
  obtain⟨u,hu,rv⟩:=r.get ha;have hp:ps[i]?=some y:=by
   rw[<- S.pre,List.getElem?_take_of_lt (by omega)];exact h1
  have ndP:ps.Nodup:=by rw[<- S.pre];exact S.nd.sublist (List.take_sublist _ _)
  refine⟨u,rv,?_⟩;rcases S.par y (List.mem_of_getElem? hp) with k | k
  ·exact .inl ⟨k,Vr ndP hp hu k⟩
  ·obtain⟨c,e⟩:=Ye (n:=s.heap.objs.size+1) k;refine .inr ⟨.inl k,c,e,?_⟩;have q:=x.cell y c e
   rw[L9 ndP hp hu (by show scope.names.lookup y≠_;rw[k];decide)]at q
   exact q
 ·exact e0.hok.fresh (Nat.le_of_lt (x.above y c (PySem.mem_of_lookup h)))
 ·unfold start;show _=N.length
  rw[List.length_append,List.length_map,List.length_replicate];omega
theorem MR{CX:iW}{P:Program}{w:World}{K:PySem.W.Frag}{mg:Str->Option Value}{base:Heap}{k:Nat}{f:Addr}{name qual:Str}{params:Arguments}{body:List Stmt}{scope:Scope}{dV kV doc pm cdv ct oc:Value}{an od:Option Addr}
  {osl:Array (Option Value)} {N ps:List Str} {sp:Sp} (lk:K.lookup f=some ⟨oc,od,.func (PySem.W.fnOf name qual params body scope dV kV doc pm an cdv ct),osl⟩) (hcd:PySem.W.codeIn K cdv qual=true) (S:FnScope N ps scope)
  (len:∀ vs H Q E,sp vs H Q E->vs.length=ps.length)
  (hbody:∀ (A:Around) (outer:List Env) (s:Shared) (H:Hp) (vs:List V) (Q:VK) (E:XK),Room k (A.deeper (envOfC qual scope s.heap.objs.size f cdv))->sp vs H Q E ->
   ∃ t,PSs (mM CX P w K mg base N qual scope f cdv A outer s H E) body t/\t {nx:=fun _ H'=>Q .non H',rt:=Q} (start N vs) H) :
  FnOk P w K mg base CX (k+1) f (PySem.W.fnOf name qual params body scope dV kV doc pm an cdv ct) ps sp:=by
 refine⟨len,fun A outer s H args us vs Q E hr e0 hb r hsp=>?_⟩;have hl:=len _ _ _ _ hsp
 have KX:K.In s.heap:=e0.mod.kin.keeps fun b o e=>(e0.bs b o e).1
 have lim:s.heap.NoLimit:=e0.mod.nolimit.keeps fun b o e=>(e0.bs b o e).1
 have hkind:∀ y∈ps.zip us,scope.names.lookup y.1=some .local\/(scope.names.lookup y.1=some .cell/\((cellsFrom (s.heap.objs.size+1) scope.names []).lookup y.1).isSome=true):=fun⟨n,v⟩ hy=>by
  rcases S.par n (List.of_mem_zip hy).1 with q | q
  ·exact .inl q
  ·exact .inr ⟨q,PySem.W.cellsFrom_some _ _ _ (.inl q)⟩
 refine codeAny_call_function hr.depth (KX _ _ lk) rfl S.co S.gen rfl (PySem.W.codeRec_of KX hcd) (hb _ _ _ _ ?_);refine wpAny_newFunctionEnv_cells S.kind hkind fun env he s1 x=>?_;subst he;refine⟨lim.keeps x.toInCall.keep,codeAny_func ?_⟩;obtain⟨t,ht,hq⟩:=hbody A outer s H vs Q E (hr.deeper _) hsp;have I:Inv (mM CX P w K mg base N qual scope f cdv A outer s H E) [] (start N vs) H s1:=X3 S hr.hd e0 hl r x
 refine wpAny_mono (ht [] s1 (start N vs) H _ I hq) (fun fl s' hs=>?_) fun e s' hs=>hs;have fin:∀ {σ':St} {H':Hp} {v:V} {u:Value},Inv (mM CX P w K mg base N qual scope f cdv A outer s H E) [] σ' H' s'->RelV v u->Q v H'->CE outer P w H s Q u s' :=
  fun {σ' H' v u} J rv q=>⟨v,H',J.os,J.bare,J.base,J.hok,rv,q⟩
 cases fl with
 | ret u =>
  obtain⟨v,σ',H',J,rv,q⟩:=hs;exact fin J rv q
 | next =>
  obtain⟨σ',H',J,q⟩:=hs;exact fin (v:=V.non) (u:=Value.none) J rfl q
 | brk =>
  obtain⟨_,_,_,q⟩:=hs;exact False.elim q
 | cont =>
  obtain⟨_,_,_,q⟩:=hs;exact False.elim q
section
variable {X:Cx}{x:Str}{p pos:Pos}{e:Expr}{es:List Expr}{t:TA}{id T:String}{r:List V->Hp->VK->Prop}
def C0(r:List V->Hp->VK->Prop)(t:TA):TE:=fun σ H Q=>t σ H fun vs H1=>r vs H1 Q
theorem Rk(hc:CallR X (.builtin id) r)(hg:Gl X x)(hm:X.mg x=none)(hv:bootBuiltins x=some (.builtin id))(ha:PA X (e::es) t)(hn:x≠"__name__":=by decide)(hdb:(x==("__debug__" : Str))=false:=by decide)
  (he:starEach (e::es) X.env=(false,eval e X.env)::starEach es X.env:=by rfl) (hpl:(backTo pos (starEach es X.env)).any (·.1)=false:=by rfl):PE X (.Call (.Name x p) (e::es) [] pos) (C0 r t):=by
 intro pins s σ H Q I h;refine wpAny_Call_Name_kw (qI I hg hm hv ?_ hn hdb);exact PyProof.Rows.callWith_builtin1 (aZ (ha pos pins s σ H _ I h) fun us s1 ⟨vs,H1,I1,r1,q1⟩=>hc pins s1 σ H1 vs us Q I1 r1 q1) he hpl
theorem HK(hc:CallR X (.type T) r)(hg:Gl X x)(hm:X.mg x=none)(hv:bootBuiltins x=some (.type T))(ha:PA X (e::es) t)(hn:x≠"__name__":=by decide)(hdb:(x==("__debug__" : Str))=false:=by decide)
  (he:starEach (e::es) X.env=(false,eval e X.env)::starEach es X.env:=by rfl) (hpl:(backTo pos (starEach es X.env)).any (·.1)=false:=by rfl):PE X (.Call (.Name x p) (e::es) [] pos) (C0 r t):=by
 intro pins s σ H Q I h;refine wpAny_Call_Name_kw (qI I hg hm hv ?_ hn hdb);exact PyProof.Rows.callWith_type1 (aZ (ha pos pins s σ H _ I h) fun us s1 ⟨vs,H1,I1,r1,q1⟩=>hc pins s1 σ H1 vs us Q I1 r1 q1) he hpl
end
end L2
namespace HT
open PySem PyProof.Rows
section
variable {prog:Program}{w:World}{A:Around}{E:Value->Shared->Prop}{s:Shared}
theorem cat_tup{t b:Addr}{vs ws:List Value}{Q:Value->Shared->Prop}(ht:IsTup s.heap t vs.toArray)(hb:IsTup s.heap b ws.toArray)(hv:vs≠[])
  (h1:ws=[]->Q (.ref t) s) (h2:ws≠[]->Q (.ref s.heap.objs.size) {s with heap:=s.heap.push {cls:=.type "tuple",data:=.seq (vs++ws).toArray}})
  (hsz:vs.length+ws.length<=sizeLine):wpAny (model prog w) A (binaryOp .Add (.ref t) (.ref b)) Q E s:=by
 obtain⟨⟨cls,dd,data,sl⟩,ho,hc,n,hd⟩:=id ht;obtain⟨⟨cls2,dd2,data2,sl2⟩,ho2,hc2,n2,hd2⟩:=id hb;simp only at hc hd hc2 hd2;subst hc hd hc2 hd2;have e:vs.toArray++ws.toArray=(vs++ws).toArray:=by simp
 by_cases hw:ws=[]
 ·exact concat_meets ⟨_,ho,rfl⟩ ⟨_,ho2,rfl⟩ noFill_tuple_add seq_tuple_add PySem.F.slot_tuple_add PySem.F.entry_tuple_add (PySem.F.args_tuple_add_2 _ _)
   (tuple_addW1 t b vs.toArray ws.toArray n n2 dd dd2 sl sl2 (by simpa using hv) (by simp[hw])) ⟨ho,ho2,h1 hw⟩
 ·refine concat_meets ⟨_,ho,rfl⟩ ⟨_,ho2,rfl⟩ noFill_tuple_add seq_tuple_add PySem.F.slot_tuple_add PySem.F.entry_tuple_add (PySem.F.args_tuple_add_2 _ _)
   (tuple_addW2 t b vs.toArray ws.toArray n n2 dd dd2 sl sl2 (by simpa using hv) (by simpa using hw) (by rw[List.size_toArray,List.size_toArray];exact hsz)) ⟨ho,ho2,?_⟩
  rw[e];exact h2 hw
def sIx(n d:Nat):Option Int->Nat
 | none=>d
 | some v=>if v<0 then (v+(n:Int)).toNat else min v.toNat n
theorem MN(n d:Nat)(hd:d<=n)(o:Option Int):sIx n d o<=n:=by
 cases o with
 | none=>exact hd
 | some v =>
  show(if v<0 then (v+(n:Int)).toNat else min v.toNat n)<=n
  by_cases hv:v<0
  ·rw[if_pos hv];omega
  ·rw[if_neg hv];exact Nat.min_le_right _ _
theorem K2(v:Int)(n d:Nat):(if v<0 then max (v+(n:Int)) 0 else min v (n:Int))=((sIx n d (some v):Nat):Int):=by
 show(if v<0 then max (v+(n:Int)) 0 else min v (n:Int))=(((if v<0 then (v+(n:Int)).toNat else min v.toNat n):Nat):Int)
 by_cases hv:v<0
 ·simp only[if_pos hv];omega
 ·simp only[if_neg hv];omega
theorem U3(lo hi:Option Int)(n:Nat):Builtin.Slice.sliceAdjust lo hi 1 (n:Int)=(((sIx n 0 lo:Nat):Int),((sIx n n hi:Nat):Int)):=by
 have h1:¬ ((1:Int)<0):=by omega
 unfold Builtin.Slice.sliceAdjust;simp only[h1,if_false];refine Prod.ext ?_ ?_
 ·cases lo with
  | none=>rfl
  | some v=>exact K2 v n 0
 ·cases hi with
  | none=>rfl
  | some v=>exact K2 v n n
theorem DV(i j:Nat):Builtin.Slice.slicePlaces (i:Int) (j:Int) 1=j-i:=by
 unfold Builtin.Slice.slicePlaces;have h1:(1:Int) > 0:=by omega
 simp only[h1,if_true,Int.ediv_one]
 split<;>omega
theorem L3{v:Value}{o:Option Int}{Q:Option Int->Shared->Prop}(p:IsPart v o)(h:Q o s):wpAny (model prog w) A (Builtin.Slice.slicePartIndex v) Q E s:=by
 cases p with
 | none=>exact slicePart_none h
 | int i t=>exact slicePart_int h
theorem sliceApplied_gen{sl:Addr}{vl vu:Value}{lo hi:Option Int}{n:Nat}{Q:Int×Int×Nat->Shared->Prop}(hs:s.heap.IsSliceOf sl vl vu .none)(pl:IsPart vl lo)(pu:IsPart vu hi)
  (h:Q (((sIx n 0 lo:Nat):Int),1,sIx n n hi-sIx n 0 lo) s):wpAny (model prog w) A (Builtin.Slice.sliceApplied (.ref sl) (pure (n:Int))) Q E s:=by
 obtain⟨os,hos,hcs,hds⟩:=id hs;unfold Builtin.Slice.sliceApplied Builtin.Slice.sliceFields;refine wpAny_bind (wpAny_bind (wpAny_field hos hds (x:=vl) rfl (wpAny_bind (wpAny_field hos hds (x:=vu) rfl (wpAny_bind (wpAny_field hos hds (x:=.none) rfl (wpAny_pure ?_)))))));refine wpAny_bind (slicePart_none ?_);show wpAny _ _ (if ((1:Int)==0)=true then _ else _) _ _ s
 rw[if_neg (by decide)]
 refine wpAny_bind (L3 pl (wpAny_bind (L3 pu (wpAny_bind (wpAny_pure ?_)))));show wpAny _ _ (match Builtin.Slice.sliceAdjust lo hi 1 (n:Int) with | (lo,hi)=>pure (lo,(1:Int),Builtin.Slice.slicePlaces lo hi 1)) _ _ s
 rw[U3 lo hi n];show wpAny _ _ (pure (((sIx n 0 lo:Nat):Int),(1:Int),Builtin.Slice.slicePlaces ((sIx n 0 lo:Nat):Int) ((sIx n n hi:Nat):Int) 1)) _ _ s
 rw[DV];exact wpAny_pure h
theorem UC(xs:Array Value)(i k:Nat):((List.range k).filterMap fun(m:Nat)=>xs[((i:Int)+(m:Int)*1).toNat]?).toArray=((xs.toList.drop i).take k).toArray:=by
 have e:(fun(m:Nat)=>xs[((i:Int)+(m:Int)*1).toNat]?)=fun m=>xs[i+m]?:=by
  funext m
  have:((i:Int)+(m:Int)*1).toNat=i+m:=by omega
  rw[this]
 rw[e];have:=pick_run xs i k
 rw[List.filterMap_map]at this;have e2:((fun x=>xs[x]?)∘fun x=>i+x)=fun m=>xs[i+m]?:=rfl
 rw[e2]at this;rw[this]
theorem getItem_tuple_cut{t sl:Addr}{items:Array Value}{vl vu:Value}{lo hi:Option Int}{Q:Value->Shared->Prop}(ht:IsTup s.heap t items)(hs:s.heap.IsSliceOf sl vl vu .none)(pl:IsPart vl lo)(pu:IsPart vu hi)
  (hw:¬ (sIx items.size 0 lo=0/\sIx items.size items.size hi=items.size))
  (h:Q (.ref s.heap.objs.size) {s with heap:=s.heap.push {cls:=.type "tuple",data:=.seq ((items.toList.drop (sIx items.size 0 lo)).take (sIx items.size items.size hi-sIx items.size 0 lo)).toArray}})
  (hsz:items.size<=sizeLine):wpAny (model prog w) A (getItem (.ref t) (.ref sl)) Q E s:=by
 have htake:sizeOk (.seq ((items.toList.drop (sIx items.size 0 lo)).take (sIx items.size items.size hi-sIx items.size 0 lo)).toArray):=by
  show((items.toList.drop (sIx items.size 0 lo)).take (sIx items.size items.size hi-sIx items.size 0 lo)).toArray.size<=sizeLine
  rw[List.size_toArray,List.length_take,List.length_drop,Array.length_toList];omega
 have hj:sIx items.size items.size hi<=items.size:=MN _ _ (Nat.le_refl _) hi
 obtain⟨os,hos,hcs,hds⟩:=id hs;have hTs:s.TypeIs (.ref sl) "slice":=⟨os,hos,hcs⟩
 unfold getItem
 try with_reducible refine wpAny_holding ?_
 first | refine wpAny_bind (wpAny_pure ?_) | skip
 refine wpAny_bind (wpAny_sequenceKey ht.typeIs (by decide) ?_)
 refine wpAny_bind (wpAny_callSpecial?_slot (name:=Str.ofString "__getitem__") ht.typeIs PyProof.Rows.slot_tuple_getitem
  (wpAny_call_entry PyProof.Rows.slot_tuple_getitem ht.typeIs entry_tuple_getitem ?_ (args_tuple_getitem _ _)))
 show wpAny _ _ (Builtin.Tuple.tupleItemsOf (.ref t)>>=_) _ _ s
 refine wpAny_bind (tupleItemsOf_ ht ?_);refine wpAny_bind (wpAny_typeOf hTs ?_);rw[if_pos (by decide)]
 refine wpAny_bind (sliceApplied_gen hs pl pu ?_);have hno:¬ ((((sIx items.size 0 lo:Nat):Int)==0&&(1:Int)==1&&(sIx items.size items.size hi-sIx items.size 0 lo)==items.size)=true):=by
  intro q;rw[Bool.and_eq_true,Bool.and_eq_true]at q;have q1:((sIx items.size 0 lo:Nat):Int)=0:=eq_of_beq q.1.1
  have q2:sIx items.size items.size hi-sIx items.size 0 lo=items.size:=eq_of_beq q.2
  exact hw ⟨by omega,by omega⟩
 show wpAny _ _ (if (((sIx items.size 0 lo:Nat):Int)==0&&(1:Int)==1&&(sIx items.size items.size hi-sIx items.size 0 lo)==items.size)=true then _ else _) _ _ s
 rw[if_neg hno,UC]
 first
  | exact wpAny_bind (m:=Builtin.Tuple.tupleExact _) (wpAny_newObj_type (wpAny_pure ⟨_,rfl,wpAny_pure h⟩) htake)
  | exact wpAny_bind (m:=Builtin.Tuple.tupleExact _) (wpAny_newObj_type (wpAny_bind (wpAny_pure (wpAny_pure ⟨_,rfl,wpAny_pure h⟩))) htake)
  | exact wpAny_bind (wpAny_bind (m:=Builtin.Tuple.tupleExact _) (wpAny_newObj_type (wpAny_pure (wpAny_pure ⟨_,rfl,wpAny_pure h⟩)) htake))
  | exact wpAny_bind (wpAny_bind (m:=Builtin.Tuple.tupleExact _) (wpAny_newObj_type (wpAny_pure ⟨_,rfl,wpAny_pure h⟩) htake))
end
end HT
namespace L2
open PySem PySem.Spec PyProof.Rows
abbrev TO:=St->Hp->(Option Int->Hp->Prop)->Prop
def PO(X:Cx)(e:Option Expr)(t:TO):Prop :=
 ∀ (pins:List (Addr×Obj)) (s:Shared) (σ:St) (H:Hp) (Q:Option Int->Hp->Prop),Inv X pins σ H s->t σ H Q ->
  wpAny (model X.prog X.w) X.A (evalPart e X.env) (fun u s'=>∃ o H',Inv X pins σ H' s'/\IsPart u o/\Q o H') X.xe s
def Q5:TO:=fun _ H Q=>Q none H
def NP(t:TE):TO:=fun σ H Q=>t σ H fun x H1=>∃ i,x=.int i/\Q (some i) H1
section
variable {X:Cx}{e:Expr}{te:TE}{lo hi:Option Expr}{tl th:TO}{pos p2:Pos}
theorem WX:PO X none Q5:=by
 intro pins s σ H Q I h;rw[evalPart_none];exact wpAny_pure ⟨none,H,I,.none,h⟩
theorem PZ(h:PE X e te):PO X (some e) (NP te):=by
 intro pins s σ H Q I hw;rw[evalPart_some];refine aZ (h pins s σ H _ I hw) fun u s1 ⟨x,H1,I1,r1,q1⟩=>?_;obtain⟨i,rfl,q⟩:=q1;obtain⟨t,rfl⟩:=r1;exact⟨some i,H1,I1,.int i t,q⟩
def SlR(X:Cx)(r:V->Option Int->Option Int->Hp->VK->Prop):Prop :=
 ∀ (pins:List (Addr×Obj)) (s:Shared) (σ:St) (H:Hp) (x:V) (v vl vu:Value) (lo hi:Option Int) (sl:Addr) (Q:VK),Inv X pins σ H s->RelV x v->s.heap.IsSliceOf sl vl vu .none->IsPart vl lo->IsPart vu hi->r x lo hi H Q ->
  ∃ T id,typeLookup (.type T) "__getitem__"=pure (some (.builtin id))/\s.TypeIs v T/\wpAny (model X.prog X.w) X.A (getItem v (.ref sl)) (EP X pins σ Q) X.xe s
theorem SlR.or{r r':V->Option Int->Option Int->Hp->VK->Prop}(h:SlR X r)(h':SlR X r'):SlR X (fun x lo hi H Q=>r x lo hi H Q\/r' x lo hi H Q):=by
 intro pins s σ H x v vl vu lo hi sl Q I rx hs pl pu q;rcases q with q | q
 ·exact h pins s σ H x v vl vu lo hi sl Q I rx hs pl pu q
 ·exact h' pins s σ H x v vl vu lo hi sl Q I rx hs pl pu q
def n9(r:V->Option Int->Option Int->Hp->VK->Prop)(te:TE)(tl th:TO):TE:=fun σ H Q=>te σ H fun x H1=>tl σ H1 fun l H2=>th σ H2 fun u H3=>r x l u H3 Q
theorem Rr{r:V->Option Int->Option Int->Hp->VK->Prop}(hr:SlR X r)(he:PE X e te)(hl:PO X lo tl)(hu:PO X hi th):PE X (.Subscript e (.Slice lo hi none p2) pos) (n9 r te tl th):=by
 intro pins s σ H Q I h;refine Subscript_ (aZ (he pins s σ H _ I h) fun v s1 ⟨x,H1,I1,r1,q1⟩=>?_);refine wpAny_Slice (aZ (hl pins s1 σ H1 _ I1 q1) fun vl s2 ⟨l,H2,I2,pl,q2⟩=>aZ (hu pins s2 σ H2 _ I2 q2) fun vu s3 ⟨u,H3,I3,pu,q3⟩=>?_);rw[evalPart_none];refine wpAny_pure ?_;have I4:Inv X pins σ H3 {s3 with heap:=s3.heap.push {cls:=.type "slice",data:=.fields #[vl,vu,.none]}}:=I3.kept (t':=s3.toks) fun b ob q=>Heap.get?_push_of_some _ q
 obtain⟨T,id,hT,ht,hg⟩:=hr pins {s3 with heap:=s3.heap.push {cls:=.type "slice",data:=.fields #[vl,vu,.none]}} σ H3 x v vl vu l u s3.heap.objs.size Q I4 r1 (Heap.IsSliceOf.new ..) pl pu q3;show wpAny (model X.prog X.w) X.A (subscriptTail e (.Slice lo hi none p2) v (.ref s3.heap.objs.size)) (EP X pins σ Q) X.xe {s3 with heap:=s3.heap.push {cls:=.type "slice",data:=.fields #[vl,vu,.none]}}
 exact tail_any (ops:=[.ref s3.heap.objs.size,v]) ht hT hg (by with_unfolding_all rfl)
def iD(xs:List V)(lo hi:Option Int):List V:=(xs.drop (HT.sIx xs.length 0 lo)).take (HT.sIx xs.length xs.length hi-HT.sIx xs.length 0 lo)
theorem M5(xs:List V)(lo hi:Option Int):(iD xs lo hi).length<=xs.length:=by
 unfold iD;rw[List.length_take,List.length_drop];omega
def CC(K:PySem.W.Frag):V->Option Int->Option Int->Hp->VK->Prop:=fun x lo hi H Q=>∃ a xs,x=.ref a/\SqT K H a xs /\
 ¬ (HT.sIx xs.length 0 lo=0/\HT.sIx xs.length xs.length hi=xs.length)/\∀ p,H p=none->Q (.ref p) (upd H p (.tup (iD xs lo hi)))
theorem Xi:SlR X (CC X.K):=by
 intro pins s σ H x v vl vu lo hi sl Q I rx hs pl pu h;obtain⟨a,xs,rfl,hx,hw,q⟩:=h
 cases rx
 obtain⟨its,r,ht,hz⟩:=I.tuple hx;have hlen:its.toArray.size=xs.length:=by rw[List.size_toArray];exact r.length.symm
 refine⟨"tuple",_,PyProof.Rows.slot_tuple_getitem.lookup,ht.typeIs,?_⟩;refine HT.getItem_tuple_cut ht hs pl pu (by rw[hlen];exact hw) ?_ (by rw[hlen];exact hz)
 rw[hlen];refine⟨.ref s.heap.objs.size,_,I.laid (t':=s.toks) (o:=.tup (iD xs lo hi)) (fun b ob q=>Heap.get?_push_of_some _ q) (Nat.le_refl _) ?_,rfl,q _ (I.hok.fresh (Nat.le_refl _))⟩;exact⟨⟨Nat.le_trans (M5 xs lo hi) hz,NoD.new _ _ _⟩,_,(r.drop (HT.sIx xs.length 0 lo)).take (HT.sIx xs.length xs.length hi-HT.sIx xs.length 0 lo),IsTup.new _ _⟩
def GW(K:PySem.W.Frag):R2:=fun x y H Q=>∃ a b xs ys,x=.ref a/\y=.ref b/\SqT K H a xs/\SqT K H b ys/\xs≠[]/\xs.length+ys.length<=sizeLine /\
 (ys=[]->Q (.ref a) H)/\(ys≠[]->∀ p,H p=none->Q (.ref p) (upd H p (.tup (xs++ys))))
theorem Vals.nil_iff{xs:List V}{us:List Value}(r:Vals xs us):us=[]↔xs=[]:=by
 cases r with
 | nil=>simp
 | cons _ _=>simp
theorem W4:OpR X (binaryOp .Add) (GW X.K):=by
 intro pins s σ H x y v u Q I rx ry h;obtain⟨a,b,xs,ys,rfl,rfl,ha,hb,hx,hz,q1,q2⟩:=h
 cases rx
 cases ry
 obtain⟨its,r1,p1,_⟩:=I.tuple ha;obtain⟨its2,r2,p2,_⟩:=I.tuple hb;refine HT.cat_tup p1 p2 (fun z=>hx (r1.nil_iff.mp z)) (fun z=>⟨.ref a,H,I,rfl,q1 (r2.nil_iff.mp z)⟩) (fun z=>?_) (by rw[<- r1.length,<- r2.length];exact hz)
 refine⟨.ref s.heap.objs.size,_,I.laid (t':=s.toks) (o:=.tup (xs++ys)) (fun b ob q=>Heap.get?_push_of_some _ q) (Nat.le_refl _) ?_,rfl,q2 (fun w=>z (r2.nil_iff.mpr w)) _ (I.hok.fresh (Nat.le_refl _))⟩;exact⟨⟨by rw[List.length_append];exact hz,NoD.new _ _ _⟩,_,r1.append r2,IsTup.new _ _⟩
end
def fG(n:Nat)(i:Int):Option Nat:=if 0<=i then (if i<n then some i.toNat else none) else if -(n:Int)<=i then some (i+n).toNat else none
def cA{α:Type}(xs:List α)(i:Int):Option α:=(fG xs.length i).bind fun j=>xs[j]?
theorem F2{n:Nat}{i:Int}{j:Nat}(h:fG n i=some j):seqIndex? i n=some j/\j<n/\-(n:Int)<=i/\i<n:=by
 unfold fG at h
 by_cases h0:0<=i
 ·rw[if_pos h0]at h
  by_cases h1:i<n
  ·rw[if_pos h1]at h;have e:i.toNat=j:=Option.some.inj h
   exact⟨by rw[seqIndex_of h0 h1,e],by omega,by omega,h1⟩
  ·rw[if_neg h1]at h;cases h
 ·rw[if_neg h0]at h
  by_cases h1:-(n:Int)<=i
  ·rw[if_pos h1]at h;have e:(i+n).toNat=j:=Option.some.inj h
   exact⟨by rw[seqIndex_neg (by omega) h1,e],by omega,h1,by omega⟩
  ·rw[if_neg h1]at h;cases h
theorem Ms{α:Type}{xs:List α}{i:Int}{v:α}(h:cA xs i=some v):∃ j,seqIndex? i xs.length=some j/\xs[j]?=some v/\j<xs.length/\-(xs.length:Int)<=i/\i<xs.length:=by
 unfold cA at h
 cases e:fG xs.length i with
 | none=>rw[e]at h;cases h
 | some j =>
  rw[e]at h;obtain⟨h1,h2,h3,h4⟩:=F2 e;exact⟨j,h1,h,h2,h3,h4⟩
theorem iF{α:Type}{xs:List α}{j:Nat}{v:α}(h:xs[j]?=some v):cA xs (j:Int)=some v:=by
 have hj:j<xs.length:=(List.getElem?_eq_some_iff.mp h).1
 have e:fG xs.length (j:Int)=some j:=by
  unfold fG;rw[if_pos (by omega),if_pos (by omega)];simp
 unfold cA;rw[e];exact h
def Qx(b:Expr):Prop:=∀ o i,subscripted b false o i=operate [o,i] (getItem o i)
def IxR(X:Cx)(r:R2):Prop :=
 ∀ (value slice:Expr) (pins:List (Addr×Obj)) (s:Shared) (σ:St) (H:Hp) (x y:V) (v u:Value) (Q:VK),Inv X pins σ H s->RelV x v->RelV y u->r x y H Q ->
  subscripted slice false v u=operate [v,u] (getItem v u)->wpAny (model X.prog X.w) X.A (subscriptTail value slice v u) (EP X pins σ Q) X.xe s
def MtR(X:Cx)(id:String)(r:V->List V->Hp->VK->Prop):Prop :=
 ∀ (pins:List (Addr×Obj)) (s:Shared) (σ:St) (H:Hp) (x:V) (xs:List V) (v:Value) (us:List Value) (Q:VK),Inv X pins σ H s->RelV x v->Vals xs us->r x xs H Q ->
  wpAny (model X.prog X.w) X.A (call (.builtin id) (v::us)) (EP X pins σ Q) X.xe s
section
variable {X:Cx}{a b:Expr}{ta tb:TE}{pos:Pos}
theorem IxR.or{r r':R2}(h:IxR X r)(h':IxR X r'):IxR X (fun x y H Q=>r x y H Q\/r' x y H Q):=by
 intro value slice pins s σ H x y v u Q I rx ry q hs;rcases q with q | q
 ·exact h value slice pins s σ H x y v u Q I rx ry q hs
 ·exact h' value slice pins s σ H x y v u Q I rx ry q hs
theorem MtR.or{id:String}{r r':V->List V->Hp->VK->Prop}(h:MtR X id r)(h':MtR X id r'):MtR X id (fun x xs H Q=>r x xs H Q\/r' x xs H Q):=by
 intro pins s σ H x xs v us Q I rx rs q;rcases q with q | q
 ·exact h pins s σ H x xs v us Q I rx rs q
 ·exact h' pins s σ H x xs v us Q I rx rs q
theorem CH{r:R2}(hr:IxR X r)(ha:PE X a ta)(hb:PE X b tb)(hs:Qx b):PE X (.Subscript a b pos) (KN r ta tb):=by
 intro pins s σ H Q I h;exact Subscript_ (Xg ha hb I h fun v u s2 x y H2 I2 rx ry q=>hr a b pins s2 σ H2 x y v u Q I2 rx ry q (hs _ _))
def F4(K:PySem.W.Frag):R2:=fun x y H Q=>∃ p xs i v,x=.ref p/\y=.int i/\SqL K H p xs/\cA xs i=some v/\Q v H
def L0(K:PySem.W.Frag):R2:=fun x y H Q=>∃ p xs i v,x=.ref p/\y=.int i/\SqT K H p xs/\cA xs i=some v/\Q v H
def Vg:R2:=fun x y H Q=>∃ z i c,x=.str z/\y=.int i/\z.length<=sizeLine/\cA z.cps.toList i=some c/\Q (.str ⟨#[c]⟩) H
theorem CF:IxR X (F4 X.K):=by
 intro value slice pins s σ H x y v u Q I rx ry h hs;obtain⟨p,xs,i,z,rfl,rfl,hq,he,q⟩:=h
 cases rx
 obtain⟨t,rfl⟩:=ry;obtain⟨its,r,pl,hz⟩:=I.list hq;obtain⟨j,h1,h2,h3,h4,h5⟩:=Ms he;obtain⟨w,ew,rw'⟩:=r.get h2;have hl:=r.length
 have hn:=mV
 have fin:EP X pins σ Q w s:=⟨z,H,I,rw',q⟩
 by_cases h0:0<=i
 ·have hj:i.toNat=j:=by
   rw[seqIndex_of h0 h5]at h1;exact Option.some.inj h1
  exact item_listR pl.isList h0 (by omega) (by rw[hj];simpa using ew) fin hs
 ·have hj:(i+(its.toArray.size:Int)).toNat=j:=by
   rw[seqIndex_neg (by omega) h4]at h1
   rw[List.size_toArray,<- hl];exact Option.some.inj h1
  exact subscriptTail_builtinR (x:=w) pl.isList.typeIs slot_list_getitem.lookup
   (wpAny_getItem_list_neg (Q:=fun r s'=>r=w/\EP X pins σ Q r s') pl.isList (by omega) (by rw[List.size_toArray]<;>omega) (by omega) (by rw[hj];simpa using ew) ⟨rfl,fin⟩) hs
theorem AX:IxR X (L0 X.K):=by
 intro value slice pins s σ H x y v u Q I rx ry h hs;obtain⟨p,xs,i,z,rfl,rfl,hq,he,q⟩:=h
 cases rx
 obtain⟨t,rfl⟩:=ry;obtain⟨its,r,pl,hz⟩:=I.tuple hq;obtain⟨j,h1,h2,h3,h4,h5⟩:=Ms he;obtain⟨w,ew,rw'⟩:=r.get h2;have hl:=r.length
 have hn:=mV
 have fin:EP X pins σ Q w s:=⟨z,H,I,rw',q⟩
 exact subscriptTail_builtinR (x:=w) pl.typeIs slot_tuple_getitem.lookup
  (getItem_tuple (j:=j) (Q:=fun r s'=>r=w/\EP X pins σ Q r s') pl (by omega) (by omega) (by rw[List.size_toArray,<- hl];exact h1) (by simpa using ew) ⟨rfl,fin⟩) hs
theorem P1:IxR X Vg:=by
 intro value slice pins s σ H x y v u Q I rx ry h hs;obtain⟨z,i,c,rfl,rfl,hz,he,q⟩:=h;obtain⟨t,rfl⟩:=rx;obtain⟨t',rfl⟩:=ry;obtain⟨j,h1,h2,h3,h4,h5⟩:=Ms he;have hl:z.cps.toList.length=z.length:=by simp[Str.length]
 rw[hl]at h1 h4 h5;have hn:=mV
 exact tail_any (typeIs_str s z t) slot_str_getitem.lookup (getItem_str (c:=c) (by
  have e1:decide (i < -(2^63:Int))=false:=decide_eq_false (by omega)
  have e2:decide (i ≥ 2^63)=false:=decide_eq_false (by omega)
  rw[e1,e2,Bool.or_false]) (by rw[h1];simpa using h2) ⟨.str ⟨#[c]⟩,H,I.tok _,⟨_,rfl⟩,q⟩) hs
def ML(K:PySem.W.Frag):R2:=fun x y H Q=>F4 K x y H Q\/L0 K x y H Q\/Vg x y H Q
theorem Z5:IxR X (ML X.K):=CF.or (AX.or P1)
theorem TJ(its:List Value)(n j:Nat)(u:Value):Obj.mapSeq (·.setIfInBounds j u) {cls:=.type "list",data:=.seq its.toArray n}={cls:=.type "list",data:=.seq (its.set j u).toArray n}:=by
 simp[Obj.mapSeq]
theorem Inv.lst{pins:List (Addr×Obj)}{σ:St}{H:Hp}{s:Shared}{p:Addr}{xs:List V}(I:Inv X pins σ H s)(h:H p=some (.lst xs)) :
  ∃ (its:List Value) (n:Nat),Vals xs its/\s.heap.get? p=some {cls:=.type "list",data:=.seq its.toArray n}/\xs.length<=sizeLine:=by
 obtain⟨z,its,n,r,e⟩:=I.hok p _ h;exact⟨its,n,r,e,z⟩
theorem Inv.lstUpd{pins:List (Addr×Obj)}{σ:St}{H:Hp}{s:Shared}{p:Addr}{xs ys:List V}{its its':List Value}{n n':Nat}{f:Obj->Obj}(I:Inv X pins σ H s)(h:H p=some (.lst xs))
  (ho:s.heap.get? p=some {cls:=.type "list",data:=.seq its.toArray n}) (hf:f {cls:=.type "list",data:=.seq its.toArray n}={cls:=.type "list",data:=.seq its'.toArray n'}) (r:Vals ys its') (hz:ys.length<=sizeLine) (t:Nat) :
  Inv X pins σ (upd H p (.lst ys)) {s with heap:=s.heap.update p f,toks:=t}:=by
 have e:(s.heap.update p f).get? p=some {cls:=.type "list",data:=.seq its'.toArray n'}:=by
  rw[Heap.get?_update_self f ho (by rw[hf]<;>rfl),hf]
 refine I.write (x:=p) (e:=p) (by rw[h];trivial) (.inl rfl) (fun b u hb q=>(Heap.get?_update_other _ _ (Ne.symm hb)).trans q) ⟨_,e⟩ ?_
 exact⟨hz,its',n',r,e⟩
def t4:V->V->V->Hp->(Hp->Prop)->Prop:=fun o i v H Q=>∃ p xs k j,o=.ref p/\i=.int k/\H p=some (.lst xs)/\fG xs.length k=some j/\Q (upd H p (.lst (xs.set j v)))
theorem BW:Zm X t4:=by
 intro pins s σ H o i v ov iv u Q I ro ri rv h;obtain⟨p,xs,k,j,rfl,rfl,hp,hj,q⟩:=h
 cases ro
 obtain⟨t,rfl⟩:=ri;obtain⟨its,n,r,ho,hz⟩:=I.lst hp;obtain⟨h1,h2,h3,h4⟩:=F2 hj;have hl:=r.length
 have hn:=mV
 have I':Inv X pins σ (upd H p (.lst (xs.set j v))) {s with heap:=s.heap.update p (Obj.mapSeq (·.setIfInBounds j u))} :=
  I.lstUpd hp ho (TJ its n j u) (r.set rv j) (by rw[List.length_set];exact hz) s.toks
 by_cases h0:0<=k
 ·have hk:k.toNat=j:=by
   rw[seqIndex_of h0 h4]at h1;exact Option.some.inj h1
  exact PySem.W.ki_setAt ho h0 (by omega) (by rw[List.size_toArray,<- hl];exact h4) (by rw[hk];exact⟨_,I',q⟩)
 ·have hk:(k+(its.toArray.size:Int)).toNat=j:=by
   rw[seqIndex_neg (by omega) h3]at h1
   rw[List.size_toArray,<- hl];exact Option.some.inj h1
  exact PySem.W.ki_setBack ho (by omega) (by rw[List.size_toArray,<- hl];exact h3) (by omega) (by rw[hk];exact⟨_,I',q⟩)
theorem TR(lo hi:Option Int)(n:Nat):(sliceBounds lo hi none n).1=((HT.sIx n 0 lo:Nat):Int)/\(sliceBounds lo hi none n).2.1=((HT.sIx n n hi:Nat):Int)/\(sliceBounds lo hi none n).2.2=1:=by
 refine⟨?_,?_,rfl⟩
 ·cases lo with
  | none=>simp[sliceBounds,HT.sIx]
  | some i =>
   simp only[sliceBounds,HT.sIx,Option.getD_none,show(1:Int) > 0 by decide,if_true]
   by_cases h:i<0
   ·simp only[h,if_true]<;>omega
   ·simp only[h,if_false]<;>omega
 ·cases hi with
  | none=>simp[sliceBounds,HT.sIx]
  | some i =>
   simp only[sliceBounds,HT.sIx,Option.getD_none,show(1:Int) > 0 by decide,if_true]
   by_cases h:i<0
   ·simp only[h,if_true]<;>omega
   ·simp only[h,if_false]<;>omega
theorem V3(its:List Value)(lo hi:Option Int):slicePick its.toArray lo hi none=((its.drop (HT.sIx its.length 0 lo)).take (HT.sIx its.length its.length hi-HT.sIx its.length 0 lo)).toArray:=by
 obtain⟨h1,h2,h3⟩:=TR lo hi its.toArray.size;unfold slicePick;rw[h1,h2,h3];simp only[sliceRange_one,pick_run,List.size_toArray]<;>rfl
def IP(K:PySem.W.Frag):V->Option Int->Option Int->Hp->VK->Prop:=fun x lo hi H Q=>∃ a xs,x=.ref a/\SqL K H a xs/\∀ p,H p=none->Q (.ref p) (upd H p (.lst (iD xs lo hi)))
theorem M6:SlR X (IP X.K):=by
 intro pins s σ H x v vl vu lo hi sl Q I rx hs pl pu h;obtain⟨a,xs,rfl,hx,q⟩:=h
 cases rx
 obtain⟨its,r,ht,hz⟩:=I.list hx;have hlen:=r.length
 refine⟨"list",_,slot_list_getitem.lookup,ht.isList.typeIs,?_⟩;refine wpAny_getItem_list_slice ht.isList hs pl pu .none (by simp) ?_ (by rw[List.size_toArray]<;>omega)
 rw[V3,<- hlen];refine⟨.ref s.heap.objs.size,_,I.laid (t':=s.toks) (o:=.lst (iD xs lo hi)) (fun b ob q=>Heap.get?_push_of_some _ q) (Nat.le_refl _) ?_,rfl,q _ (I.hok.fresh (Nat.le_refl _))⟩;exact⟨Nat.le_trans (M5 xs lo hi) hz,_,0,(r.drop (HT.sIx xs.length 0 lo)).take (HT.sIx xs.length xs.length hi-HT.sIx xs.length 0 lo),Heap.get?_push_size _ rfl⟩
def iL:V->Bool
 | .non=>true
 | .bl _=>true
 | .int _=>true
 | .str _=>true
 | _=>false
def nJ:V->V->Bool
 | .non,.non=>true
 | .bl a,.bl b=>a==b
 | .bl a,.int b=>(if a then 1 else 0)==b
 | .int a,.bl b=>a==(if b then 1 else 0)
 | .int a,.int b=>a==b
 | .str a,.str b=>a==b
 | _,_=>false
theorem DH{A:Around}{s:Shared}{y x:V}{u v:Value}(ry:RelV y u)(rx:RelV x v)(fy:iL y=true)(fx:iL x=true):SeqAt.EqAt A s u v (nJ y x):=by
 cases y with
 | non =>
  cases ry
  cases x with
  | non=>cases rx;exact SeqAt.EqAt.same _
  | bl b=>cases rx;exact SeqAt.EqAt.none_bool b
  | int b=>obtain⟨t,rfl⟩:=rx;exact SeqAt.EqAt.none_int b t
  | str b=>obtain⟨t,rfl⟩:=rx;exact SeqAt.EqAt.none_str b t
  | _=>exact absurd (show false=true from fx) Bool.false_ne_true
 | bl a =>
  cases ry
  cases x with
  | non=>cases rx;exact SeqAt.EqAt.bool_none a
  | bl b=>cases rx;exact SeqAt.EqAt.bool_bool a b
  | int b=>obtain⟨t,rfl⟩:=rx;exact SeqAt.EqAt.bool_int a b t
  | str b=>obtain⟨t,rfl⟩:=rx;exact SeqAt.EqAt.bool_str a b t
  | _=>exact absurd (show false=true from fx) Bool.false_ne_true
 | int a =>
  obtain⟨t',rfl⟩:=ry
  cases x with
  | non=>cases rx;exact SeqAt.EqAt.int_none a t'
  | bl b=>cases rx;exact SeqAt.EqAt.int_bool a t' b
  | int b=>obtain⟨t,rfl⟩:=rx;exact SeqAt.EqAt.int_int a t' b t
  | str b=>obtain⟨t,rfl⟩:=rx;exact SeqAt.EqAt.int_str a t' b t
  | _=>exact absurd (show false=true from fx) Bool.false_ne_true
 | str a =>
  obtain⟨t',rfl⟩:=ry
  cases x with
  | non=>cases rx;exact SeqAt.EqAt.str_none a t'
  | bl b=>cases rx;exact SeqAt.EqAt.str_bool a t' b
  | int b=>obtain⟨t,rfl⟩:=rx;exact SeqAt.EqAt.str_int a t' b t
  | str b=>obtain⟨t,rfl⟩:=rx;exact SeqAt.EqAt.str_str a t' b t
  | _=>exact absurd (show false=true from fx) Bool.false_ne_true
 | _=>exact absurd (show false=true from fy) Bool.false_ne_true
def fD(x:V)(u:Value):Bool:=match u with
 | .none=>nJ .non x
 | .bool b=>nJ (.bl b) x
 | .int i _=>nJ (.int i) x
 | .str z _=>nJ (.str z) x
 | _=>false
theorem Wk{x y:V}{u:Value}(r:RelV y u)(f:iL y=true):fD x u=nJ y x:=by
 cases y with
 | non=>cases r;rfl
 | bl b=>cases r;rfl
 | int i=>obtain⟨t,rfl⟩:=r;rfl
 | str z=>obtain⟨t,rfl⟩:=r;rfl
 | _=>exact absurd (show false=true from f) Bool.false_ne_true
theorem yI{x:V}:∀ {xs:List V} {us:List Value},Vals xs us->xs.all iL=true->us.any (fD x)=xs.any fun y=>nJ y x
 | _,_,.nil,_=>rfl
 | y::xs,u::us,.cons r t,f=>by
  rw[List.all_cons,Bool.and_eq_true]at f;rw[List.any_cons,List.any_cons,Wk r f.1,yI t f.2]
theorem pH{A:Around}{s:Shared}{x:V}{v:Value}(rx:RelV x v)(fx:iL x=true):∀ {xs:List V} {us:List Value},Vals xs us->xs.all iL=true->∀ u∈us,SeqAt.EqAt A s u v (fD x u)
 | _,_,.nil,_=>fun u hu=>by cases hu
 | y::xs,u::us,.cons r t,f=>fun u' hu=>by
  rw[List.all_cons,Bool.and_eq_true]at f;rcases List.mem_cons.mp hu with rfl | hu
  ·rw[Wk r f.1];exact DH r rx f.1 fx
  ·exact pH rx fx t f.2 u' hu
def mR(x:V)(xs:List V):Bool:=xs.any fun y=>nJ y x
def B1(K:PySem.W.Frag)(neg:Bool):R2:=fun x y H Q=>∃ p xs,y=.ref p/\(SqL K H p xs\/SqT K H p xs)/\iL x=true/\xs.all iL=true/\Q (.bl (if neg then !mR x xs else mR x xs)) H
theorem xI:OpR X (compareOp .In) (B1 X.K false):=by
 intro pins s σ H x y v u Q I rx ry h;obtain⟨p,xs,rfl,hq,fx,fs,q⟩:=h
 cases ry
 rcases hq with hq | hq
 ·obtain⟨its,r,pl,hz⟩:=I.list hq;refine SeqAt.in_listAt (fD x) pl.isList (fun w hw=>pH rx fx r fs w (by simpa using hw)) ⟨.bl _,H,I,rfl,?_⟩
  rw[show its.toArray.any (fD x)=its.any (fD x) by simp,yI r fs]
  exact q
 ·obtain⟨its,r,pl,hz⟩:=I.tuple hq;refine SeqAt.in_tupleAt (fD x) pl (fun w hw=>pH rx fx r fs w (by simpa using hw)) ⟨.bl _,H,I,rfl,?_⟩
  rw[show its.toArray.any (fD x)=its.any (fD x) by simp,yI r fs]
  exact q
theorem uW:OpR X (compareOp .NotIn) (B1 X.K true):=by
 intro pins s σ H x y v u Q I rx ry h;obtain⟨p,xs,rfl,hq,fx,fs,q⟩:=h
 cases ry
 rcases hq with hq | hq
 ·obtain⟨its,r,pl,hz⟩:=I.list hq;refine SeqAt.notIn_listAt (fD x) pl.isList (fun w hw=>pH rx fx r fs w (by simpa using hw)) ⟨.bl _,H,I,rfl,?_⟩
  rw[show its.toArray.any (fD x)=its.any (fD x) by simp,yI r fs]
  exact q
 ·obtain⟨its,r,pl,hz⟩:=I.tuple hq;refine SeqAt.notIn_tupleAt (fD x) pl (fun w hw=>pH rx fx r fs w (by simpa using hw)) ⟨.bl _,H,I,rfl,?_⟩
  rw[show its.toArray.any (fD x)=its.any (fD x) by simp,yI r fs]
  exact q
theorem Il:CallR X (.builtin "len") (fun xs H Q=>∃ p ys,xs=[.ref p]/\(SqL X.K H p ys\/SqT X.K H p ys)/\Q (.int ys.length) H):=by
 intro pins s σ H xs us Q I r h;obtain⟨p,ys,rfl,hq,q⟩:=h;obtain⟨u,rfl,rx⟩:=fS r
 cases rx
 have hn:=mV
 rcases hq with hq | hq
 ·obtain⟨its,r',pl,hz⟩:=I.list hq;have hlen:=r'.length
  exact Calls.call_len_list pl.isList (by simp only[List.size_toArray]<;>omega) ⟨.int ys.length,H,I.tok _,⟨s.toks+1,by rw[List.size_toArray,hlen]⟩,q⟩
 ·obtain⟨its,r',pl,hz⟩:=I.tuple hq;have hlen:=r'.length
  exact len_tuple pl (by simp only[List.size_toArray]<;>omega) ⟨.int ys.length,H,I.tok _,⟨s.toks+1,by rw[List.size_toArray,hlen]⟩,q⟩
theorem BY:CallR X (.builtin "len") (fun xs H Q=>∃ z,xs=[.str z]/\z.length<=sizeLine/\Q (.int z.length) H):=by
 intro pins s σ H xs us Q I r h;obtain⟨z,rfl,hz,q⟩:=h;obtain⟨u,rfl,t,rfl⟩:=fS r;have hn:=mV
 exact len_str (by omega) ⟨.int z.length,H,I.tok _,⟨_,rfl⟩,q⟩
theorem CallR.or{f:Value}{r r':List V->Hp->VK->Prop}(h:CallR X f r)(h':CallR X f r'):CallR X f (fun xs H Q=>r xs H Q\/r' xs H Q):=by
 intro pins s σ H xs us Q I rs q;rcases q with q | q
 ·exact h pins s σ H xs us Q I rs q
 ·exact h' pins s σ H xs us Q I rs q
theorem Xm:CallR X (.type "list") (fun xs H Q=>∃ p ys,xs=[.ref p]/\(SqL X.K H p ys\/SqT X.K H p ys)/\∀ l,H l=none->Q (.ref l) (upd H l (.lst ys))):=by
 intro pins s σ H xs us Q I r h;obtain⟨p,ys,rfl,hq,q⟩:=h;obtain⟨u,rfl,rx⟩:=fS r
 cases rx
 have fin:∀ (its:List Value),Vals ys its->ys.length<=sizeLine->∀ (h':Heap) (c':Nat),(∀ b o',s.heap.get? b=some o'->h'.get? b=some o') ->
   h'.get? s.heap.objs.size=some {cls:=.type "list",dict:=none,data:=.seq its.toArray c',slots:=#[]}->EP X pins σ Q (.ref s.heap.objs.size) {s with heap:=h'}:=fun its r' hz h' c' kp e =>
  ⟨.ref s.heap.objs.size,_,I.laid (t':=s.toks) kp (Nat.le_refl _) (show ObjOk X.prog X.w _ h' _ (.lst ys) from⟨hz,its,c',r',e⟩),rfl,q _ (I.hok.fresh (Nat.le_refl _))⟩
 rcases hq with hq | hq
 ·obtain⟨its,r',pl,hz⟩:=I.list hq;have hlen:=r'.length
  obtain⟨o,ho,hc,n,hd⟩:=pl.isList;exact call_list_seq p (.inl rfl) ho hc hd (fun h' c' kp e=>fin its r' hz h' c' kp e) (by simp only[List.size_toArray]<;>omega)
 ·obtain⟨its,r',pl,hz⟩:=I.tuple hq;have hlen:=r'.length
  obtain⟨o,ho,hc,n,hd⟩:=pl;exact call_list_seq p (.inr rfl) ho hc hd (fun h' c' kp e=>fin its r' hz h' c' kp e) (by simp only[List.size_toArray]<;>omega)
theorem Kl:CallR X (.type "tuple") (fun xs H Q=>∃ p ys,xs=[.ref p]/\((SqL X.K H p ys/\∀ l,H l=none->Q (.ref l) (upd H l (.tup ys)))\/(SqT X.K H p ys/\Q (.ref p) H))):=by
 intro pins s σ H xs us Q I r h;obtain⟨p,ys,rfl,h⟩:=h;obtain⟨u,rfl,rx⟩:=fS r
 cases rx
 rcases h with⟨hq,q⟩ | ⟨hq,q⟩
 ·obtain⟨its,r',pl,hz⟩:=I.list hq;have hlen:=r'.length
  refine call_tuple_list pl.isList (fun h' kp=>?_) (by simp only[List.size_toArray]<;>omega)
  have I1:Inv X pins σ H {s with heap:=h'}:=I.kept (t':=s.toks) kp
  have I2:Inv X pins σ (upd H h'.objs.size (.tup ys)) {s with heap:=h'.push {cls:=.type "tuple",data:=.seq its.toArray}} :=
   I1.laid (t':=s.toks) (fun b o e=>Heap.get?_push_of_some _ e) (Nat.le_refl _) (show ObjOk X.prog X.w _ _ _ (.tup ys) from⟨⟨hz,NoD.new _ _ _⟩,its,r',IsTup.new _ _⟩)
  exact⟨.ref h'.objs.size,_,I2,rfl,q _ (I1.hok.fresh (Nat.le_refl _))⟩
 ·obtain⟨its,r',pl,hz⟩:=I.tuple hq;exact call_tuple_same pl ⟨.ref p,H,I,rfl,q⟩
def Vd(K:PySem.W.Frag)(T:String)(x:V)(H:Hp):Prop:=match x with
 | .str _=>T="str"
 | .int _=>T="int"
 | .ref p=>(T="list"/\∃ xs,SqL K H p xs)\/(T="tuple"/\∃ o,K.lookup p=some o/\o.cls=.type "tuple"/\o.dict=none) \/
   (T="dict"/\((∃ kvs,H p=some (.dK kvs))\/∃ kvs,H p=some (.dT kvs)))\/(T="set"/\∃ S n,H p=some (.set S n))
 | _=>False
theorem y4{pins:List (Addr×Obj)}{σ:St}{H:Hp}{s:Shared}{T:String}{x:V}{v:Value}(I:Inv X pins σ H s)(r:RelV x v)(ty:Vd X.K T x H) :
  s.TypeIs v T/\∀ a,v=.ref a->∃ ob,s.heap.get? a=some ob/\ob.dict=none:=by
 cases x with
 | str z =>
  obtain⟨t,rfl⟩:=r
  cases (show T="str" from ty)
  exact⟨typeIs_str s z t,fun _ e=>nomatch e⟩
 | int i =>
  obtain⟨t,rfl⟩:=r
  cases (show T="int" from ty)
  exact⟨typeIs_int s i t,fun _ e=>nomatch e⟩
 | ref p =>
  cases r
  rcases ty with⟨rfl,xs,hq⟩ | ⟨rfl,o,hk,hc,hd⟩ | ⟨rfl,hk⟩ | ⟨rfl,S,n,hk⟩
  ·obtain⟨its,_,pl,_⟩:=I.list hq;refine⟨pl.isList.typeIs,fun a e=>?_⟩
   cases e
   obtain⟨o,n,e,c,hd,_⟩:=pl;exact⟨o,e,hd⟩
  ·refine⟨⟨o,I.kIn p o hk,hc⟩,fun a e=>?_⟩
   cases e
   exact⟨o,I.kIn _ o hk,hd⟩
  ·have z:∃ o,s.heap.get? p=some o/\o.ExactDict:=by
    rcases hk with⟨kvs,hk⟩ | ⟨kvs,hk⟩
    ·obtain⟨_,_,_,_,o,_,_,e,ex,_⟩:=I.hok p _ hk;exact⟨o,e,ex⟩
    ·obtain⟨_,_,_,_,o,_,_,e,ex,_⟩:=I.hok p _ hk;exact⟨o,e,ex⟩
   obtain⟨o,e,ex⟩:=z;refine⟨⟨o,e,ex.1⟩,fun a e2=>?_⟩
   cases e2
   exact⟨o,e,ex.2.1⟩
  ·obtain⟨o,_,_,_,e,ex,_⟩:=I.hok p _ hk;refine⟨⟨o,e,ex.1⟩,fun a e2=>?_⟩
   cases e2
   exact⟨o,e,ex.2.1⟩
 | _=>exact False.elim ty
def EB(K:PySem.W.Frag)(T:String)(r:V->List V->Hp->VK->Prop)(to:TE)(t:TA):TE:=fun σ H Q=>to σ H fun x H1=>Vd K T x H1/\t σ H1 fun xs H2=>r x xs H2 Q
variable {o e:Expr}{es:List Expr}{to:TE}{t:TA}{name:Str}{apos cpos:Pos}{T id:String}{r:V->List V->Hp->VK->Prop}
theorem Yo(pa:PlainAttrs T)(slot:Slot T name id)(hty:typeOf (.builtin id)=pure (.type "method_descriptor"))(hm:MtR X id r)(ho:PE X o to)(ha:PA X (e::es) t)
  (hbase:attributeBase o name X.env (eval o X.env)=eval o X.env:=by rfl)
  (hfew:((backTo cpos (starEach (e::es) X.env)).all (fun x=>!x.1)&&(backToKw cpos (keywordEach [] X.env)).all (fun x=>x.1.isSome)
   && decide ((e::es).length+([]:List Keyword).length+(if ([]:List Keyword).isEmpty then 0 else 1)<30))=true:=by rfl)
  (hline:(apos.endLine==cpos.line)=true:=by rfl) (hs:starEach (e::es) X.env=(false,eval e X.env)::starEach es X.env:=by rfl) (hplain:(backTo cpos (starEach es X.env)).any (·.1)=false:=by rfl) :
  PE X (.Call (.Attribute o name apos) (e::es) [] cpos) (EB X.K T r to t):=by
 intro pins s σ H Q I h;refine wpAny_Call_method_late hbase hfew hline rfl (aZ (ho pins s σ H _ I h) fun v s1 ⟨x,H1,I1,r1,ty,q1⟩=>?_);obtain⟨h1,h2⟩:=y4 I1 r1 ty;refine⟨T,id,pa,slot,hty,h1,h2,?_⟩;have hA:=ha cpos pins s1 σ H1 _ I1 q1
 rw[hs]at hA ⊢;refine Calls.callWith_builtin (by show(false||(backTo cpos (starEach es X.env)).any (·.1))=false;rw[hplain]<;>rfl) (Calls.evalArgs_plain ?_)
 exact aZ hA fun us s2 ⟨vs,H2,I2,r2,q2⟩=>hm pins s2 σ H2 x vs v us Q I2 r1 r2 q2
end
def R1(X:Cx)(id:String)(r:V->List V->Hp->VK->Prop):Prop :=
 ∀ (pins:List (Addr×Obj)) (s:Shared) (σ:St) (H:Hp) (x:V) (xs:List V) (v:Value) (us:List Value) (Q:VK),Inv X pins σ H s->RelV x v->Vals xs us->r x xs H Q ->
  wpAny (model X.prog X.w) X.A (call (.builtin id) (v::us)) (EP X pins σ Q) X.xe s
theorem Vals.one:∀ {x:V} {us:List Value},Vals [x] us->∃ u,us=[u]/\RelV x u
 | _,_,.cons r .nil=>⟨_,rfl,r⟩
theorem Vals.two:∀ {x y:V} {us:List Value},Vals [x,y] us->∃ u v,us=[u,v]/\RelV x u/\RelV y v
 | _,_,_,.cons r (.cons q .nil)=>⟨_,_,rfl,r,q⟩
theorem Vals.zero:∀ {us:List Value},Vals [] us->us=[]
 | _,.nil=>rfl
theorem Vals.eraseIdx:∀ {xs:List V} {us:List Value} (i:Nat),Vals xs us->Vals (xs.eraseIdx i) (us.eraseIdx i)
 | _,_,_,.nil=>.nil
 | _,_,0,.cons _ t=>t
 | _,_,i+1,.cons r t=>.cons r (Vals.eraseIdx i t)
theorem Vals.reverse{xs:List V}{us:List Value}(h:Vals xs us):Vals xs.reverse us.reverse:=by
 induction h with
 | nil=>exact .nil
 | cons r t ih=>rw[List.reverse_cons,List.reverse_cons];exact Vals.append ih (.cons r .nil)
theorem Vals.rep{xs:List V}{us:List Value}(h:Vals xs us):∀ k:Nat,Vals (List.replicate k xs).flatten (List.replicate k us).flatten
 | 0=>.nil
 | k+1=>by
  rw[List.replicate_succ,List.replicate_succ,List.flatten_cons,List.flatten_cons];exact Vals.append h (Vals.rep h k)
section
variable {X:Cx}{pins:List (Addr×Obj)}{σ:St}{H:Hp}{s:Shared}{l b:Addr}{xs ys zs:List V}
theorem Inv.lset{its its':List Value}{n:Nat}{f:Array Value->Array Value}{t':Nat}(I:Inv X pins σ H s)(hH:H l=some (.lst xs))
  (e:s.heap.get? l=some {cls:=.type "list",data:=.seq its.toArray n}) (hf:f its.toArray=its'.toArray) (hv:Vals ys its') (hz:ys.length<=sizeLine) :
  Inv X pins σ (upd H l (.lst ys)) {s with heap:=s.heap.update l (Obj.mapSeq f),toks:=t'}:=by
 have q:=PySem.IsL.update e f
 rw[hf]at q;refine I.write (x:=l) (e:=l) (by rw[hH];exact trivial) (.inl rfl) (fun b' u hb hu=>(Heap.get?_update_other s.heap (Obj.mapSeq f) (Ne.symm hb)).trans hu) ⟨_,q⟩ ?_
 exact⟨hz,its',_,hv,q⟩
theorem Inv.fresh(I:Inv X pins σ H s):H s.heap.objs.size=none:=I.hok.fresh (Nat.le_refl _)
theorem Inv.lstM(I:Inv X pins σ H s)(hH:H l=some (.lst xs)):xs.length<=sizeLine/\∃ (its:List Value) (n:Nat),Vals xs its/\xs.length=its.length/\s.heap.get? l=some {cls:=.type "list",data:=.seq its.toArray n}:=by
 obtain⟨z,its,n,r,e⟩:=I.hok l _ hH;exact⟨z,its,n,r,r.length,e⟩
end
section
variable {X:Cx}
def b6:V->List V->Hp->VK->Prop:=fun x vs H Q=>∃ l xs y,x=.ref l/\vs=[y]/\H l=some (.lst xs)/\xs.length<sizeLine/\Q .non (upd H l (.lst (xs++[y])))
theorem Pd:R1 X "list.append" b6:=by
 intro pins s σ H x vs v us Q I rx rv h;obtain⟨l,xs,y,rfl,rfl,hH,hz,q⟩:=h
 cases rx
 obtain⟨u,rfl,ru⟩:=rv.one;obtain⟨z,its,n,r,hl,e⟩:=I.lstM hH;refine call_meets F.slot_list_append ⟨_,e,rfl⟩ F.entry_list_append (F.args_list_append_2 _ _) (PySem.list_append l its.toArray n u (by rw[List.size_toArray];omega)) ⟨e,?_⟩
 refine⟨.non,_,I.lset (its':=its++[u]) hH e (by simp) (r.append (.cons ru .nil)) ?_,rfl,q⟩
 rw[List.length_append,List.length_singleton];omega
end
end L2
namespace Att
open PySem PySem.W PySem.Calls PyProof.Rows
theorem BG{P:Params}{h:Heap}:∀ (ns:List Int) (vs:List Value),WellAll P h vs (ns.map WData.int)->IntsAre vs ns:=by
 intro ns
 induction ns with
 | nil =>
  intro vs w;rw[List.map_nil]at w
  cases w
  exact .nil
 | cons n ns ih =>
  intro vs w;rw[List.map_cons]at w
  cases w with
  | cons a b =>
   cases a
   exact .cons _ _ (ih _ b)
theorem HZ{l:OpenLaw}{n:Nat}(hn:l.most=some n){P:Params}{h:Heap}{args:List WData}{vals:List Value}
  (hpre:l.row.toRowW.claim.pre args=true) (hwl:WellAll P h vals args) :
  ∃ a vs ns,vals=[Value.ref a]/\args=[WData.list (ns.map WData.int)]/\h.get? a=some {cls:=.type "list",data:=.seq vs.toArray}/\IntsAre vs ns/\ns.length<=n:=by
 have hsh:WShape.hasAll [] args [.list .int]=true:=(pre_splitW hpre).1
 have hc:l.pre.holds [] {args:=args}=true:=(pre_splitW hpre).2
 obtain⟨d,r,rfl,h1,h2⟩:=hasAllW_cons hsh;obtain rfl:=hasAllW_nil h2;obtain⟨xs,rfl,h3⟩:=hasW_list h1;obtain⟨ns,rfl⟩:=items_int h3;have hlen:ns.length<=n:=by
  unfold OpenLaw.pre at hc;have h4:(WTm.not (.lt (.lit (.int (n:Int))) (.len (.arg 0)))).holds [] {args:=[.list (ns.map .int)]}=true:=by
   have h4:=(holds_andW hc).1
   rw[hn]at h4;exact h4
  have h5:=condW_of h4 (w_not (w_lt w_lit (w_len_list (w_arg rfl))))
  rw[List.length_map]at h5;refine Nat.le_of_not_lt fun q=>?_;have q':(n:Int)<((ns.length:Nat):Int):=by omega
  first
   | (rw[decide_eq_true q']at h5;exact absurd h5 (by decide))
   | (simp at h5;omega)
 cases hwl with
 | cons w1 w2 =>
  cases w2
  cases w1 with
  | list ho hall=>exact⟨_,_,ns,rfl,rfl,ho,BG ns _ hall,hlen⟩
theorem CD(l:OpenLaw)(args:List WData):l.row.toRowW.claim.post args (.bool true) args=true :=
 postW_of (r:=l.row.toRowW) (X:=(true==true))
  (show WShape.has [] (.bool true) .bool=true by first | rfl | decide | simp[WShape.has,WShape.arms,WShape.armsAll])
  (show(WTm.eq .res (.lit (.bool true))).value [] {args:=args,res:=some (.bool true),after:=args}=some (.bool (true==true)) from w_eq_bool (w_res rfl) w_lit) rfl
theorem attach_call{l:OpenLaw}{n:Nat}{q:Program}{loose:List Str}{XP:(Str->Option Value)->Heap->Prop}{YP:World->Heap->Prop}{d:DefRec}
  (hn:l.most=some n) (hdf:d.params.defaults=[])
  (call:∀ (w:World) (s₀ s₁:Shared) (mg mb:Str->Option Value) (fa:Addr) (o:Obj) (pm cd doc:Value) (a:Addr) (vs:List Value) (ns:List Int),
   Ground q loose [] XP w s₀ mg mb s₁.heap->YP w s₁.heap ->
   s₁.heap.get? fa=some o->o.data=.func (docDef d.name d.params d.body d.scope pm cd doc)->s₁.heap.CodeRec cd d.name->mg d.name=some (.ref fa) ->
   s₁.heap.get? a=some {cls:=.type "list",data:=.seq vs.toArray}->IntsAre vs ns->ns.length<=n->s₁.gens=#[] ->
   codeAny (model l.prog w) callerA (.call (.ref fa) ⟨[.ref a],[]⟩) (fun r s'=>r=.ok (.ret (.bool true))/\OldK s₁.heap s'.heap/\s'.os=s₁.os/\AllBare s'.gens) s₁) :
  WalkO q loose XP YP l.row.toRowW d [] (fun f vs=>PySem.call f vs):=by
 intro w s₀ s₁ mg mb G Y fa o pm cd doc dV kV ho hd hcd hD hmg hg args vals as hpre hlay hrd hwl hlo;obtain rfl:dV=.none:=Dflts.none hD hdf;obtain rfl:kV=.none:=Dflts.noKw hD;obtain⟨a,vs,ns,rfl,rfl,hobj,hints,hlen⟩:=HZ hn hpre hwl;refine enter_call (codeAny_mono (call w s₀ s₁ mg mb fa o pm cd doc a vs ns G Y ho (fd_plain hd) hcd hmg hobj hints hlen hg) fun r s' hq=>?_);obtain⟨rfl,h2,h3,h4⟩:=hq;exact⟨.inl ⟨.bool true,.bool true,[],rfl,fun _=>rfl,.bool true,CD l _,fun _=>⟨List.Pairwise.nil,fun _ hm=>(nomatch hm)⟩⟩,h2,h3,h4⟩
end Att
namespace L2
open PySem PySem.Spec PyProof.Rows
theorem Vn:∀ {vs:List Value} {ns:List Int},IntsAre vs ns->Vals (ns.map V.int) vs
 | _,_,.nil=>.nil
 | _,_,.cons n t h=>.cons ⟨t,rfl⟩ (Vn h)
def Ro(H:Hp):Prop:=∀ b,H b=none\/∃ o xs,H b=some (.frz o (.lst xs))
theorem AE{P:Program}{w:World}{K:PySem.W.Frag}{mg mb:Str->Option Value}{CX:iW}{k:Nat}{fa a:Addr}{fd:FuncData}{x:Str}{sp:Sp}{s₁:Shared}{vs:List Value}{ns:List Int}
  (KX:K.In s₁.heap) (hns:s₁.heap.Ns mainGlobals mg) (hb:s₁.heap.Ns builtinsNs mb) (hbb:∀ x:Str,x≠"__name__"->mb x=bootBuiltins x) (hlim:s₁.heap.NoLimit) (hg:s₁.gens=#[])
  (ha:s₁.heap.get? a=some {cls:=.type "list",data:=.seq vs.toArray}) (hi:IntsAre vs ns) (hl:ns.length<=sizeLine) (hr:Room k callerA)
  (F:∀ base:Heap,K.In base->base.Ns mainGlobals mg->FnOk P w K mg base CX k fa fd [x] sp) (hbind:∀ (s:Shared) (u:Value),BindsTo s fd ⟨[u],[]⟩ [(x,u)])
  (hsp:∀ H:Hp,Ro H->SqL K H a (ns.map V.int)->sp [.ref a] H (fun v _=>v=.bl true) fun _ _ _=>False)
  (hCX:∀ H e s',CX [] H s₁ (fun _ _ _=>False) e s'->False) :
  codeAny (model P w) callerA (.call (.ref fa) ⟨[.ref a],[]⟩) (fun r s'=>r=.ok (.ret (.bool true))/\OldK s₁.heap s'.heap/\s'.os=s₁.os/\AllBare s'.gens) s₁:=by
 have rv:=Vn hi
 have lenV:=hi.length
 -- from an abstract heap in which nothing but the script may be tracked
 have core:∀ H:Hp,Ro H->SqL K H a (ns.map V.int)->HOk P w H s₁.heap->(∀ b,H b≠none->b=a)->(H a≠none->K.lookup a=none) ->
   codeAny (model P w) callerA (.call (.ref fa) ⟨[.ref a],[]⟩) (fun r s'=>r=.ok (.ret (.bool true))/\OldK s₁.heap s'.heap/\s'.os=s₁.os/\AllBare s'.gens) s₁:=by
  intro H hO hS hok hA hK;have base_of:∀ {b:Addr} {o:Obj},s₁.heap.get? b=some o->H b=none->(lO s₁.heap H).get? b=some o:=fun e n=>LN e n
  have noA:∀ {b:Addr} {o:Obj} {es:Array DictEntry} {ep:Nat},s₁.heap.get? b=some o->o.data=.dict es ep->H b=none:=fun {b o es ep} e d=>by
   cases q:H b with
   | none=>rfl
   | some u =>
    have e':b=a:=hA b (by rw[q];simp)
    subst e';rw[ha]at e;cases e;have d':Data.seq vs.toArray _=Data.dict es ep:=d
    cases d'
  have nsK:∀ {b:Addr} {m:Str->Option Value},s₁.heap.Ns b m->(lO s₁.heap H).Ns b m:=fun {b m} ⟨o,es,ep,e,d,r⟩=>⟨o,es,ep,base_of e (noA e d),d,r⟩
  have hKb:K.In (lO s₁.heap H):=fun b o e=>base_of (KX b o e) (by
   cases q:H b with
   | none=>rfl
   | some u =>
    have e':b=a:=hA b (by rw[q];simp)
    subst e';rw[hK (by rw[q];simp)]at e;cases e)
  have hM:Mod K mg (lO s₁.heap H):=⟨hKb,nsK hns,⟨mb,nsK hb,hbb⟩,let ⟨mc,h1,h2⟩:=hlim;⟨mc,nsK h1,h2⟩⟩
  have e0:Env0 P w K mg (lO s₁.heap H) callerA [] s₁ H:=⟨rfl,hM,fun b o e=>NN e,Nat.le_of_eq (AT _ _),trivial,fun b hb=>absurd (show b∈([]:List Addr) from hb) (by simp),hok,.of_eq hg⟩
  refine codeAny_mono ((F _ hKb (nsK hns)).run callerA [] s₁ H ⟨[.ref a],[]⟩ [.ref a] [.ref a] _ _ hr e0 (hbind s₁ (.ref a)) (.cons rfl .nil) (hsp H hO hS)) fun r s' h=>?_
  cases r with
  | error e=>exact(hCX H e s' h).elim
  | ok fl =>
   cases fl with
   | next=>exact False.elim h
   | brk=>exact False.elim h
   | cont=>exact False.elim h
   | ret u =>
    obtain⟨v,H',os,bare,un,hok',r',q⟩:=h;have q':v=.bl true:=q
    subst q';obtain rfl:u=Value.bool true:=r';refine⟨rfl,OldK.of_keep fun b o e=>?_,os,bare⟩
    cases q:H b with
    | none=>exact un.keep b o e q (by intro z;exact absurd (show b∈([]:List Addr) from z) (by simp)) (by simp)
    | some u =>
     rcases hO b with z | ⟨ob,xs,z⟩
     ·rw[q]at z;cases z
     ·have z2:=un.frzs b ob _ z
      obtain⟨e1,_⟩:=hok b _ z;obtain⟨e2,_⟩:=hok' b _ z2;rw[e]at e1;cases e1;exact e2
 cases hk:K.lookup a with
 | some o =>
  -- the script is one of the module's own objects
  have e:=KX a o hk
  rw[ha]at e
  cases e
  refine core (fun _=>none) (fun _=>.inl rfl) (.inr ⟨_,vs.toArray,_,hk,rfl,rfl,rfl,by rw[List.size_toArray,lenV];exact hl,by simpa using rv⟩) (fun b u z=>by have z':(none:Option HO)=some u:=z;cases z') (fun b z=>absurd rfl z) fun z=>absurd rfl z
 | none =>
  refine core (fun b=>if b=a then some (.frz {cls:=.type "list",data:=.seq vs.toArray} (.lst (ns.map V.int))) else none) (fun b=>?_) (.inl (.inr ⟨{cls:=.type "list",data:=.seq vs.toArray},if_pos rfl⟩)) (fun b u z=>?_) (fun b z=>?_) fun _=>hk
  ·by_cases hb:b=a
   ·exact .inr ⟨_,_,if_pos hb⟩
   ·exact .inl (if_neg hb)
  ·by_cases hb:b=a
   ·have z':=(if_pos hb).symm.trans z
    cases z'
    subst hb;exact⟨ha,by rw[List.length_map];exact hl,vs,_,rv,ha⟩
   ·have z':=(if_neg hb).symm.trans z
    cases z'
  ·by_cases hb:b=a
   ·exact hb
   ·exact absurd (if_neg hb) z
theorem walk_of{l:PySem.W.OpenLaw}{n k:Nat}{q:Program}{loose:List Str}{XP:(Str->Option Value)->Heap->Prop}{YP:World->Heap->Prop}{d:DefRec}{K:Params->PySem.W.Frag}{CX:World->iW}{sp:World->Sp}{x:Str}
  (hn:l.most=some n) (hn2:n<=sizeLine) (hdf:d.params.defaults=[]) (hr:Room k callerA)
  (hY:∀ (w:World) (h:Heap),YP w h->(K w.params).In h)
  (F:∀ (w:World) (mg:Str->Option Value) (fa:Addr) (h:Heap),(K w.params).In h->h.Ns mainGlobals mg->mg d.name=some (.ref fa) ->
   ∃ fd:FuncData,(∀ (s:Shared) (u:Value),BindsTo s fd ⟨[u],[]⟩ [(x,u)]) /\
    ∀ base:Heap,(K w.params).In base->base.Ns mainGlobals mg->FnOk l.prog w (K w.params) mg base (CX w) k fa fd [x] (sp w))
  (hsp:∀ (w:World) (H:Hp) (a:Addr) (ns:List Int),ns.length<=n->Ro H->SqL (K w.params) H a (ns.map V.int)->sp w [.ref a] H (fun v _=>v=.bl true) fun _ _ _=>False)
  (hCX:∀ (w:World) (H:Hp) (s:Shared) (e:Value) (s':Shared),CX w [] H s (fun _ _ _=>False) e s'->False) :
  PySem.W.WalkO q loose XP YP l.row.toRowW d [] (fun f vs=>PySem.call f vs):=by
 refine Att.attach_call hn hdf fun w s₀ s₁ mg mb fa o pm cd doc a vs ns G Y ho hd hcd hmg hobj hints hlen hg=>?_;have KX:=hY w _ Y
 obtain⟨fd,hb,hF⟩:=F w mg fa _ KX G.T.g hmg;exact AE KX G.T.g G.T.b G.T.builtins G.T.nolimit hg hobj hints (Nat.le_trans hlen hn2) hr hF hb (fun H hO hS=>hsp w H a ns hlen hO hS) fun H e s'=>hCX w H s₁ e s'
def cG(s:Stmt):Arguments:=match s with
 | .FunctionDef _ a _ _ _ _ _ _ _ _=>a
 | _=>{posonlyargs:=[],args:=[],vararg:=none,kwonlyargs:=[],kw_defaults:=[],kwarg:=none,defaults:=[]}
def cD(s:Stmt):List Stmt:=match s with
 | .FunctionDef _ _ b _ _ _ _ _ _ _=>b
 | _=>[]
def aV(s:Stmt):Scope:=match s with
 | .FunctionDef _ _ _ _ _ _ sc _ _ _=>sc
 | _=>{kind:=.function,names:=[],isGenerator:=false,isCoroutine:=false}
abbrev aQ:iW:=fun _ _ _ _ _ _=>False
abbrev E0:XK:=fun _ _ _=>False
theorem t6{X:Cx}:Ie aQ X E0:=fun _ _ _ _ _ _ _ h=>h.elim
structure Fun (K:PySem.W.Frag) (x qual:Str) (st:Stmt) (f:Addr) (fd:FuncData):Prop where
 ex:∃ (oc:Value) (od:Option Addr) (kV doc pm:Value) (an:Option Addr) (cdv ct:Value) (osl:Array (Option Value)),
  fd=PySem.W.fnOf x qual (cG st) (cD st) (aV st) .none kV doc pm an cdv ct/\K.lookup f=some ⟨oc,od,.func fd,osl⟩/\PySem.W.codeIn K cdv qual=true
 kp:PySem.W.keepIn K (.ref f)=true
section
variable {P:Program}{w:World}{K:PySem.W.Frag}{mg:Str->Option Value}{base:Heap}
theorem Fun.ok{x qual:Str}{st:Stmt}{f:Addr}{fd:FuncData}{N ps:List Str}{k:Nat}{sp:Sp}(F:Fun K x qual st f fd)(S:FnScope N ps (aV st))(len:∀ vs H Q E,sp vs H Q E->vs.length=ps.length)
  (hbody:∀ (cdv:Value) (A:Around) (outer:List Env) (s:Shared) (H:Hp) (vs:List V) (Q:VK) (E:XK),Room k (A.deeper (envOfC qual (aV st) s.heap.objs.size f cdv))->sp vs H Q E ->
   ∃ t,PSs (mM aQ P w K mg base N qual (aV st) f cdv A outer s H E).nox (cD st) t/\t {nx:=fun _ H'=>Q .non H',rt:=Q} (start N vs) H):FnOk P w K mg base aQ (k+1) f fd ps sp:=by
 obtain⟨oc,od,kV,doc,pm,an,cdv,ct,osl,rfl,lk,hcd⟩:=F.ex;refine MR lk hcd S len fun A outer s H vs Q E hr hsp=>?_;obtain⟨t,h,q⟩:=hbody cdv A outer s H vs Q E hr hsp;exact⟨t,h.nox,q⟩
theorem Fun.binds{x qual:Str}{st:Stmt}{f:Addr}{fd:FuncData}{ps:List Str}(F:Fun K x qual st f fd)
  (h:∀ (kV doc pm:Value) (an:Option Addr) (cdv ct:Value) (us:List Value),us.length=ps.length->bindArgs (PySem.W.fnOf x qual (cG st) (cD st) (aV st) .none kV doc pm an cdv ct) ⟨us,[]⟩=pure (ps.zip us)):Binds K fd ps []:=by
 obtain⟨oc,od,kV,doc,pm,an,cdv,ct,osl,rfl,lk,hcd⟩:=F.ex;exact .all (h kV doc pm an cdv ct)
theorem cP{x qual:Str}{st:Stmt}{f:Addr}{oc:Value}{od an:Option Addr}{osl:Array (Option Value)}{kV doc pm cdv ct:Value}(l:K.lookup f=some ⟨oc,od,.func (PySem.W.fnOf x qual (cG st) (cD st) (aV st) .none kV doc pm an cdv ct),osl⟩)
  (c:PySem.W.codeIn K cdv qual=true) (k:PySem.W.keepIn K (.ref f)=true):Fun K x qual st f (PySem.W.fnOf x qual (cG st) (cD st) (aV st) .none kV doc pm an cdv ct):=⟨⟨oc,od,kV,doc,pm,an,cdv,ct,osl,rfl,l,c⟩,k⟩
end
theorem Z1{A B:Prop}(h:B):if false=true then A else B:=by
 rw[if_neg Bool.false_ne_true];exact h
theorem NH{A B:Prop}(h:A):if true=true then A else B:=by
 rw[if_pos rfl];exact h
def Same(H H':Hp):Prop:=∀ b o,H b=some o->H' b=some o
theorem Same.refl(H:Hp):Same H H:=fun _ _ h=>h
theorem Same.trans{H H1 H2:Hp}(a:Same H H1)(b:Same H1 H2):Same H H2:=fun c o h=>b c o (a c o h)
theorem Same.free{H H':Hp}(e:Same H H'){l:Addr}(h:H' l=Option.none):H l=Option.none:=by
 cases q:H l with
 | none=>rfl
 | some o =>
  rw[e l o q]at h
  cases h
theorem Same.seq{K:PySem.W.Frag}{H H':Hp}{a:Addr}{xs:List V}(e:Same H H')(h:SqL K H a xs):SqL K H' a xs:=by
 rcases h with (h | ⟨o,h⟩) | h
 ·exact .inl (.inl (e _ _ h))
 ·exact .inl (.inr ⟨o,e _ _ h⟩)
 ·exact .inr h
section
variable {κ:Type}[DecidableEq κ]
def eC(kvs:List (κ×V))(k:κ):Option V:=(kvs.find? fun kv=>decide (kv.1=k)).map (·.2)
def iG(kvs:List (κ×V))(k:κ)(v:V):List (κ×V) :=
 if (kvs.any fun kv=>decide (kv.1=k))=true then kvs.map (fun kv=>if kv.1=k then (kv.1,v) else kv) else kvs++[(k,v)]
def Th(kvs:List (κ×V))(k:κ):List (κ×V):=kvs.filter fun kv=>decide (kv.1≠k)
theorem Ph{p:κ×V}{r:List (κ×V)}{k:κ}(e:p.1=k):eC (p::r) k=some p.2:=by simp[eC,List.find?_cons,e]
theorem Qg{p:κ×V}{r:List (κ×V)}{k:κ}(e:¬ p.1=k):eC (p::r) k=eC r k:=by simp[eC,List.find?_cons,e]
theorem Za(k:κ):∀ kvs:List (κ×V),(kvs.any fun kv=>decide (kv.1=k))=(eC kvs k).isSome
 | []=>rfl
 | p::r=>by
  rw[List.any_cons]
  by_cases e:p.1=k
  ·simp only[Ph e,decide_eq_true e,Bool.true_or,Option.isSome_some]
  ·rw[Qg e,decide_eq_false e,Bool.false_or];exact Za k r
theorem RelO.isSome_eq{o:Option V}{u:Option Value}(r:RelO o u):o.isSome=u.isSome:=by
 cases o with
 | none=>cases u with
  | none=>rfl
  | some _=>exact(show False from r).elim
 | some _=>cases u with
  | none=>exact(show False from r).elim
  | some _=>rfl
theorem RelO.getD{o:Option V}{u:Option Value}{d:V}{d':Value}(r:RelO o u)(rd:RelV d d'):RelV (o.getD d) (u.getD d'):=by
 cases o with
 | none=>cases u with
  | none=>exact rd
  | some _=>exact(show False from r).elim
 | some _=>cases u with
  | none=>exact(show False from r).elim
  | some _=>exact r
theorem KV.val{kvs:List (κ×V)}{vs:List (κ×Value)}(r:KV kvs vs)(k:κ):RelO (eC kvs k) (valueAt vs k):=by
 unfold KV at r
 induction r with
 | nil=>exact True.intro
 | @cons p q ps qs h t ih =>
  obtain⟨h1,h2⟩:=h
  by_cases e:p.1=k
  ·have e':q.1=k:=h1.symm.trans e
   have b:valueAt (q::qs) k=some q.2:=by simp[valueAt,List.find?_cons,e']
   rw[Ph e,b];exact h2
  ·have e':¬ q.1=k:=fun z=>e (h1.trans z)
   have b:valueAt (q::qs) k=valueAt qs k:=by simp[valueAt,List.find?_cons,e']
   rw[Qg e,b];exact ih
theorem KV.any{kvs:List (κ×V)}{vs:List (κ×Value)}(r:KV kvs vs)(k:κ):(kvs.any fun kv=>decide (kv.1=k))=vs.any fun kv=>decide (kv.1=k):=by
 unfold KV at r
 induction r with
 | nil=>rfl
 | cons h t ih=>rw[List.any_cons,List.any_cons,ih,h.1]
theorem KV.repl{kvs:List (κ×V)}{vs:List (κ×Value)}(r:KV kvs vs)(k:κ){y:V}{u:Value}(ry:RelV y u) :
  KV (kvs.map fun kv=>if kv.1=k then (kv.1,y) else kv) (vs.map fun kv=>if kv.1=k then (kv.1,u) else kv):=by
 unfold KV at r ⊢
 induction r with
 | nil=>exact .nil
 | @cons p q ps qs h t ih =>
  rw[List.map_cons,List.map_cons];refine .cons ?_ ih;obtain⟨h1,h2⟩:=h
  by_cases e:p.1=k
  ·rw[if_pos e,if_pos (h1.symm.trans e)];exact⟨h1,ry⟩
  ·rw[if_neg e,if_neg (fun z=>e (h1.trans z))];exact⟨h1,h2⟩
theorem KV.put{kvs:List (κ×V)}{vs:List (κ×Value)}(r:KV kvs vs)(k:κ){y:V}{u:Value}(ry:RelV y u):KV (iG kvs k y) (stored vs k u):=by
 unfold iG stored;rw[r.any k]
 by_cases e:(vs.any fun kv=>decide (kv.1=k))=true
 ·rw[if_pos e,if_pos e];exact r.repl k ry
 ·rw[if_neg e,if_neg e];exact Paired.snoc r ⟨rfl,ry⟩
theorem KV.drop{kvs:List (κ×V)}{vs:List (κ×Value)}(r:KV kvs vs)(k:κ):KV (Th kvs k) (without vs k):=by
 unfold KV at r ⊢;unfold Th without
 induction r with
 | nil=>exact .nil
 | @cons p q ps qs h t ih =>
  obtain⟨h1,h2⟩:=h;rw[List.filter_cons,List.filter_cons]
  by_cases e:p.1=k
  ·have a:¬ decide (p.1≠k)=true:=by simp[e]
   have b:¬ decide (q.1≠k)=true:=by simp[h1.symm.trans e]
   rw[if_neg a,if_neg b];exact ih
  ·have e':¬ q.1=k:=fun z=>e (h1.trans z)
   have a:decide (p.1≠k)=true:=by simp[e]
   have b:decide (q.1≠k)=true:=by simp[e']
   rw[if_pos a,if_pos b];exact .cons ⟨h1,h2⟩ ih
theorem KV.keys{kvs:List (κ×V)}{vs:List (κ×Value)}(r:KV kvs vs):kvs.map (·.1)=vs.map (·.1):=by
 unfold KV at r
 induction r with
 | nil=>rfl
 | cons h t ih=>rw[List.map_cons,List.map_cons,ih,h.1]
theorem KV.length{kvs:List (κ×V)}{vs:List (κ×Value)}(r:KV kvs vs):kvs.length=vs.length:=Paired.length r
end
theorem yT{P:Program}{w:World}{k:aU}{u:Value}(r:RelV (kV k) u):(dC P w).is k u=true:=by
 cases k with
 | inl i=>obtain⟨t,e⟩:=(show ∃ t,u=Value.int i t from r);subst e;exact MS P w i t
 | inr x=>obtain⟨t,e⟩:=(show ∃ t,u=Value.str x t from r);subst e;exact ON P w x t
theorem Qp{P:Program}{w:World}:∀ {ks:List aU} {us:List Value},Vals (ks.map kV) us->ItemsAre (dC P w) ks us
 | [],_,r=>by rw[List.map_nil]at r;cases r;exact .nil
 | k::ks,_,r=>by
  rw[List.map_cons]at r
  cases r with
  | cons h t=>exact .cons (yT h) (Qp t)
abbrev KT(H:Hp):List (List aU×V)->List (List aU×Addr×Value)->Prop:=Paired fun p q=>p.1=q.1/\H q.2.1=some (.tup (p.1.map kV))/\RelV p.2 q.2.2
theorem KT.val{H:Hp}{kvs:List (List aU×V)}{xs:List (List aU×Addr×Value)}(r:KT H kvs xs)(k:List aU):RelO (eC kvs k) ((atKey xs k).map (·.2)):=by
 induction r with
 | nil=>exact True.intro
 | @cons p q ps qs h t ih =>
  obtain⟨h1,_,h2⟩:=h
  by_cases e:p.1=k
  ·have e':q.1=k:=h1.symm.trans e
   have b:atKey (q::qs) k=some q.2:=by simp[atKey,List.find?_cons,e']
   rw[Ph e,b];exact h2
  ·have e':¬ q.1=k:=fun z=>e (h1.trans z)
   have b:atKey (q::qs) k=atKey qs k:=by simp[atKey,List.find?_cons,e']
   rw[Qg e,b];exact ih
theorem KT.repl{H:Hp}{kvs:List (List aU×V)}{xs:List (List aU×Addr×Value)}(r:KT H kvs xs)(k:List aU){y:V}{u:Value}(ry:RelV y u) :
  KT H (kvs.map fun kv=>if kv.1=k then (kv.1,y) else kv) (xs.map (putAt k u)):=by
 induction r with
 | nil=>exact .nil
 | @cons p q ps qs h t ih =>
  rw[List.map_cons,List.map_cons];refine .cons ?_ ih;obtain⟨h1,h2,h3⟩:=h;unfold putAt
  by_cases e:p.1=k
  ·rw[if_pos e,if_pos (h1.symm.trans e)];exact⟨h1,h2,ry⟩
  ·rw[if_neg e,if_neg (fun z=>e (h1.trans z))];exact⟨h1,h2,h3⟩
theorem KT.put{H:Hp}{kvs:List (List aU×V)}{xs:List (List aU×Addr×Value)}(r:KT H kvs xs)(k:List aU){b:Addr}{y:V}{u:Value}(hb:H b=some (.tup (k.map kV)))(ry:RelV y u) :
  KT H (iG kvs k y) (storedH xs k b u):=by
 have e:(kvs.any fun kv=>decide (kv.1=k))=(atKey xs k).isSome:=by
  rw[Za,(r.val k).isSome_eq,Option.isSome_map]
 unfold iG storedH;rw[e]
 by_cases q:(atKey xs k).isSome=true
 ·rw[if_pos q,if_pos q];exact r.repl k ry
 ·rw[if_neg q,if_neg q];exact Paired.snoc r ⟨rfl,hb,ry⟩
theorem KT.keeps{H H':Hp}{kvs:List (List aU×V)}{xs:List (List aU×Addr×Value)}(r:KT H kvs xs)(ht:∀ b ys,H b=some (.tup ys)->H' b=some (.tup ys)):KT H' kvs xs :=
 Paired.mapP r fun _ _ z=>⟨z.1,ht _ _ z.2.1,z.2.2⟩
section
variable {P:Program}{w:World}{H:Hp}{h:Heap}{a:Addr}
theorem Yp{u:HO}(ok:HOk P w H h)(e:Rd H a u):ObjOk P w H h a u:=e.ok ok
theorem Jl{kvs:List (aU×V)}(ok:HOk P w H h)(e:Rd H a (.dK kvs)):kvs.length<=sizeLine/\(a==sysModules)=false/\∃ vs,KV kvs vs/\h.DictOf (dC P w) a vs :=
 show ObjOk P w H h a (.dK kvs) from Yp ok e
theorem Lv{ks:List aU}(ok:HOk P w H h)(e:H a=some (.tup (ks.map kV))):(tupleKind (dC P w)).is h ks a:=by
 obtain⟨_,its,r,o,h1,h2,n,h3⟩:=(show ObjOk P w H h a (.tup (ks.map kV)) from ok a _ e)
 exact⟨o,its.toArray,n,h1,h2,h3,by simpa using Qp r⟩
theorem Jp{kvs:List (List aU×V)}(ok:HOk P w H h)(e:Rd H a (.dT kvs)):kvs.length<=sizeLine/\(a==sysModules)=false /\
  ∃ xs,KT H kvs xs/\h.DictOfH (tupleKind (dC P w)) a xs:=by
 obtain⟨z,y,xs,r,o,es,ep,h1,h2,h3,h4,h5⟩:=(show ObjOk P w H h a (.dT kvs) from Yp ok e)
 refine⟨z,y,xs,r,o,es,ep,h1,h2,h3,h4,fun x hx=>?_,h5⟩;have all:∀ {l:List (List aU×V)} {m:List (List aU×Addr×Value)},KT H l m->∀ x∈m,(tupleKind (dC P w)).is h x.1 x.2.1:=by
  intro l m q
  induction q with
  | nil=>intro x hx;exact nomatch hx
  | @cons p q ps qs hq t ih =>
   intro x hx;rcases List.mem_cons.mp hx with e | hx
   ·subst e;exact Lv ok (by rw[<- hq.1];exact hq.2.1)
   ·exact ih x hx
 exact all r x hx
end
def DGet(H:Hp)(a:Addr)(y:V)(r:Option V):Prop :=
 (∃ kvs k,Rd H a (.dK kvs)/\y=kV k/\r=eC kvs k)\/∃ kvs k b,Rd H a (.dT kvs)/\y=.ref b/\H b=some (.tup (k.map kV))/\r=eC kvs k
def DPut(H:Hp)(a:Addr)(y v:V)(H':Hp):Prop :=
 (∃ kvs k,H a=some (.dK kvs)/\y=kV k/\kvs.length<sizeLine/\H'=upd H a (.dK (iG kvs k v))) \/
 ∃ kvs k b,H a=some (.dT kvs)/\y=.ref b/\H b=some (.tup (k.map kV))/\kvs.length<sizeLine/\H'=upd H a (.dT (iG kvs k v))
theorem DGet.k{H:Hp}{a:Addr}{kvs:List (aU×V)}{k:aU}(e:H a=some (.dK kvs)):DGet H a (kV k) (eC kvs k):=.inl ⟨kvs,k,.inl e,rfl,rfl⟩
theorem DGet.t{H:Hp}{a b:Addr}{kvs:List (List aU×V)}{k:List aU}(e:H a=some (.dT kvs))(eb:H b=some (.tup (k.map kV))):DGet H a (.ref b) (eC kvs k):=.inr ⟨kvs,k,b,.inl e,rfl,eb,rfl⟩
theorem DPut.k{H:Hp}{a:Addr}{kvs:List (aU×V)}{k:aU}{v:V}(e:H a=some (.dK kvs))(hl:kvs.length<sizeLine):DPut H a (kV k) v (upd H a (.dK (iG kvs k v))):=.inl ⟨kvs,k,e,rfl,hl,rfl⟩
theorem DPut.t{H:Hp}{a b:Addr}{kvs:List (List aU×V)}{k:List aU}{v:V}(e:H a=some (.dT kvs))(eb:H b=some (.tup (k.map kV)))(hl:kvs.length<sizeLine) :
  DPut H a (.ref b) v (upd H a (.dT (iG kvs k v))):=.inr ⟨kvs,k,b,e,rfl,eb,hl,rfl⟩
section
variable {X:Cx}{pins:List (Addr×Obj)}{σ:St}{H:Hp}{s:Shared}{a:Addr}{y v:V}{u r:Value}{o:Option V}{A:Around}{E:Value->Shared->Prop}
theorem Inv.big(I:Inv X pins σ H s):sysModules<s.heap.objs.size:=by
 have h:mainGlobals<s.heap.objs.size:=(I.mod.glob.keeps I.bk).lt
 exact Nat.lt_trans (by decide) h
theorem i7{Q:Value->Shared->Prop}(hu:A.units+1<cLine)(I:Inv X pins σ H s)(g:DGet H a y (some v))(ry:RelV y u)(h:∀ w' s',Inv X pins σ H s'->RelV v w'->Q w' s') :
  wpAny (model X.prog X.w) A (getItem (.ref a) u) Q E s:=by
 rcases g with⟨kvs,k,e,ey,l⟩ | ⟨kvs,k,b,e,ey,eb,l⟩
 ·subst ey;obtain⟨z,hd,vs,rel,dd⟩:=Jl I.hok e;obtain⟨w',hw,rw'⟩:=RelO.some_of (v:=v) (o:=valueAt vs k) (by rw[l];exact rel.val k)
  exact wpAny_getItem_of (yT ry) dd.mapOf hw (h w' _ (I.tok _) rw')
 ·subst ey
  cases (show u=Value.ref b from ry)
  obtain⟨z,hd,xs,rel,dd⟩:=Jp I.hok e;obtain⟨w',hw,rw'⟩:=RelO.some_of (v:=v) (o:=(atKey xs k).map (·.2)) (by rw[l];exact rel.val k)
  obtain⟨p,hp,hp2⟩:=Option.map_eq_some_iff.mp hw;refine wpAny_getItem_heap (tupleKind_room_in1 hu) (Lv I.hok eb) dd hp ?_;rw[hp2];exact h w' _ (I.tok _) rw'
theorem W5{Q:Value->Shared->Prop}(hu:A.units+1<cLine)(I:Inv X pins σ H s)(g:DGet H a y o)(ry:RelV y u)(h:∀ s',Inv X pins σ H s'->Q (.bool (!o.isSome)) s') :
  wpAny (model X.prog X.w) A (compareOp .NotIn u (.ref a)) Q E s:=by
 rcases g with⟨kvs,k,e,ey,l⟩ | ⟨kvs,k,b,e,ey,eb,l⟩
 ·subst ey;obtain⟨z,hd,vs,rel,dd⟩:=Jl I.hok e;refine wpAny_notIn_of (yT ry) hd dd.mapOf ?_;rw[<- (rel.val k).isSome_eq,<- l];exact h _ (I.tok _)
 ·subst ey
  cases (show u=Value.ref b from ry)
  obtain⟨z,hd,xs,rel,dd⟩:=Jp I.hok e;refine wpAny_notIn_heap (tupleKind_room_in1 hu) (Lv I.hok eb) hd dd ?_;have q:=(rel.val k).isSome_eq
  rw[Option.isSome_map]at q;rw[<- q,<- l];exact h _ (I.tok _)
end
def vQ(i:Expr):Prop:=∀ ov iv,subscripted i false ov iv=operate [ov,iv] (getItem ov iv)
theorem E5{prog:Program}{w:World}{A:Around}{E:Value->Shared->Prop}{s:Shared}{env:Env}{value slice:Expr}{pos:Pos}{T id:String}{Q:Value->Shared->Prop}
  (hl:typeLookup (.type T) "__getitem__"=pure (some (.builtin id))) (hs:vQ slice)
  (h:wpAny (model prog w) A (eval value env) (fun o s₁=>wpAny (model prog w) A (eval slice env) (fun i s₂=>s₂.TypeIs o T/\wpAny (model prog w) A (getItem o i) Q E s₂) E s₁) E s) :
  wpAny (model prog w) A (eval (.Subscript value slice pos) env) Q E s:=by
 refine Subscript_ (wpAny_mono h (fun o s₁ h₁=>wpAny_mono h₁ (fun i s₂ h₂=>?_) fun _ _ x=>x) fun _ _ x=>x);obtain⟨hT,h₂⟩:=h₂;unfold subscriptTail;refine wpAny_bind ?_;rw[getitemInPython_of_ne hT.not_modules];refine wpAny_bind (wpAny_specialOf hT hl ?_);have fin:wpAny (model prog w) A (subscripted slice false o i) (fun r s₃=>wpAny (model prog w) A (letTemporaryGo value o r>>=fun _=>pure r) Q E s₃) E s₂:=by
  rw[hs o i];exact wpAny_operating (wpAny_mono h₂ (fun r s₃ h₃=>wpAny_bind (wpAny_letTemporaryGo (wpAny_pure h₃))) fun _ _ x=>x)
 first
  | exact wpAny_pure (wpAny_bind fin)
  | exact wpAny_bind (wpAny_pure (wpAny_bind fin))
  | exact wpAny_bind fin
theorem CA{X:Cx}{pins:List (Addr×Obj)}{σ:St}{H:Hp}{s:Shared}{a:Addr}{y:V}{o:Option V}(I:Inv X pins σ H s)(g:DGet H a y o):s.TypeIs (.ref a) "dict":=by
 rcases g with⟨kvs,k,e,_,_⟩ | ⟨kvs,k,b,e,_,_,_⟩
 ·obtain⟨_,_,vs,_,dd⟩:=Jl I.hok e;exact dd.typeIs
 ·obtain⟨_,_,xs,_,dd⟩:=Jp I.hok e;exact dd.typeIs
def V9(td ty:TE):TE:=fun σ H Q=>td σ H fun x H1=>ty σ H1 fun y H2=>∃ a v,x=.ref a/\DGet H2 a y (some v)/\Q v H2
section
variable {X:Cx}{o i e value:Expr}{pos pos' tpos:Pos}{td ty tv:TE}
theorem JC(hu:X.A.units+1<cLine)(ho:PE X o td)(hi:PE X i ty)(hs:vQ i):PE X (.Subscript o i pos) (V9 td ty):=by
 intro pins s σ H Q I h;refine E5 PySem.F.slot_dict_getitem.lookup hs (aZ (ho pins s σ H _ I h) fun u s1 ⟨x,H1,I1,rx,q1⟩=>aZ (hi pins s1 σ H1 _ I1 q1) fun iv s2 ⟨y,H2,I2,ry,a,v,ex,g,q2⟩=>?_);subst ex;obtain rfl:u=Value.ref a:=rx;exact⟨CA I2 g,i7 hu I2 g ry fun w' s3 I3 rw'=>⟨v,H2,I3,rw',q2⟩⟩
end
structure M1 (X:Cx) (o:Expr) (m:Str) (apos:Pos) (e:Expr) (cpos:Pos):Prop where
 base:attributeBase o m X.env (eval o X.env)=eval o X.env
 few:((backTo cpos (starEach [e] X.env)).all (fun x=>!x.1)&&(backToKw cpos (keywordEach [] X.env)).all (fun x=>x.1.isSome)
  && decide (([e]:List Expr).length+([]:List Keyword).length+(if ([]:List Keyword).isEmpty then 0 else 1)<30))=true
 line:(apos.endLine==cpos.line)=true
 trees:backTo cpos (starEach [e] X.env)=[(false,eval e X.env)]
structure M2 (X:Cx) (o:Expr) (m:Str) (apos:Pos) (e f:Expr) (cpos:Pos):Prop where
 base:attributeBase o m X.env (eval o X.env)=eval o X.env
 few:((backTo cpos (starEach [e,f] X.env)).all (fun x=>!x.1)&&(backToKw cpos (keywordEach [] X.env)).all (fun x=>x.1.isSome)
  && decide (([e,f]:List Expr).length+([]:List Keyword).length+(if ([]:List Keyword).isEmpty then 0 else 1)<30))=true
 line:(apos.endLine==cpos.line)=true
 trees:backTo cpos (starEach [e,f] X.env)=[(false,eval e X.env),(false,eval f X.env)]
end L2
namespace DL
open PySem PySem.Spec PyProof.Rows L2
inductive D where
 | dat (p:PyData)
 | cel (a:Addr)
inductive Cel where
 | l (xs:List PyData)
 | d (kvs:List (aU×PyData))
 | t (kvs:List (List aU×PyData))
 | dl (kas:List (aU×Addr))
 | fd (kvs:List (aU×PyData))
 | ft (kvs:List (List aU×PyData))
@[simp] def Ae:Option Cel->Bool
 | some (.fd _)=>true
 | some (.ft _)=>true
 | _=>false
abbrev Mu:=Addr->Option Cel
abbrev bZ:=List (Option D)
mutual
def RP(K:PySem.W.Frag)(Z:Addr->Prop)(m:Mu)(H:Hp):PyData->V->Prop
 | .none,v=>v=.non
 | .bool b,v=>v=.bl b
 | .int i,v=>v=.int i
 | .str x,v=>v=.str x
 | .tuple xs,v=>∃ a vs,v=.ref a/\SqT K H a vs/\RPs K Z m H xs vs
 | .list xs,v=>∃ a vs,v=.ref a/\(m a=none/\¬ Z a)/\SqL K H a vs/\RPs K Z m H xs vs
 | .dict _,_=>False
def RPs(K:PySem.W.Frag)(Z:Addr->Prop)(m:Mu)(H:Hp):List PyData->List V->Prop
 | [],vs=>vs=[]
 | x::xs,vs=>∃ v r,vs=v::r/\RP K Z m H x v/\RPs K Z m H xs r
end
def RD(K:PySem.W.Frag)(Z:Addr->Prop)(m:Mu)(H:Hp):D->V->Prop
 | .dat p,v=>RP K Z m H p v
 | .cel a,v=>v=.ref a/\(m a).isSome=true
def RDs(K:PySem.W.Frag)(Z:Addr->Prop)(m:Mu)(H:Hp):List D->List V->Prop
 | [],vs=>vs=[]
 | x::xs,vs=>∃ v r,vs=v::r/\RD K Z m H x v/\RDs K Z m H xs r
def RKV{κ:Type}(K:PySem.W.Frag)(Z:Addr->Prop)(m:Mu)(H:Hp):List (κ×PyData)->List (κ×V)->Prop
 | [],vs=>vs=[]
 | (k,p)::xs,vs=>∃ v r,vs=(k,v)::r/\RP K Z m H p v/\RKV K Z m H xs r
def RC(K:PySem.W.Frag)(Z:Addr->Prop)(m:Mu)(H:Hp):Cel->HO->Prop
 | .l xs,.lst vs=>RPs K Z m H xs vs
 | .d kvs,.dK vs=>RKV K Z m H kvs vs
 | .t kvs,.dT vs=>RKV K Z m H kvs vs
 | .dl kas,.dK vs=>vs=kas.map fun x=>(x.1,V.ref x.2)
 | .fd kvs,.frz _ (.dK vs)=>RKV K Z m H kvs vs
 | .ft kvs,.frz _ (.dT vs)=>RKV K Z m H kvs vs
 | _,_=>False
structure Ok (K:PySem.W.Frag) (Z:Addr->Prop) (m:Mu) (H:Hp):Prop where
 g:∀ a c,m a=some c->∃ o,H a=some o/\RC K Z m H c o
 z:∀ a,Z a->m a=none/\H a≠none
structure Ext (K:PySem.W.Frag) (Z:Addr->Prop) (m:Mu) (H:Hp) (m':Mu) (H':Hp):Prop where
 t:∀ a vs,SqT K H a vs->SqT K H' a vs
 l:∀ a vs,(m a=none/\¬ Z a)->SqL K H a vs->m' a=none/\SqL K H' a vs
 z:∀ a,Z a->H' a=H a
 c:∀ a,(m a).isSome=true->(m' a).isSome=true
 fz:∀ a o u,H a=some (.frz o u)->H' a=some (.frz o u)
 fm:∀ a,Ae (m a)=true->m' a=m a
section
variable {K:PySem.W.Frag}{Z:Addr->Prop}{m m' m2:Mu}{H H' H2:Hp}
theorem Ext.refl:Ext K Z m H m H:=⟨fun _ _ h=>h,fun _ _ h1 h2=>⟨h1.1,h2⟩,fun _ _=>rfl,fun _ h=>h,fun _ _ _ h=>h,fun _ _=>rfl⟩
theorem Ext.trans(a:Ext K Z m H m' H')(b:Ext K Z m' H' m2 H2):Ext K Z m H m2 H2 :=
 ⟨fun x vs h=>b.t x vs (a.t x vs h),fun x vs h1 h2=>let ⟨q1,q2⟩:=a.l x vs h1 h2;b.l x vs ⟨q1,h1.2⟩ q2,fun x h=>(b.z x h).trans (a.z x h),fun x h=>b.c x (a.c x h),fun x o u h=>b.fz x o u (a.fz x o u h),fun x h=>by
  have q:=a.fm x h
  rw[b.fm x (by rw[q];exact h),q]⟩
mutual
theorem RP.ext(e:Ext K Z m H m' H'):∀ (p:PyData) (v:V),RP K Z m H p v->RP K Z m' H' p v
 | .none,v,h=>by simpa only[RP] using h
 | .bool _,v,h=>by simpa only[RP] using h
 | .int _,v,h=>by simpa only[RP] using h
 | .str _,v,h=>by simpa only[RP] using h
 | .tuple xs,v,h=>by
  simp only[RP]at h ⊢;obtain⟨a,vs,h1,h2,h3⟩:=h;exact⟨a,vs,h1,e.t a vs h2,RPs.ext e xs vs h3⟩
 | .list xs,v,h=>by
  simp only[RP]at h ⊢;obtain⟨a,vs,h1,h2,h3,h4⟩:=h;obtain⟨q1,q2⟩:=e.l a vs h2 h3;exact⟨a,vs,h1,⟨q1,h2.2⟩,q2,RPs.ext e xs vs h4⟩
 | .dict _,v,h=>by simp only[RP]at h
theorem RPs.ext(e:Ext K Z m H m' H'):∀ (xs:List PyData) (vs:List V),RPs K Z m H xs vs->RPs K Z m' H' xs vs
 | [],vs,h=>by simpa only[RPs] using h
 | x::xs,vs,h=>by
  simp only[RPs]at h ⊢;obtain⟨v,r,h1,h2,h3⟩:=h;exact⟨v,r,h1,RP.ext e x v h2,RPs.ext e xs r h3⟩
end
theorem RD.ext(e:Ext K Z m H m' H'){d:D}{v:V}(h:RD K Z m H d v):RD K Z m' H' d v:=by
 cases d with
 | dat p=>exact RP.ext e p v h
 | cel a=>exact⟨h.1,e.c a h.2⟩
theorem RDs.ext(e:Ext K Z m H m' H'):∀ {xs:List D} {vs:List V},RDs K Z m H xs vs->RDs K Z m' H' xs vs
 | [],_,h=>h
 | _::_,_,⟨v,r,h1,h2,h3⟩=>⟨v,r,h1,h2.ext e,RDs.ext e h3⟩
theorem RKV.lift{κ:Type}{Z':Addr->Prop}(tr:∀ p v,RP K Z m H p v->RP K Z' m' H' p v):∀ {xs:List (κ×PyData)} {vs:List (κ×V)},RKV K Z m H xs vs->RKV K Z' m' H' xs vs
 | [],_,h=>h
 | _::_,_,⟨v,r,h1,h2,h3⟩=>⟨v,r,h1,tr _ _ h2,RKV.lift tr h3⟩
theorem RPs.lift{Z':Addr->Prop}(tr:∀ p v,RP K Z m H p v->RP K Z' m' H' p v):∀ {ps:List PyData} {vs:List V},RPs K Z m H ps vs->RPs K Z' m' H' ps vs
 | [],_,h=>by simpa only[RPs] using h
 | _::_,_,h=>by
  simp only[RPs]at h ⊢;obtain⟨v,r,h1,h2,h3⟩:=h;exact⟨v,r,h1,tr _ _ h2,RPs.lift tr h3⟩
theorem RC.lift{Z':Addr->Prop}{c:Cel}{o:HO}(tr:∀ p v,RP K Z m H p v->RP K Z' m' H' p v)(h:RC K Z m H c o):RC K Z' m' H' c o:=by
 cases c<;>cases o<;>first | exact RPs.lift tr h | exact RKV.lift tr h | exact h | (rename_i ob u;cases u<;>first | exact RKV.lift tr h | exact h)
theorem RC.ext{c:Cel}{o:HO}(e:Ext K Z m H m' H')(h:RC K Z m H c o):RC K Z m' H' c o:=h.lift fun p v q=>RP.ext e p v q
theorem RC.mut{c:Cel}{o:HO}(h:RC K Z m H c o)(nf:Ae (some c)=false):(∀ xs,o≠.tup xs)/\(∀ a b,o≠.frz a b):=by
 cases c with
 | fd _=>cases nf
 | ft _=>cases nf
 | dl _=>cases o<;>first | exact h.elim | exact⟨fun _ e=>(nomatch e),fun _ _ e=>(nomatch e)⟩
 | l _=>cases o<;>first | exact h.elim | exact⟨fun _ e=>(nomatch e),fun _ _ e=>(nomatch e)⟩
 | d _=>cases o<;>first | exact h.elim | exact⟨fun _ e=>(nomatch e),fun _ _ e=>(nomatch e)⟩
 | t _=>cases o<;>first | exact h.elim | exact⟨fun _ e=>(nomatch e),fun _ _ e=>(nomatch e)⟩
theorem Ok.l{a:Addr}{xs:List PyData}(ok:Ok K Z m H)(h:m a=some (.l xs)):∃ vs,H a=some (.lst vs)/\RPs K Z m H xs vs:=by
 obtain⟨o,h1,h2⟩:=ok.g a _ h
 cases o<;>first | exact⟨_,h1,h2⟩ | exact h2.elim
theorem Ok.d{a:Addr}{xs:List (aU×PyData)}(ok:Ok K Z m H)(h:m a=some (.d xs)):∃ vs,H a=some (.dK vs)/\RKV K Z m H xs vs:=by
 obtain⟨o,h1,h2⟩:=ok.g a _ h
 cases o<;>first | exact⟨_,h1,h2⟩ | exact h2.elim
theorem Ok.t{a:Addr}{xs:List (List aU×PyData)}(ok:Ok K Z m H)(h:m a=some (.t xs)):∃ vs,H a=some (.dT vs)/\RKV K Z m H xs vs:=by
 obtain⟨o,h1,h2⟩:=ok.g a _ h
 cases o<;>first | exact⟨_,h1,h2⟩ | exact h2.elim
theorem RPs.length:∀ {xs:List PyData} {vs:List V},RPs K Z m H xs vs->vs.length=xs.length
 | [],_,h=>by simp only[RPs]at h;subst h;rfl
 | _::xs,_,h=>by
  simp only[RPs]at h;obtain⟨v,r,h1,_,h3⟩:=h;subst h1;rw[List.length_cons,List.length_cons,RPs.length h3]
theorem RDs.length:∀ {xs:List D} {vs:List V},RDs K Z m H xs vs->vs.length=xs.length
 | [],_,h=>by cases (show _=[] from h);rfl
 | _::xs,_,⟨v,r,h1,_,h3⟩=>by
  subst h1;rw[List.length_cons,List.length_cons,RDs.length h3]
theorem RPs.get:∀ {xs:List PyData} {vs:List V} {i:Nat} {p:PyData},RPs K Z m H xs vs->xs[i]?=some p->∃ v,vs[i]?=some v/\RP K Z m H p v
 | [],_,_,_,_,e=>by simp at e
 | x::xs,_,0,p,h,e=>by
  simp only[RPs]at h;obtain⟨v,r,h1,h2,_⟩:=h;simp at e;subst h1 e;exact⟨v,rfl,h2⟩
 | x::xs,_,i+1,p,h,e=>by
  simp only[RPs]at h;obtain⟨v,r,h1,_,h3⟩:=h;obtain⟨u,q1,q2⟩:=RPs.get (i:=i) (p:=p) h3 (by simpa using e)
  subst h1;exact⟨u,by simpa using q1,q2⟩
theorem RPs.set:∀ {xs:List PyData} {vs:List V} {i:Nat} {p:PyData} {v:V},RPs K Z m H xs vs->RP K Z m H p v->RPs K Z m H (xs.set i p) (vs.set i v)
 | [],_,_,_,_,h,_=>by simp only[RPs]at h;subst h;simp[RPs]
 | x::xs,_,0,p,v,h,q=>by
  simp only[RPs]at h;obtain⟨w,r,h1,_,h3⟩:=h;subst h1;simp only[List.set_cons_zero,RPs];exact⟨v,r,rfl,q,h3⟩
 | x::xs,_,i+1,p,v,h,q=>by
  simp only[RPs]at h;obtain⟨w,r,h1,h2,h3⟩:=h;subst h1;simp only[List.set_cons_succ,RPs];exact⟨w,_,rfl,h2,RPs.set h3 q⟩
theorem RPs.append:∀ {xs ys:List PyData} {vs ws:List V},RPs K Z m H xs vs->RPs K Z m H ys ws->RPs K Z m H (xs++ys) (vs++ws)
 | [],_,_,_,h,q=>by simp only[RPs]at h;subst h;simpa using q
 | x::xs,_,_,_,h,q=>by
  simp only[RPs]at h;obtain⟨w,r,h1,h2,h3⟩:=h;subst h1;simp only[List.cons_append,RPs];exact⟨w,_,rfl,h2,RPs.append h3 q⟩
theorem RPs.drop:∀ {xs:List PyData} {vs:List V} (n:Nat),RPs K Z m H xs vs->RPs K Z m H (xs.drop n) (vs.drop n)
 | _,_,0,h=>by simpa using h
 | [],_,n+1,h=>by simp only[RPs]at h;subst h;simp[RPs]
 | x::xs,_,n+1,h=>by
  simp only[RPs]at h;obtain⟨w,r,h1,h2,h3⟩:=h;subst h1;simpa using RPs.drop n h3
theorem RPs.take:∀ {xs:List PyData} {vs:List V} (n:Nat),RPs K Z m H xs vs->RPs K Z m H (xs.take n) (vs.take n)
 | _,_,0,h=>by simp[RPs]
 | [],_,n+1,h=>by simp only[RPs]at h;subst h;simp[RPs]
 | x::xs,_,n+1,h=>by
  simp only[RPs]at h;obtain⟨w,r,h1,h2,h3⟩:=h;subst h1;simp only[List.take_succ_cons,RPs];exact⟨w,_,rfl,h2,RPs.take n h3⟩
theorem RPs.reverse:∀ {xs:List PyData} {vs:List V},RPs K Z m H xs vs->RPs K Z m H xs.reverse vs.reverse
 | [],_,h=>by simp only[RPs]at h;subst h;simp[RPs]
 | x::xs,_,h=>by
  simp only[RPs]at h;obtain⟨w,r,h1,h2,h3⟩:=h;subst h1;rw[List.reverse_cons,List.reverse_cons];exact(RPs.reverse h3).append (by simp only[RPs];exact⟨w,[],rfl,h2,rfl⟩)
@[simp] def pds:List D->Option (List PyData)
 | []=>some []
 | .dat p::r=>(pds r).map (p :: ·)
 | .cel _::_=>none
theorem RDs.pds:∀ {xs:List D} {vs:List V} {ps:List PyData},RDs K Z m H xs vs->DL.pds xs=some ps->RPs K Z m H ps vs
 | [],vs,ps,h,e=>by
  cases (show vs=[] from h)
  cases (show some []=some ps from e)
  simp[RPs]
 | .dat p::r,vs,ps,⟨v,w,h1,h2,h3⟩,e=>by
  simp only[DL.pds]at e
  cases q:DL.pds r with
  | none=>rw[q]at e;cases e
  | some qs =>
   rw[q]at e
   cases e
   simp only[RPs];exact⟨v,w,h1,h2,RDs.pds h3 q⟩
 | .cel a::r,_,_,_,e=>by simp only[DL.pds]at e;cases e
theorem SqT.same{a:Addr}{xs:List V}(e:Same H H')(h:SqT K H a xs):SqT K H' a xs:=by
 rcases h with (h | ⟨o,h⟩) | h
 ·exact .inl (.inl (e _ _ h))
 ·exact .inl (.inr ⟨o,e _ _ h⟩)
 ·exact .inr h
theorem Ext.grow(s:Same H H')(hz:∀ a,Z a->H a≠none):Ext K Z m H m H':=⟨fun _ _ h=>SqT.same s h,fun _ _ h1 h2=>⟨h1.1,s.seq h2⟩,fun a h=>by
 cases q:H a with
 | none=>exact absurd q (hz a h)
 | some o=>exact s a o q,fun _ h=>h,fun a o u h=>s _ _ h,fun _ _=>rfl⟩
theorem Ok.grow(s:Same H H')(ok:Ok K Z m H):Ok K Z m H':=by
 have e:Ext K Z m H m H':=Ext.grow s fun a h=>(ok.z a h).2
 refine⟨fun a c h=>?_,fun a h=>⟨(ok.z a h).1,by rw[e.z a h];exact(ok.z a h).2⟩⟩
 obtain⟨o,h1,h2⟩:=ok.g a c h;exact⟨o,s _ _ h1,h2.ext e⟩
theorem Ok.ext(s:Same H H')(ok:Ok K Z m H):Ext K Z m H m H':=Ext.grow s fun a h=>(ok.z a h).2
theorem dX{p:Addr}{o:HO}(h:H p=none):Same H (upd H p o):=fun b u q=>by rw[cW (wG q h)];exact q
def cK(m:Mu)(a:Addr)(c:Cel):Mu:=fun b=>if b=a then some c else m b
theorem eI{a:Addr}{c:Cel}:cK m a c a=some c:=by unfold cK;rw[if_pos rfl]
theorem eR{a b:Addr}{c:Cel}(h:b≠a):cK m a c b=m b:=by unfold cK;rw[if_neg h]
theorem Jf{a:Addr}{x y:Cel}:cK (cK m a x) a y=cK m a y:=by funext b;unfold cK;split<;>rfl
theorem SqL.ne{p a:Addr}{xs:List V}(hp:H p=none)(hk:K.lookup p=none)(h:SqL K H a xs):a≠p:=by
 rintro rfl;rcases h with (h | ⟨o,h⟩) | ⟨o,_,_,h,_⟩
 ·rw[hp]at h;cases h
 ·rw[hp]at h;cases h
 ·rw[hk]at h;cases h
theorem Ext.cell{p:Addr}{o:HO}{c:Cel}(ok:Ok K Z m H)(hp:H p=none)(hk:K.lookup p=none):Ext K Z m H (cK m p c) (upd H p o):=by
 refine⟨fun _ _ h=>SqT.same (dX hp) h,fun a xs h1 h2=>?_,fun a h=>?_,fun a h=>?_,fun a o u h=>dX hp _ _ h,fun a h=>?_⟩
 ·have ne:=SqL.ne hp hk h2
  exact⟨by rw[eR ne];exact h1.1,(dX hp).seq h2⟩
 ·have ne:a≠p:=fun e=>(ok.z a h).2 (by rw[e];exact hp)
  exact cW ne
 ·by_cases e:a=p
  ·subst e;rw[eI];rfl
  ·rw[eR e];exact h
 ·have ne:a≠p:=by
   rintro rfl
   cases q:m a with
   | none=>rw[q]at h;cases h
   | some x =>
    obtain⟨w,h1,_⟩:=ok.g a x q;rw[hp]at h1
    cases h1
  exact eR ne
theorem Ok.updC{p:Addr}{o:HO}{c:Cel}(ok:Ok K Z m H)(hz:¬ Z p)(e:Ext K Z m H (cK m p c) (upd H p o))(r:RC K Z m H c o):Ok K Z (cK m p c) (upd H p o):=by
 refine⟨fun a x h=>?_,fun a h=>?_⟩
 ·by_cases q:a=p
  ·subst q;rw[eI]at h
   cases h
   exact⟨o,dR,r.ext e⟩
  ·rw[eR q]at h;obtain⟨w,h1,h2⟩:=ok.g a x h;exact⟨w,by rw[cW q];exact h1,h2.ext e⟩
 ·have ne:a≠p:=fun e=>hz (e▸h)
  exact⟨by rw[eR ne];exact(ok.z a h).1,by rw[cW ne];exact(ok.z a h).2⟩
theorem Ok.cell{p:Addr}{o:HO}{c:Cel}(ok:Ok K Z m H)(hp:H p=none)(hk:K.lookup p=none)(r:RC K Z m H c o):Ok K Z (cK m p c) (upd H p o) :=
 ok.updC (fun h=>(ok.z p h).2 hp) (Ext.cell ok hp hk) r
theorem Ext.put{a:Addr}{o o0:HO}{c c0:Cel}(ok:Ok K Z m H)(hm:m a=some c0)(hH:H a=some o0)(nf:Ae (some c0)=false:=by rfl):Ext K Z m H (cK m a c) (upd H a o):=by
 have mu:(∀ xs,o0≠.tup xs)/\(∀ a b,o0≠.frz a b):=by
  obtain⟨w,h1,h2⟩:=ok.g a c0 hm;rw[hH]at h1
  cases h1
  exact h2.mut nf
 refine⟨fun b xs h=>?_,fun b xs h1 h2=>?_,fun b h=>?_,fun b h=>?_,fun b w u h=>?_,fun b h=>?_⟩
 ·rcases h with (h | ⟨w,h⟩) | h
  ·have ne:b≠a:=by rintro rfl;rw[hH]at h;cases h;exact absurd rfl (mu.1 _)
   exact .inl (.inl (by rw[cW ne];exact h))
  ·have ne:b≠a:=by rintro rfl;rw[hH]at h;cases h;exact absurd rfl (mu.2 _ _)
   exact .inl (.inr ⟨w,by rw[cW ne];exact h⟩)
  ·exact .inr h
 ·have ne:b≠a:=by rintro rfl;rw[hm]at h1;cases h1.1
  refine⟨by rw[eR ne];exact h1.1,?_⟩
  rcases h2 with (h | ⟨w,h⟩) | h
  ·exact .inl (.inl (by rw[cW ne];exact h))
  ·exact .inl (.inr ⟨w,by rw[cW ne];exact h⟩)
  ·exact .inr h
 ·have ne:b≠a:=by rintro rfl;have:=(ok.z b h).1;rw[hm]at this;cases this
  exact cW ne
 ·by_cases e:b=a
  ·subst e;rw[eI];rfl
  ·rw[eR e];exact h
 ·have ne:b≠a:=by rintro rfl;rw[hH]at h;cases h;exact absurd rfl (mu.2 _ _)
  rw[cW ne];exact h
 ·have ne:b≠a:=by rintro rfl;rw[hm,nf]at h;cases h
  exact eR ne
theorem Ok.put{a:Addr}{o o0:HO}{c c0:Cel}(ok:Ok K Z m H)(hm:m a=some c0)(hH:H a=some o0)(r:RC K Z m H c o)(nf:Ae (some c0)=false:=by rfl):Ok K Z (cK m a c) (upd H a o) :=
 ok.updC (fun h=>by have:=(ok.z a h).1;rw[hm]at this;cases this) (Ext.put ok hm hH nf) r
def RS(K:PySem.W.Frag)(Z:Addr->Prop)(m:Mu)(H:Hp)(d:bZ)(s:L2.St):Prop:=d.length=s.length/\∀ (i:Nat) (x:D),d[i]?=some (some x)->∃ v,s[i]?=some (some v)/\RD K Z m H x v
theorem RS.ext{d:bZ}{s:L2.St}(r:RS K Z m H d s)(e:Ext K Z m H m' H'):RS K Z m' H' d s:=⟨r.1,fun i x h=>let ⟨v,h1,h2⟩:=r.2 i x h;⟨v,h1,h2.ext e⟩⟩
theorem RS.set{d:bZ}{s:L2.St}{i:Nat}{x:D}{v:V}(r:RS K Z m H d s)(h:RD K Z m H x v):RS K Z m H (d.set i (some x)) (s.set i (some v)):=by
 refine⟨by rw[List.length_set,List.length_set];exact r.1,fun j y q=>?_⟩
 by_cases e:j=i
 ·subst e;rw[List.getElem?_set]at q;simp only[if_true]at q
  split at q
  ·rename_i hl
   cases q
   refine⟨v,?_,h⟩;rw[List.getElem?_set];simp only[if_true];rw[if_pos (by rw[<- r.1];exact hl)]
  ·cases q
 ·rw[List.getElem?_set_ne (Ne.symm e)]at q;obtain⟨w,h1,h2⟩:=r.2 j y q;exact⟨w,by rw[List.getElem?_set_ne (Ne.symm e)];exact h1,h2⟩
end
abbrev DK:=D->Mu->Prop
abbrev DE:=bZ->Mu->DK->Prop
abbrev DT:=bZ->Mu->(Bool->Mu->Prop)->Prop
abbrev DA:=bZ->Mu->(List D->Mu->Prop)->Prop
structure Ends2 where
 nx:bZ->Mu->Prop
 rt:DK
 bk:bZ->Mu->Prop:=fun _ _=>False
 ct:bZ->Mu->Prop:=fun _ _=>False
abbrev DS:=Ends2->bZ->Mu->Prop
def LE(K:PySem.W.Frag)(f:DE):TE:=fun s H Q=>∃ (Z:Addr->Prop) (d:bZ) (m:Mu) (R:DK),Ok K Z m H/\RS K Z m H d s/\f d m R /\
 ∀ x m' v H',R x m'->Ext K Z m H m' H'->Ok K Z m' H'->RD K Z m' H' x v->Q v H'
def LT(K:PySem.W.Frag)(f:DT):TT:=fun s H Q=>∃ (Z:Addr->Prop) (d:bZ) (m:Mu) (R:Bool->Mu->Prop),Ok K Z m H/\RS K Z m H d s/\f d m R /\
 ∀ b m' H',R b m'->Ext K Z m H m' H'->Ok K Z m' H'->Q b H'
def LA(K:PySem.W.Frag)(f:DA):TA:=fun s H Q=>∃ (Z:Addr->Prop) (d:bZ) (m:Mu) (R:List D->Mu->Prop),Ok K Z m H/\RS K Z m H d s/\f d m R /\
 ∀ xs m' vs H',R xs m'->Ext K Z m H m' H'->Ok K Z m' H'->RDs K Z m' H' xs vs->Q vs H'
def LS(K:PySem.W.Frag)(f:DS):TS:=fun E s H=>∃ (Z:Addr->Prop) (d:bZ) (m:Mu) (R:Ends2),Ok K Z m H/\RS K Z m H d s/\f R d m /\
 (∀ d' m' s' H',R.nx d' m'->Ext K Z m H m' H'->Ok K Z m' H'->RS K Z m' H' d' s'->E.nx s' H') /\
 (∀ x m' v H',R.rt x m'->Ext K Z m H m' H'->Ok K Z m' H'->RD K Z m' H' x v->E.rt v H') /\
 (∀ d' m' s' H',R.bk d' m'->Ext K Z m H m' H'->Ok K Z m' H'->RS K Z m' H' d' s'->E.bk s' H') /\
 (∀ d' m' s' H',R.ct d' m'->Ext K Z m H m' H'->Ok K Z m' H'->RS K Z m' H' d' s'->E.ct s' H')
theorem PE.imp{X:Cx}{e:Expr}{t t':TE}(h:PE X e t)(q:∀ s H Q,t' s H Q->t s H Q):PE X e t':=fun pins s d H Q I w=>h pins s d H Q I (q _ _ _ w)
theorem PT.imp{X:Cx}{e:Expr}{t t':TT}(h:PT X e t)(q:∀ s H Q,t' s H Q->t s H Q):PT X e t':=fun pins s d H Q I w=>h pins s d H Q I (q _ _ _ w)
theorem PA.imp{X:Cx}{e:List Expr}{t t':TA}(h:PA X e t)(q:∀ s H Q,t' s H Q->t s H Q):PA X e t':=fun pos pins s d H Q I w=>h pos pins s d H Q I (q _ _ _ w)
theorem PS.imp{X:Cx}{e:Stmt}{t t':TS}(h:PS X e t)(q:∀ E s H,t' E s H->t E s H):PS X e t':=fun pins s d H E I w=>h pins s d H E I (q _ _ _ w)
theorem PSs.imp{X:Cx}{e:List Stmt}{t t':TS}(h:PSs X e t)(q:∀ E s H,t' E s H->t E s H):PSs X e t':=fun pins s d H E I w=>h pins s d H E I (q _ _ _ w)
section
variable {X:Cx}{pos:Pos}
@[simp] def aA(i:Nat):DE:=fun d m Q=>∃ x,d[i]?=some (some x)/\Q x m
theorem IZ(i:Nat){x:Str}(hN:X.N[i]?=some x:=by rfl)(hv:mO X.env.scope x:=by first | exact Or.inl rfl | exact Or.inr (Or.inl rfl) | exact Or.inr (Or.inr rfl))(hd:(x==("__debug__" : Str))=false:=by decide)
  (hcd:(x==("__classdict__" : Str))=false:=by decide):PE X (.Name x pos) (LE X.K (aA i)) :=
 PE.imp (JB hN hv hd hcd) fun s H Q h=>by
  obtain⟨Z,d,m,R,ok,rs,⟨x,h1,h2⟩,k⟩:=h;obtain⟨v,q1,q2⟩:=rs.2 i x h1;exact⟨v,q1,k x m v H h2 Ext.refl ok q2⟩
@[simp] def aE(p:PyData):DE:=fun _ m Q=>Q (.dat p) m
theorem Cb{e:Expr}{p:PyData}{v:V}(h:PE X e (tC v))(r:∀ Z m H,RP X.K Z m H p v):PE X e (LE X.K (aE p)) :=
 PE.imp h fun s H Q ⟨Z,d,m,R,ok,rs,h2,k⟩=>k _ m v H h2 Ext.refl ok (r Z m H)
theorem le_int{i:Int}{j:Nat}:PE X (.Constant (.int i) j pos) (LE X.K (aE (.int i))):=Cb VB fun Z m H=>by simp only[RP]
theorem V0{b:Bool}{j:Nat}:PE X (.Constant (.bool b) j pos) (LE X.K (aE (.bool b))):=Cb HL fun Z m H=>by simp only[RP]
theorem LM{j:Nat}:PE X (.Constant .none j pos) (LE X.K (aE .none)):=Cb U1 fun Z m H=>by simp only[RP]
theorem le_str{x:Str}{j:Nat}:PE X (.Constant (.str x) j pos) (LE X.K (aE (.str x))):=Cb Uk fun Z m H=>by simp only[RP]
end
section
variable {X:Cx}{pins:List (Addr×Obj)}{σ:L2.St}{H:Hp}{s:Shared}{Z:Addr->Prop}{m:Mu}
mutual
theorem RP.reads(I:Inv X pins σ H s):∀ (p:PyData) (v:V) (u:Value),RP X.K Z m H p v->RelV v u->∃ as,Reads s.heap u p as
 | .none,v,u,h,r=>by simp only[RP]at h;subst h;cases r;exact⟨_,.none⟩
 | .bool b,v,u,h,r=>by simp only[RP]at h;subst h;cases r;exact⟨_,.bool b⟩
 | .int i,v,u,h,r=>by simp only[RP]at h;subst h;obtain⟨t,rfl⟩:=r;exact⟨_,.int i t⟩
 | .str x,v,u,h,r=>by simp only[RP]at h;subst h;obtain⟨t,rfl⟩:=r;exact⟨_,.str x t⟩
 | .tuple xs,v,u,h,r=>by
  simp only[RP]at h;obtain⟨a,vs,rfl,h2,h3⟩:=h
  cases r
  obtain⟨its,rv,⟨o,e,c,n,d⟩,_⟩:=I.tuple h2;obtain⟨as,q⟩:=RPs.reads I xs vs its h3 rv;exact⟨_,.tuple e c d (by simpa using q)⟩
 | .list xs,v,u,h,r=>by
  simp only[RP]at h;obtain⟨a,vs,rfl,_,h2,h3⟩:=h
  cases r
  obtain⟨its,rv,⟨o,n,e,c,_,d⟩,_⟩:=I.list h2;obtain⟨as,q⟩:=RPs.reads I xs vs its h3 rv;exact⟨_,.list e c d (by simpa using q)⟩
 | .dict _,v,u,h,r=>by simp only[RP]at h
theorem RPs.reads(I:Inv X pins σ H s):∀ (xs:List PyData) (vs:List V) (us:List Value),RPs X.K Z m H xs vs->Vals vs us->∃ as,ReadsAll s.heap us xs as
 | [],vs,us,h,r=>by simp only[RPs]at h;subst h;cases r;exact⟨_,.nil⟩
 | x::xs,vs,us,h,r=>by
  simp only[RPs]at h;obtain⟨v,w,rfl,h1,h2⟩:=h
  cases r with
  | cons r1 r2 =>
   obtain⟨as,q1⟩:=RP.reads I x v _ h1 r1;obtain⟨bs,q2⟩:=RPs.reads I xs w _ h2 r2;exact⟨_,.cons q1 q2⟩
end
theorem RP.noDict(K:PySem.W.Frag):∀ (p:PyData) (v:V),RP K Z m H p v->p.hasDict=false
 | .none,_,_=>rfl
 | .bool _,_,_=>rfl
 | .int _,_,_=>rfl
 | .str _,_,_=>rfl
 | .tuple xs,v,h=>by
  simp only[RP]at h;obtain⟨_,vs,_,_,h⟩:=h;simp only[PyData.hasDict];exact go xs vs h
 | .list xs,v,h=>by
  simp only[RP]at h;obtain⟨_,vs,_,_,_,h⟩:=h;simp only[PyData.hasDict];exact go xs vs h
 | .dict _,v,h=>by simp only[RP]at h
where go:∀ (xs:List PyData) (vs:List V),RPs K Z m H xs vs->PyData.hasDictAll xs=false
 | [],_,_=>rfl
 | x::xs,vs,h=>by
  simp only[RPs]at h;obtain⟨v,w,rfl,h1,h2⟩:=h;simp only[PyData.hasDictAll,RP.noDict K x v h1,go xs w h2,Bool.or_self]
end
abbrev D2:=D->D->Mu->DK->Prop
def dI(X:Cx)(op:Value->Value->Sem Value)(r:D2):Prop :=
 ∀ (pins:List (Addr×Obj)) (s:Shared) (σ:L2.St) (H:Hp) (Z:Addr->Prop) (m:Mu) (x y:V) (dx dy:D) (v u:Value) (R:DK) (Q:VK),Inv X pins σ H s->Ok X.K Z m H->RelV x v->RelV y u->RD X.K Z m H dx x->RD X.K Z m H dy y->r dx dy m R ->
  (∀ d m' v' H',R d m'->Ext X.K Z m H m' H'->Ok X.K Z m' H'->RD X.K Z m' H' d v'->Q v' H')->wpAny (model X.prog X.w) X.A (op v u) (EP X pins σ Q) X.xe s
@[simp] def aF(r:D2)(f g:DE):DE:=fun d m Q=>f d m fun x m1=>g d m1 fun y m2=>r x y m2 Q
section
variable {X:Cx}{a b c:Expr}{f g:DE}{pos:Pos}
theorem Mo{op:Value->Value->Sem Value}{r:D2}(ho:dI X op r)(ha:PE X a (LE X.K f))(hb:PE X b (LE X.K g)){pins:List (Addr×Obj)}{s:Shared}{σ:L2.St}{H:Hp}{Q:VK}(I:Inv X pins σ H s)
  (h:LE X.K (aF r f g) σ H Q) :
  wpAny (model X.prog X.w) X.A (eval a X.env) (fun v s₁=>wpAny (model X.prog X.w) X.A (eval b X.env) (fun u s₂=>wpAny (model X.prog X.w) X.A (op v u) (EP X pins σ Q) X.xe s₂) X.xe s₁) X.xe s:=by
 obtain⟨Z,d,m,R,ok,rs,hf,k⟩:=h;refine Xg ha hb I (R:=fun x y H2=>∃ m2 dx dy,Ok X.K Z m2 H2/\Ext X.K Z m H m2 H2/\RD X.K Z m2 H2 dx x/\RD X.K Z m2 H2 dy y/\r dx dy m2 R) ?_ fun v u s2 x y H2 I2 rx ry ⟨m2,dx,dy,ok2,e2,r1,r2,q⟩=>?_
 ·exact⟨Z,d,m,_,ok,rs,hf,fun x m1 v H1 q e1 ok1 r1=>⟨Z,d,m1,_,ok1,rs.ext e1,q,fun y m2 v2 H2 q2 e2 ok2 r2=>⟨m2,x,y,ok2,e1.trans e2,r1.ext e2,r2,q2⟩⟩⟩
 ·exact ho pins s2 σ H2 Z m2 x y dx dy v u R Q I2 ok2 rx ry r1 r2 q fun d' m' v' H' h1 h2 h3 h4=>k d' m' v' H' h1 (e2.trans h2) h3 h4
theorem WW{op:Operator}{r:D2}(ho:dI X (binaryOp op) r)(ha:PE X a (LE X.K f))(hb:PE X b (LE X.K g)):PE X (.BinOp a op b pos) (LE X.K (aF r f g)) :=
 fun _ _ _ _ _ I h=>wpAny_BinOp (Mo ho ha hb I h)
theorem z7{op:CmpOp}{r:D2}(ho:dI X (compareOp op) r)(ha:PE X a (LE X.K f))(hb:PE X b (LE X.K g))(hm:behindInMarks op b=false:=by exact Cm _):PE X (.Compare a [op] [b] pos) (LE X.K (aF r f g)) :=
 fun _ _ _ _ _ I h=>wpAny_Compare1 (Mo ho ha hb I h) hm
@[simp] def aP(f:DE):DT:=fun d m Q=>f d m fun x m1=>∃ b,x=.dat (.bool b)/\Q b m1
theorem LT.le{K:PySem.W.Frag}{σ:L2.St}{H:Hp}{Q:Bool->Hp->Prop}(h:LT K (aP f) σ H Q):LE K f σ H (fun x H'=>∃ k,x=.bl k/\Q k H'):=by
 obtain⟨Z,d,m,R,ok,rs,hf,k⟩:=h;refine⟨Z,d,m,_,ok,rs,hf,fun x m' v H' ⟨b,e,q⟩ e1 ok1 rd=>⟨b,?_,k b m' H' q e1 ok1⟩⟩;subst e;simpa only[RD,RP] using rd
theorem GV{op:CmpOp}{r:D2}(ho:dI X (compareOp op) r)(ha:PE X a (LE X.K f))(hb:PE X b (LE X.K g))(hm:behindInMarks op b=false:=by exact Cm _):PT X (.Compare a [op] [b] pos) (LT X.K (aP (aF r f g))):=by
 intro pins s σ H Q I h;refine wpAny_isTrue_Compare1 (aZ (Mo ho ha hb I h.le) fun v s1 h1=>aZ h1 fun u s2 h2=>aZ h2 fun c s3 ⟨z,H3,I3,r3,k,e,q3⟩=>?_) hm;subst e
 cases r3
 exact wpAny_truthy_bool ⟨H3,I3,q3⟩
theorem KB(h:PE X a (LE X.K f))(he:∀ whole,isTrue a X.env whole=(do let v <- whole;standAt a.pos;holding [v] (truthy v)):=by intro _;rfl):PT X a (LT X.K (aP f)) :=
 PT.imp (OP h he) fun _ _ _ q=>q.le
end
section
variable {X:Cx}{a b c:Expr}{bC:List Expr}{f g:DE}{t u:DT}{pos:Pos}
@[simp] def mJ(t u:DT):DT:=fun d m Q=>t d m fun k m1=>if k=true then u d m1 Q else Q false m1
@[simp] def cJ(t u:DT):DT:=fun d m Q=>t d m fun k m1=>if k=true then Q true m1 else u d m1 Q
@[simp] def cU(t:DT):DT:=fun d m Q=>t d m fun k m1=>Q (!k) m1
theorem PW.imp{e:Expr}{t t':TT}(h:PW X e t)(q:∀ s H Q,t' s H Q->t s H Q):PW X e t':=fun wh pins s d H Q I w=>h wh pins s d H Q I (q _ _ _ w)
theorem v6(ha:PT X a (LT X.K t)):PW X (.BoolOp .And [a] pos) (LT X.K t):=DN ha
theorem p9(ha:PT X a (LT X.K t)):PW X (.BoolOp .Or [a] pos) (LT X.K t):=GI ha
theorem OC(ha:PT X a (LT X.K t))(hb:PW X (.BoolOp .And (b::bC) pos) (LT X.K u)):PW X (.BoolOp .And (a::b::bC) pos) (LT X.K (mJ t u)) :=
 PW.imp (u9 ha hb) fun s H Q ⟨Z,d,m,R,ok,rs,h,k⟩=>⟨Z,d,m,_,ok,rs,h,fun b m1 H1 q e1 ok1=>by
  cases b with
  | true=>rw[if_pos rfl]at q ⊢;exact⟨Z,d,m1,R,ok1,rs.ext e1,q,fun b' m2 H2 q2 e2 ok2=>k b' m2 H2 q2 (e1.trans e2) ok2⟩
  | false=>rw[if_neg Bool.false_ne_true]at q ⊢;exact k false m1 H1 q e1 ok1⟩
theorem IN(ha:PT X a (LT X.K t))(hb:PW X (.BoolOp .Or (b::bC) pos) (LT X.K u)):PW X (.BoolOp .Or (a::b::bC) pos) (LT X.K (cJ t u)) :=
 PW.imp (d8 ha hb) fun s H Q ⟨Z,d,m,R,ok,rs,h,k⟩=>⟨Z,d,m,_,ok,rs,h,fun b m1 H1 q e1 ok1=>by
  cases b with
  | false=>rw[if_neg Bool.false_ne_true]at q ⊢;exact⟨Z,d,m1,R,ok1,rs.ext e1,q,fun b' m2 H2 q2 e2 ok2=>k b' m2 H2 q2 (e1.trans e2) ok2⟩
  | true=>rw[if_pos rfl]at q ⊢;exact k true m1 H1 q e1 ok1⟩
theorem NR(ha:PT X a (LT X.K t)):PT X (.UnaryOp .Not a pos) (LT X.K (cU t)) :=
 PT.imp (d5 ha) fun s H Q ⟨Z,d,m,R,ok,rs,h,k⟩=>⟨Z,d,m,_,ok,rs,h,fun b m1 H1 q e1 ok1=>k (!b) m1 H1 q e1 ok1⟩
@[simp] def fK(f g:DE):DE:=fun d m Q=>f d m fun x m1=>∃ b,x=.dat (.bool b)/\if b=true then g d m1 Q else Q (.dat (.bool false)) m1
@[simp] def Fz(f:DE):DE:=fun d m Q=>f d m fun x m1=>∃ b,x=.dat (.bool b)/\Q (.dat (.bool (!b))) m1
theorem RD.bl{K:PySem.W.Frag}{Z:Addr->Prop}{m:Mu}{H:Hp}{b:Bool}{v:V}(h:RD K Z m H (.dat (.bool b)) v):v=.bl b:=by simpa only[RD,RP] using h
theorem RD.ofBl{K:PySem.W.Frag}{Z:Addr->Prop}{m:Mu}{H:Hp}{b:Bool}:RD K Z m H (.dat (.bool b)) (.bl b):=by simp only[RD,RP]
theorem EU{op:BoolOp}(h:PE X a (LE X.K f)):PE X (.BoolOp op [a] pos) (LE X.K f):=DP h
theorem SQ(ha:PE X a (LE X.K f))(hb:PE X (.BoolOp .And (b::bC) pos) (LE X.K g)):PE X (.BoolOp .And (a::b::bC) pos) (LE X.K (fK f g)) :=
 PE.imp (SF ha hb) fun s H Q ⟨Z,d,m,R,ok,rs,h,k⟩=>⟨Z,d,m,_,ok,rs,h,fun x m1 v H1 ⟨b,e,q⟩ e1 ok1 rd=>by
  subst e;refine⟨b,rd.bl,?_⟩
  cases b with
  | true=>rw[if_pos rfl]at q ⊢;exact⟨Z,d,m1,R,ok1,rs.ext e1,q,fun x2 m2 v2 H2 q2 e2 ok2 r2=>k x2 m2 v2 H2 q2 (e1.trans e2) ok2 r2⟩
  | false=>rw[if_neg Bool.false_ne_true]at q ⊢;exact k _ m1 _ H1 q e1 ok1 .ofBl⟩
theorem BN(ha:PE X a (LE X.K f)):PE X (.UnaryOp .Not a pos) (LE X.K (Fz f)) :=
 PE.imp (w5 ha) fun s H Q ⟨Z,d,m,R,ok,rs,h,k⟩=>⟨Z,d,m,_,ok,rs,h,fun x m1 v H1 ⟨b,e,q⟩ e1 ok1 rd=>by
  subst e;exact⟨b,rd.bl,k _ m1 _ H1 q e1 ok1 .ofBl⟩⟩
@[simp] def mW(t:DT)(f g:DE):DE:=fun d m Q=>t d m fun k m1=>if k=true then f d m1 Q else g d m1 Q
theorem WY(hc:PT X c (LT X.K t))(ha:PE X a (LE X.K f))(hb:PE X b (LE X.K g)):PE X (.IfExp c a b pos) (LE X.K (mW t f g)) :=
 PE.imp (ID hc ha hb) fun s H Q ⟨Z,d,m,R,ok,rs,h,k⟩=>⟨Z,d,m,_,ok,rs,h,fun b m1 H1 q e1 ok1=>by
  cases b with
  | true=>rw[if_pos rfl]at q ⊢;exact⟨Z,d,m1,R,ok1,rs.ext e1,q,fun x2 m2 v2 H2 q2 e2 ok2 r2=>k x2 m2 v2 H2 q2 (e1.trans e2) ok2 r2⟩
  | false=>rw[if_neg Bool.false_ne_true]at q ⊢;exact⟨Z,d,m1,R,ok1,rs.ext e1,q,fun x2 m2 v2 H2 q2 e2 ok2 r2=>k x2 m2 v2 H2 q2 (e1.trans e2) ok2 r2⟩⟩
end
section
variable {X:Cx}{e:Expr}{es:List Expr}{f:DE}{g:DA}{pos:Pos}
@[simp] def aH:DA:=fun _ m Q=>Q [] m
@[simp] def aC(f:DE)(g:DA):DA:=fun d m Q=>f d m fun x m1=>g d m1 fun xs m2=>Q (x::xs) m2
theorem UU:PA X [] (LA X.K aH):=PA.imp lN fun s H Q ⟨Z,d,m,R,ok,rs,h,k⟩=>k [] m [] H h Ext.refl ok rfl
theorem AB(ha:PE X e (LE X.K f))(hr:PA X es (LA X.K g))(hs:starEach (e::es) X.env=(false,eval e X.env)::starEach es X.env:=by rfl):PA X (e::es) (LA X.K (aC f g)) :=
 PA.imp (iV ha hr hs) fun s H Q ⟨Z,d,m,R,ok,rs,h,k⟩=>⟨Z,d,m,_,ok,rs,h,fun x m1 v H1 q e1 ok1 r1=>⟨Z,d,m1,_,ok1,rs.ext e1,q,fun xs m2 vs H2 q2 e2 ok2 r2 =>
  k (x::xs) m2 (v::vs) H2 q2 (e1.trans e2) ok2 ⟨v,vs,rfl,r1.ext e2,r2⟩⟩⟩
@[simp] def cE(g:DA):DE:=fun d m Q=>g d m fun xs m1=>∃ ps,pds xs=some ps/\ps.length<=sizeLine/\Q (.dat (.tuple ps)) m1
theorem y6{j:Nat}(h:PA X es (LA X.K g)):PE X (.Tuple es j pos) (LE X.K (cE g)) :=
 PE.imp (So h) fun s H Q ⟨Z,d,m,R,ok,rs,h,k⟩=>⟨Z,d,m,_,ok,rs,h,fun xs m1 vs H1 ⟨ps,e,hz,q⟩ e1 ok1 r1=>by
  have rp:=r1.pds e
  refine⟨by rw[rp.length];exact hz,fun p hp=>?_⟩
  have sm:Same H1 (upd H1 p (.tup vs)):=dX hp
  refine k _ m1 _ _ q (e1.trans (ok1.ext sm)) (ok1.grow sm) ?_;simp only[RD,RP];exact⟨p,vs,rfl,.inl (.inl dR),RPs.ext (ok1.ext sm) _ _ rp⟩⟩
@[simp] def dD(g:DA):DE:=fun d m Q=>g d m fun xs m1=>∃ ps,pds xs=some ps/\ps.length<=sizeLine/\Q (.dat (.list ps)) m1
@[simp] def nK(g:DA):DE:=fun d m Q=>g d m fun xs m1=>∃ ps,pds xs=some ps/\ps.length<=sizeLine/\∀ a,m1 a=none->Q (.cel a) (cK m1 a (.l ps))
theorem K6{t:TA}(h:PA X es t):PE X (.List es pos) (fun s H Q=>t s H fun xs H1=>xs.length<=sizeLine/\∀ p,H1 p=none->X.K.lookup p=none->Q (.ref p) (upd H1 p (.lst xs))):=by
 intro pins s σ H Q I hq;refine wpAny_List_spliced (aZ (h pos pins s σ H _ I hq) fun us s1 ⟨xs,H1,I1,r,z,q⟩=>⟨by rw[<- r.length];exact z,?_⟩)
 have hf:H1 s1.heap.objs.size=none:=I1.hok.fresh (Nat.le_refl _)
 have hk:X.K.lookup s1.heap.objs.size=none:=by
  cases e:X.K.lookup s1.heap.objs.size with
  | none=>rfl
  | some o=>exact absurd (Heap.lt_size (I1.kIn _ o e)) (Nat.lt_irrefl _)
 refine⟨.ref s1.heap.objs.size,upd H1 s1.heap.objs.size (.lst xs),I1.laid (t':=s1.toks) (fun b u e=>Heap.get?_push_of_some _ e) (Nat.le_refl _) ?_,rfl,q _ hf hk⟩;exact⟨z,us,0,r,Heap.get?_push_size _ rfl⟩
theorem gU{K:PySem.W.Frag}{Z:Addr->Prop}{m:Mu}{H:Hp}{p:Addr}(ok:Ok K Z m H)(hp:H p=none):m p=none/\¬ Z p:=by
 refine⟨?_,fun h=>(ok.z p h).2 hp⟩
 cases e:m p with
 | none=>rfl
 | some ds =>
  obtain⟨vs,h1,_⟩:=ok.g p ds e;rw[hp]at h1
  cases h1
theorem GR(h:PA X es (LA X.K g)):PE X (.List es pos) (LE X.K (dD g)) :=
 PE.imp (K6 h) fun s H Q ⟨Z,d,m,R,ok,rs,h,k⟩=>⟨Z,d,m,_,ok,rs,h,fun xs m1 vs H1 ⟨ps,e,hz,q⟩ e1 ok1 r1=>by
  have rp:=r1.pds e
  refine⟨by rw[rp.length];exact hz,fun p hp hk=>?_⟩
  have sm:Same H1 (upd H1 p (.lst vs)):=dX hp
  refine k _ m1 _ _ q (e1.trans (ok1.ext sm)) (ok1.grow sm) ?_;simp only[RD,RP];exact⟨p,vs,rfl,gU ok1 hp,.inl (.inl dR),RPs.ext (ok1.ext sm) _ _ rp⟩⟩
theorem BC(h:PA X es (LA X.K g)):PE X (.List es pos) (LE X.K (nK g)) :=
 PE.imp (K6 h) fun s H Q ⟨Z,d,m,R,ok,rs,h,k⟩=>⟨Z,d,m,_,ok,rs,h,fun xs m1 vs H1 ⟨ps,e,hz,q⟩ e1 ok1 r1=>by
  have rp:=r1.pds e
  refine⟨by rw[rp.length];exact hz,fun p hp hk=>?_⟩
  refine k _ _ _ _ (q p (gU ok1 hp).1) (e1.trans (Ext.cell ok1 hp hk)) (ok1.cell hp hk rp) ⟨rfl,?_⟩;rw[eI]
  rfl⟩
end
theorem Tg:fillsNumberSlot (.type "tuple") "mul"=pure false:=PySem.fillsNumberSlot_seq (id:="tuple.__mul__") (r:=some (.builtin "tuple.__rmul__")) PySem.F.slot_tuple_mul.lookup (by decide +kernel) PySem.F.slot_tuple_rmul.lookup (by decide +kernel)
theorem Tj:seqRepeat? (.type "tuple")=pure (some (.builtin "tuple.__mul__")):=by
 unfold seqRepeat?;rw[PySem.seqSlot_of (T:="tuple") (name:="__mul__") (id:="tuple.__mul__") PySem.F.slot_tuple_mul.lookup (by decide +kernel),PySem.seqSlot_of (T:="tuple") (name:="__rmul__") (id:="tuple.__rmul__") PySem.F.slot_tuple_rmul.lookup (by decide +kernel)]
 rfl
theorem Vx(a:Int)(t:Tok)(l:Addr)(its:Array Value)(n:Nat)(dd:Option Addr)(sl:Array (Option Value)):Meets (Builtin.«int.__rmul__» ⟨[.int a t,.ref l],[]⟩) (fun _ R s=>s.heap.get? l=some {cls:=.type "tuple",dict:=dd,data:=.seq its n,slots:=sl}/\R (.ok (.ret Value.notImplemented)) s) :=
 .of_wp fun prog w A R s hs=>by
  obtain⟨hp,g,d,tk,os⟩:=s;obtain⟨hl,h⟩:=hs
  wp_walk
  exact⟨_,rfl,h⟩
theorem Qe(vs:List Value):∀ (n:Nat) (acc:List Value),(List.replicate n vs.toArray).foldl (·++·) acc.toArray=(acc++(List.replicate n vs).flatten).toArray
 | 0,acc=>by simp
 | n+1,acc=>by
  rw[List.replicate_succ,List.foldl_cons,List.replicate_succ,List.flatten_cons];have:=Qe vs n (acc++vs)
  rw[<- List.append_assoc,<- this];simp
theorem Hv{α:Type}(xs:List α):∀ n:Nat,(List.replicate n xs).flatten.length=xs.length*n
 | 0=>by simp
 | n+1=>by rw[List.replicate_succ,List.flatten_cons,List.length_append,Hv xs n,Nat.mul_succ,Nat.add_comm]
theorem T8(t:Addr)(its:Array Value)(k:Int)(tok:Tok)(h1:its.size≠0)(h2:2<=k)(h3:k<=100)(h4:its.size*k.toNat<=sizeLine):Meets (Builtin.«tuple.__mul__» ⟨[.ref t,.int k tok],[]⟩)
  (fun _ R s=>IsTup s.heap t its/\R (.ok (.ret (.ref s.heap.objs.size))) {s with heap:=s.heap.push {cls:=.type "tuple",data:=.seq ((List.replicate k.toNat its).foldl (·++·) #[])}}) :=
 .of_wp fun prog w A R s hs=>by
  obtain⟨ht,h⟩:=hs;show wpAny _ _ (asIndex (.int k tok)>>=_) _ _ _
  refine wpAny_bind (wpAny_pure ?_);show wpAny _ _ (if (decide (k < -(2^63))||decide (k ≥ 2^63))=true then _ else _) _ _ _
  rw[if_neg (by simp;omega)]
  show wpAny _ _ (Builtin.Tuple.tupleItemsOf (.ref t)>>=_) _ _ _
  refine wpAny_bind (tupleItemsOf_ ht ?_);have e1:its.isEmpty=false:=by
   rw[Array.isEmpty_eq_false_iff];rintro rfl;exact h1 rfl
  have e2:(k==1)=false:=by
   rw[beq_eq_false_iff_ne];omega
  show wpAny _ _ (if (its.isEmpty||k==1)=true then _ else _) _ _ _
  rw[e1,e2,if_neg (by simp)]
  show wpAny _ _ (if (decide (k<=0)||false)=true then _ else _) _ _ _
  rw[if_neg (by simp;omega)]
  have hk:((its.size:Nat):Int)*k=((its.size*k.toNat:Nat):Int):=by
   push_cast
   rw[Int.toNat_of_nonneg (by omega)]
  have hs:=mV
  show wpAny _ _ (if ((its.size:Nat):Int)*k > (2^63-1) / 8 then _ else _) _ _ _
  rw[if_neg ?c1]
  case c1 =>
   rw[hk];have:(sizeLine:Nat)<=(2^63-1) / 8:=by decide
   omega
  show wpAny _ _ (if (decide (((its.size:Nat):Int)*k > (sizeLine:Int)))=true then _ else _) _ _ _
  rw[if_neg ?c2]
  case c2 =>
   rw[hk];intro q;have q':=of_decide_eq_true q
   omega
  show wpAny _ _ (Builtin.Tuple.tupleExact ((List.replicate k.toNat its).foldl (·++·) #[])>>=_) _ _ _
  refine wpAny_bind (m:=Builtin.Tuple.tupleExact _) (wpAny_newObj_type (wpAny_pure ⟨_,rfl,h⟩) ?_);show((List.replicate k.toNat its).foldl (·++·) #[]).size<=sizeLine
  have e:=Qe its.toList k.toNat []
  rw[List.nil_append]at e;have e':(List.replicate k.toNat its).foldl (·++·) #[]=(List.replicate k.toNat its.toList).flatten.toArray:=e
  rw[e',List.size_toArray,Hv,Array.length_toList];exact h4
theorem Vals.rep{xs:List V}{us:List Value}(h:Vals xs us):∀ n:Nat,Vals (List.replicate n xs).flatten (List.replicate n us).flatten
 | 0=>.nil
 | n+1=>by
  rw[List.replicate_succ,List.replicate_succ,List.flatten_cons,List.flatten_cons];exact h.append (Vals.rep h n)
theorem RPs.rep{K:PySem.W.Frag}{Z:Addr->Prop}{m:Mu}{H:Hp}{xs:List PyData}{vs:List V}(h:RPs K Z m H xs vs):∀ n:Nat,RPs K Z m H (List.replicate n xs).flatten (List.replicate n vs).flatten
 | 0=>by simp[RPs]
 | n+1=>by
  rw[List.replicate_succ,List.replicate_succ,List.flatten_cons,List.flatten_cons];exact h.append (RPs.rep h n)
section
variable {X:Cx}
theorem v5{pins:List (Addr×Obj)}{s:Shared}{σ:L2.St}{H:Hp}{Q:VK}{a:Addr}{xs:List V}{k:Int}{t:Tok}(I:Inv X pins σ H s)(ha:SqT X.K H a xs)(h1:xs≠[])(h2:2<=k)(h3:k<=100)(h4:xs.length*k.toNat<=sizeLine)
  (q:∀ p,H p=none->Q (.ref p) (upd H p (.tup (List.replicate k.toNat xs).flatten))):wpAny (model X.prog X.w) X.A (binaryOp .Mult (.ref a) (.int k t)) (EP X pins σ Q) X.xe s:=by
 obtain⟨its,r,p,hz⟩:=I.tuple ha;have hl:=r.length
 obtain⟨⟨cls,dd,data,sl⟩,ho,hc,n,hd⟩:=id p;simp only at hc hd;subst hc hd;refine wpAny_binaryOp_repeat_ref (T:="tuple") (U:="int") (by decide) ⟨_,ho,rfl⟩ (fun s'=>typeIs_int s' k t) Tg PySem.F.fills_int_mul PySem.F.slot_int_rmul Tj PySem.F.slot_int_index.lookup
  (call_meets PySem.F.slot_int_rmul (typeIs_int s k t) PySem.F.entry_int_rmul (PySem.F.args_int_rmul_2 _ _) (Vx k t a its.toArray n dd sl) ⟨ho,rfl,⟨_,ho,rfl⟩,call_meets PySem.F.slot_tuple_mul ⟨_,ho,rfl⟩ PySem.F.entry_tuple_mul (PySem.F.args_tuple_mul_2 _ _) (T8 a its.toArray k t ?_ h2 h3 ?_) ⟨p,?_⟩⟩)
 ·rw[List.size_toArray,<- hl];intro e;exact h1 (List.length_eq_zero_iff.mp e)
 ·rw[List.size_toArray,<- hl];exact h4
 ·have e:=Qe its k.toNat []
  rw[List.nil_append]at e;rw[e];exact⟨.ref s.heap.objs.size,_,I.laid (t':=s.toks) (o:=.tup (List.replicate k.toNat xs).flatten) (fun b ob q=>Heap.get?_push_of_some _ q) (Nat.le_refl _) ⟨⟨by rw[Hv];exact h4,NoD.new _ _ _⟩,_,Vals.rep r k.toNat,IsTup.new _ _⟩,rfl,q _ (I.hok.fresh (Nat.le_refl _))⟩
end
@[simp] def bQ:D2
 | .dat (.int i),.dat (.int j),m,Q=>Q (.dat (.int (i+j))) m
 | .dat (.str a),.dat (.str b),m,Q=>a.length+b.length<=sizeLine/\Q (.dat (.str (a++b))) m
 | .dat (.tuple a),.dat (.tuple b),m,Q=>a.length+b.length<=sizeLine/\Q (.dat (.tuple (a++b))) m
 | .dat (.list a),.dat (.list b),m,Q=>a.length+b.length<=sizeLine/\Q (.dat (.list (a++b))) m
 | .cel c,.dat (.list b),m,Q=>∃ a,m c=some (.l a)/\a.length+b.length<=sizeLine/\Q (.dat (.list (a++b))) m
 | _,_,_,_=>False
@[simp] def gP:D2
 | .dat (.int i),.dat (.int j),m,Q=>Q (.dat (.int (i-j))) m
 | _,_,_,_=>False
@[simp] def fV:D2
 | .dat (.int i),.dat (.int j),m,Q=>IntMulOk i j/\Q (.dat (.int (i*j))) m
 | .dat (.tuple a),.dat (.int k),m,Q=>a≠[]/\2<=k/\k<=100/\a.length*k.toNat<=sizeLine/\Q (.dat (.tuple (List.replicate k.toNat a).flatten)) m
 | _,_,_,_=>False
@[simp] def zF:D2
 | .dat (.int i),.dat (.int j),m,Q=>j≠0/\j.natAbs.log2<9000/\Q (.dat (.int (i.fdiv j))) m
 | _,_,_,_=>False
@[simp] def gW:D2
 | .dat (.int i),.dat (.int j),m,Q=>j≠0/\Q (.dat (.int (i.fmod j))) m
 | _,_,_,_=>False
@[simp] def Ld:D2
 | .dat (.int i),.dat (.int j),m,Q=>(0<=j/\j<=1000000/\i.natAbs<2^64)/\Q (.dat (.int (i^j.toNat))) m
 | _,_,_,_=>False
@[simp] def qX:D2
 | .dat (.int i),.dat (.int j),m,Q=>Q (.dat (.bool (decide (i<j)))) m
 | _,_,_,_=>False
@[simp] def jP:D2
 | .dat (.int i),.dat (.int j),m,Q=>Q (.dat (.bool (decide (i<=j)))) m
 | _,_,_,_=>False
@[simp] def fJ:D2
 | .dat (.int i),.dat (.int j),m,Q=>Q (.dat (.bool (decide (j<i)))) m
 | _,_,_,_=>False
@[simp] def Ks:D2
 | .dat (.int i),.dat (.int j),m,Q=>Q (.dat (.bool (decide (j<=i)))) m
 | _,_,_,_=>False
@[simp] def dA:D2
 | .dat (.str a),.dat (.str b),m,Q=>Q (.dat (.bool (decide (a=b)))) m
 | .dat p,.dat q,m,Q=>p.canLay0=true/\q.canLay0=true/\p.depth<=100/\Q (.dat (.bool (PyData.eqv p q))) m
 | _,_,_,_=>False
@[simp] def fL:D2
 | .dat (.str a),.dat (.str b),m,Q=>Q (.dat (.bool (!decide (a=b)))) m
 | .dat p,.dat q,m,Q=>p.canLay0=true/\q.canLay0=true/\p.depth<=100/\Q (.dat (.bool (!PyData.eqv p q))) m
 | _,_,_,_=>False
section
variable {X:Cx}
theorem RD.int{K:PySem.W.Frag}{Z:Addr->Prop}{m:Mu}{H:Hp}{i:Int}{v:V}(h:RD K Z m H (.dat (.int i)) v):v=.int i:=by simpa only[RD,RP] using h
theorem RD.ofInt{K:PySem.W.Frag}{Z:Addr->Prop}{m:Mu}{H:Hp}{i:Int}:RD K Z m H (.dat (.int i)) (.int i):=by simp only[RD,RP]
theorem RD.str{K:PySem.W.Frag}{Z:Addr->Prop}{m:Mu}{H:Hp}{i:Str}{v:V}(h:RD K Z m H (.dat (.str i)) v):v=.str i:=by simpa only[RD,RP] using h
theorem RD.ofStr{K:PySem.W.Frag}{Z:Addr->Prop}{m:Mu}{H:Hp}{i:Str}:RD K Z m H (.dat (.str i)) (.str i):=by simp only[RD,RP]
theorem iS:dI X (binaryOp .Sub) gP:=by
 intro pins s σ H Z m x y dx dy v u R Q I ok rx ry r1 r2 h k;unfold gP at h
 split at h
 ·cases r1.int;cases r2.int
  exact HQ pins s σ H _ _ v u Q I rx ry ⟨_,_,rfl,rfl,k _ m _ H h Ext.refl ok .ofInt⟩
 ·exact h.elim
theorem gY:dI X (binaryOp .Mult) fV:=by
 intro pins s σ H Z m x y dx dy v u R Q I ok rx ry r1 r2 h k;unfold fV at h
 split at h
 ·cases r1.int;cases r2.int
  obtain⟨t,rfl⟩:=rx;obtain⟨t',rfl⟩:=ry;exact mul_int ⟨.int _,H,I.tok _,⟨_,rfl⟩,k _ m _ H h.2 Ext.refl ok .ofInt⟩ h.1
 ·rename_i a j;obtain⟨h1,h2,h3,h4,h5⟩:=h
  cases r2.int
  simp only[RD,RP]at r1;obtain⟨p,vs,rfl,g1,g2⟩:=r1
  cases rx
  obtain⟨t',rfl⟩:=ry;have hl:=g2.length
  refine v5 I g1 (fun e=>h1 ?_) h2 h3 (by rw[hl];exact h4) fun t ht=>?_
  ·subst e
   cases a with
   | nil=>rfl
   | cons _ _=>simp at hl
  ·have sm:Same H (upd H t (.tup (List.replicate j.toNat vs).flatten)):=dX ht
   refine k _ m _ _ h5 (ok.ext sm) (ok.grow sm) ?_;simp only[RD,RP];exact⟨t,_,rfl,.inl (.inl dR),RPs.ext (ok.ext sm) _ _ (g2.rep _)⟩
 ·exact h.elim
theorem Jg:dI X (binaryOp .FloorDiv) zF:=by
 intro pins s σ H Z m x y dx dy v u R Q I ok rx ry r1 r2 h k;unfold zF at h
 split at h
 ·cases r1.int;cases r2.int
  obtain⟨t,rfl⟩:=rx;obtain⟨t',rfl⟩:=ry;exact floordiv_int h.1 ⟨.int _,H,I.tok _,⟨_,rfl⟩,k _ m _ H h.2.2 Ext.refl ok .ofInt⟩ (.inl (PyProof.noPylong_of_log2 h.2.1))
 ·exact h.elim
theorem jA:dI X (binaryOp .Mod) gW:=by
 intro pins s σ H Z m x y dx dy v u R Q I ok rx ry r1 r2 h k;unfold gW at h
 split at h
 ·cases r1.int;cases r2.int
  exact GQ pins s σ H _ _ v u Q I rx ry ⟨_,_,rfl,rfl,h.1,k _ m _ H h.2 Ext.refl ok .ofInt⟩
 ·exact h.elim
theorem IY:dI X (binaryOp .Pow) Ld:=by
 intro pins s σ H Z m x y dx dy v u R Q I ok rx ry r1 r2 h k;unfold Ld at h
 split at h
 ·cases r1.int;cases r2.int
  exact BQ pins s σ H _ _ v u Q I rx ry ⟨_,_,rfl,rfl,h.1,k _ m _ H h.2 Ext.refl ok .ofInt⟩
 ·exact h.elim
theorem yW:dI X (compareOp .Lt) qX:=by
 intro pins s σ H Z m x y dx dy v u R Q I ok rx ry r1 r2 h k;unfold qX at h
 split at h
 ·cases r1.int;cases r2.int
  exact WO pins s σ H _ _ v u Q I rx ry ⟨_,_,rfl,rfl,k _ m _ H h Ext.refl ok .ofBl⟩
 ·exact h.elim
theorem lY:dI X (compareOp .LtE) jP:=by
 intro pins s σ H Z m x y dx dy v u R Q I ok rx ry r1 r2 h k;unfold jP at h
 split at h
 ·cases r1.int;cases r2.int
  exact IC pins s σ H _ _ v u Q I rx ry ⟨_,_,rfl,rfl,k _ m _ H h Ext.refl ok .ofBl⟩
 ·exact h.elim
theorem fT:dI X (compareOp .Gt) fJ:=by
 intro pins s σ H Z m x y dx dy v u R Q I ok rx ry r1 r2 h k;unfold fJ at h
 split at h
 ·cases r1.int;cases r2.int
  exact FD pins s σ H _ _ v u Q I rx ry ⟨_,_,rfl,rfl,k _ m _ H h Ext.refl ok .ofBl⟩
 ·exact h.elim
theorem VX:dI X (compareOp .GtE) Ks:=by
 intro pins s σ H Z m x y dx dy v u R Q I ok rx ry r1 r2 h k;unfold Ks at h
 split at h
 ·cases r1.int;cases r2.int
  exact ST pins s σ H _ _ v u Q I rx ry ⟨_,_,rfl,rfl,k _ m _ H h Ext.refl ok .ofBl⟩
 ·exact h.elim
theorem dF(hu:X.A.units+100<cLine):dI X (compareOp .Eq) dA:=by
 intro pins s σ H Z m x y dx dy v u R Q I ok rx ry r1 r2 h k;unfold dA at h
 split at h
 ·cases r1.str;cases r2.str
  refine BL pins s σ H _ _ v u Q I rx ry ⟨rfl,?_⟩;have e:∀ a b:Str,decide (V.str a=V.str b)=decide (a=b):=fun a b=>by
   rw[Bool.eq_iff_iff];simp
  rw[e];exact k _ m _ H h Ext.refl ok .ofBl
 ·rename_i p q hne;obtain⟨h1,h2,h3,h4⟩:=h;obtain⟨as,ra⟩:=RP.reads I p x v r1 rx;obtain⟨bs,rb⟩:=RP.reads I q y u r2 ry;exact SeqAt.compareEq_reads ra rb h1 h2 (by omega) ⟨.bl _,H,I,rfl,k _ m _ H h4 Ext.refl ok .ofBl⟩
 ·exact h.elim
theorem gC(hu:X.A.units+100<cLine):dI X (compareOp .NotEq) fL:=by
 intro pins s σ H Z m x y dx dy v u R Q I ok rx ry r1 r2 h k;unfold fL at h
 split at h
 ·cases r1.str;cases r2.str
  refine IS pins s σ H _ _ v u Q I rx ry ⟨rfl,?_⟩;have e:∀ a b:Str,decide (V.str a=V.str b)=decide (a=b):=fun a b=>by
   rw[Bool.eq_iff_iff];simp
  rw[e];exact k _ m _ H h Ext.refl ok .ofBl
 ·rename_i p q hne;obtain⟨h1,h2,h3,h4⟩:=h;obtain⟨as,ra⟩:=RP.reads I p x v r1 rx;obtain⟨bs,rb⟩:=RP.reads I q y u r2 ry;exact SeqAt.compareNe_reads ra rb h1 h2 (by omega) ⟨.bl _,H,I,rfl,k _ m _ H h4 Ext.refl ok .ofBl⟩
 ·exact h.elim
theorem RI{pins:List (Addr×Obj)}{s:Shared}{σ:L2.St}{H:Hp}{Q:VK}{a b:Addr}{ys:List V}(I:Inv X pins σ H s)(ha:SqT X.K H a [])(hb:SqT X.K H b ys)(q:Q (.ref b) H) :
  wpAny (model X.prog X.w) X.A (binaryOp .Add (.ref a) (.ref b)) (EP X pins σ Q) X.xe s:=by
 obtain⟨its,r1,p1,_⟩:=I.tuple ha;obtain⟨its2,r2,p2,_⟩:=I.tuple hb
 cases r1
 obtain⟨⟨cls,dd,data,sl⟩,ho,hc,n,hd⟩:=id p1;obtain⟨⟨cls2,dd2,data2,sl2⟩,ho2,hc2,n2,hd2⟩:=id p2;simp only at hc hd hc2 hd2;subst hc hd hc2 hd2;exact concat_meets ⟨_,ho,rfl⟩ ⟨_,ho2,rfl⟩ noFill_tuple_add seq_tuple_add PySem.F.slot_tuple_add PySem.F.entry_tuple_add (PySem.F.args_tuple_add_2 _ _)
   (tuple_addW0 a b _ _ n n2 dd dd2 sl sl2 (by simp)) ⟨ho,ho2,⟨.ref b,H,I,rfl,q⟩⟩
theorem Xv:OpR X (binaryOp .Add) (fun x y H Q=>∃ a b xs ys,x=.ref a/\y=.ref b/\SqL X.K H a xs/\SqL X.K H b ys/\xs.length+ys.length<=sizeLine/\∀ p,H p=none->Q (.ref p) (upd H p (.lst (xs++ys)))):=by
 intro pins s σ H x y v u Q I rx ry h;obtain⟨a,b,xs,ys,rfl,rfl,ha,hb,hz,q⟩:=h
 cases rx
 cases ry
 obtain⟨its,r1,p1,_⟩:=I.list ha;obtain⟨its2,r2,p2,_⟩:=I.list hb;obtain⟨⟨cls,dd,data,sl⟩,ho,hc,n,hd⟩:=id p1.isList;obtain⟨⟨cls2,dd2,data2,sl2⟩,ho2,hc2,n2,hd2⟩:=id p2.isList;simp only at hc hd hc2 hd2;subst hc hd hc2 hd2;have l1:=r1.length
 have l2:=r2.length
 have e:its.toArray++its2.toArray=(its++its2).toArray:=by simp
 refine concat_meets ⟨_,ho,rfl⟩ ⟨_,ho2,rfl⟩ noFill_list_add seq_list_add PySem.F.slot_list_add PySem.F.entry_list_add (PySem.F.args_list_add_2 _ _)
   (list_addW a b its.toArray its2.toArray n n2 dd dd2 sl sl2 (by rw[List.size_toArray,List.size_toArray];omega)) ⟨ho,ho2,?_⟩
 rw[e];exact⟨.ref s.heap.objs.size,_,I.laid (t':=s.toks) (o:=.lst (xs++ys)) (fun b ob q=>Heap.get?_push_of_some _ q) (Nat.le_refl _) ⟨by rw[List.length_append];omega,_,0,r1.append r2,Heap.get?_push_size _ rfl⟩,rfl,q _ (I.hok.fresh (Nat.le_refl _))⟩
theorem bR:dI X (binaryOp .Add) bQ:=by
 intro pins s σ H Z m x y dx dy v u R Q I ok rx ry r1 r2 h k;unfold bQ at h
 split at h
 ·cases r1.int;cases r2.int
  exact SI pins s σ H _ _ v u Q I rx ry ⟨_,_,rfl,rfl,k _ m _ H h Ext.refl ok .ofInt⟩
 ·cases r1.str;cases r2.str
  exact XI pins s σ H _ _ v u Q I rx ry ⟨_,_,rfl,rfl,h.1,k _ m _ H h.2 Ext.refl ok .ofStr⟩
 ·rename_i a b;simp only[RD,RP]at r1 r2;obtain⟨p,vs,rfl,h1,h2⟩:=r1;obtain⟨q,ws,rfl,g1,g2⟩:=r2;have l1:=h2.length
  have l2:=g2.length
  by_cases e1:a=[]
  ·subst e1;simp only[RPs]at h2;subst h2
   cases rx;cases ry
   refine RI I h1 g1 (k _ m _ H h.2 Ext.refl ok ?_);simp only[RD,RP];exact⟨q,ws,rfl,g1,by simpa using g2⟩
  ·refine W4 pins s σ H _ _ v u Q I rx ry ⟨p,q,vs,ws,rfl,rfl,h1,g1,?_,by omega,fun e2=>?_,fun e2 t ht=>?_⟩
   ·rintro rfl
    cases a with
    | nil=>exact e1 rfl
    | cons _ _=>simp at l1
   ·subst e2;have e3:b=[]:=by cases b with | nil=>rfl | cons _ _=>simp at l2
    subst e3;refine k _ m _ H h.2 Ext.refl ok ?_;simp only[RD,RP];exact⟨p,vs,rfl,h1,by simpa using h2⟩
   ·have sm:Same H (upd H t (.tup (vs++ws))):=dX ht
    refine k _ m _ _ h.2 (ok.ext sm) (ok.grow sm) ?_;simp only[RD,RP];exact⟨t,_,rfl,.inl (.inl dR),RPs.ext (ok.ext sm) _ _ (h2.append g2)⟩
 ·rename_i a b;simp only[RD,RP]at r1 r2;obtain⟨p,vs,rfl,h0,h1,h2⟩:=r1;obtain⟨q,ws,rfl,g0,g1,g2⟩:=r2;have l1:=h2.length
  have l2:=g2.length
  refine Xv pins s σ H _ _ v u Q I rx ry ⟨p,q,vs,ws,rfl,rfl,h1,g1,by omega,fun t ht=>?_⟩
  have sm:Same H (upd H t (.lst (vs++ws))):=dX ht
  refine k _ m _ _ h.2 (ok.ext sm) (ok.grow sm) ?_;simp only[RD,RP];exact⟨t,_,rfl,gU ok ht,.inl (.inl dR),RPs.ext (ok.ext sm) _ _ (h2.append g2)⟩
 ·rename_i c b;obtain⟨aa,hm,hz,hq⟩:=h;obtain⟨rfl,_⟩:=r1;obtain⟨vs,g0,g3⟩:=ok.l hm;simp only[RD,RP]at r2;obtain⟨q,ws,rfl,_,g1,g2⟩:=r2;have l1:=g3.length
  have l2:=g2.length
  refine Xv pins s σ H _ _ v u Q I rx ry ⟨c,q,vs,ws,rfl,rfl,.inl (.inl g0),g1,by omega,fun t ht=>?_⟩
  have sm:Same H (upd H t (.lst (vs++ws))):=dX ht
  refine k _ m _ _ hq (ok.ext sm) (ok.grow sm) ?_;simp only[RD,RP];exact⟨t,_,rfl,gU ok ht,.inl (.inl dR),RPs.ext (ok.ext sm) _ _ (g3.append g2)⟩
 ·exact h.elim
end
section
variable {X:Cx}{a b c e:Expr}{es:List Expr}{f g:DE}{ga:DA}{pos p2 p:Pos}
@[simp] def pT(f:DE):DE:=fun d m Q=>f d m fun x m1=>∃ i,x=.dat (.int i)/\Q (.dat (.int (-i))) m1
theorem SR(ha:PE X a (LE X.K f)):PE X (.UnaryOp .USub a pos) (LE X.K (pT f)) :=
 PE.imp (AY RA ha) fun s H Q h=>by
  obtain⟨Z,d,m,R,ok,rs,h,k⟩:=h;refine⟨Z,d,m,_,ok,rs,h,fun x m1 v H1 ⟨i,e,q⟩ e1 ok1 rd=>?_⟩;subst e;exact⟨i,rd.int,k _ m1 _ H1 q e1 ok1 .ofInt⟩
@[simp] def aN:D2
 | .dat (.tuple xs),.dat (.int i),m,Q=>∃ p,cA xs i=some p/\Q (.dat p) m
 | .dat (.list xs),.dat (.int i),m,Q=>∃ p,cA xs i=some p/\Q (.dat p) m
 | .cel a,.dat (.int i),m,Q=>∃ xs p,m a=some (.l xs)/\cA xs i=some p/\Q (.dat p) m
 | .dat (.str z),.dat (.int i),m,Q=>∃ c,z.length<=sizeLine/\cA z.cps.toList i=some c/\Q (.dat (.str ⟨#[c]⟩)) m
 | _,_,_,_=>False
theorem RPs.at{K:PySem.W.Frag}{Z:Addr->Prop}{m:Mu}{H:Hp}{xs:List PyData}{vs:List V}{i:Int}{p:PyData}(h:RPs K Z m H xs vs)(e:cA xs i=some p):∃ v,cA vs i=some v/\RP K Z m H p v:=by
 unfold cA at e ⊢;rw[h.length]
 cases q:fG xs.length i with
 | none=>rw[q]at e;cases e
 | some j =>
  rw[q]at e;exact h.get (i:=j) e
theorem PJ(ha:PE X a (LE X.K f))(hb:PE X b (LE X.K g))(hs:Qx b:=by exact fun _ _=>rfl):PE X (.Subscript a b pos) (LE X.K (aF aN f g)) :=
 PE.imp (CH Z5 ha hb hs) fun s H Q h=>by
  obtain⟨Z,d,m,R,ok,rs,h,k⟩:=h;refine⟨Z,d,m,_,ok,rs,h,fun x m1 v H1 q e1 ok1 rx=>⟨Z,d,m1,_,ok1,rs.ext e1,q,fun y m2 w H2 q2 e2 ok2 ry=>?_⟩⟩;have rx2:=rx.ext e2
  have e12:=e1.trans e2
  unfold aN at q2
  split at q2
  ·obtain⟨p,ep,q⟩:=q2
   cases ry.int
   simp only[RD,RP]at rx2;obtain⟨a,vs,rfl,h1,h2⟩:=rx2;obtain⟨z,ez,rz⟩:=h2.at ep;exact .inr (.inl ⟨a,vs,_,z,rfl,rfl,h1,ez,k _ m2 z H2 q e12 ok2 rz⟩)
  ·obtain⟨p,ep,q⟩:=q2
   cases ry.int
   simp only[RD,RP]at rx2;obtain⟨a,vs,rfl,_,h1,h2⟩:=rx2;obtain⟨z,ez,rz⟩:=h2.at ep;exact .inl ⟨a,vs,_,z,rfl,rfl,h1,ez,k _ m2 z H2 q e12 ok2 rz⟩
  ·obtain⟨xs,p,hm,ep,q⟩:=q2
   cases ry.int
   obtain⟨rfl,_⟩:=rx2;obtain⟨vs,h1,h2⟩:=ok2.l hm;obtain⟨z,ez,rz⟩:=h2.at ep;exact .inl ⟨_,vs,_,z,rfl,rfl,.inl (.inl h1),ez,k _ m2 z H2 q e12 ok2 rz⟩
  ·obtain⟨c,hz,ec,q⟩:=q2
   cases ry.int
   cases rx2.str
   exact .inr (.inr ⟨_,_,c,rfl,rfl,hz,ec,k _ m2 _ H2 q e12 ok2 .ofStr⟩)
  ·exact q2.elim
abbrev DO:=bZ->Mu->(Option Int->Mu->Prop)->Prop
def LO(K:PySem.W.Frag)(f:DO):TO:=fun s H Q=>∃ (Z:Addr->Prop) (d:bZ) (m:Mu) (R:Option Int->Mu->Prop),Ok K Z m H/\RS K Z m H d s/\f d m R /\
 ∀ x m' H',R x m'->Ext K Z m H m' H'->Ok K Z m' H'->Q x H'
@[simp] def dP:DO:=fun _ m Q=>Q none m
@[simp] def dH(f:DE):DO:=fun d m Q=>f d m fun x m1=>∃ i,x=.dat (.int i)/\Q (some i) m1
theorem PO.imp{e:Option Expr}{t t':TO}(h:PO X e t)(q:∀ s H Q,t' s H Q->t s H Q):PO X e t':=fun pins s d H Q I w=>h pins s d H Q I (q _ _ _ w)
theorem UI:PO X none (LO X.K dP):=PO.imp WX fun s H Q h=>by
 obtain⟨Z,d,m,R,ok,rs,h,k⟩:=h;exact k none m H h Ext.refl ok
theorem BV(ha:PE X a (LE X.K f)):PO X (some a) (LO X.K (dH f)):=PO.imp (PZ ha) fun s H Q h=>by
 obtain⟨Z,d,m,R,ok,rs,h,k⟩:=h;refine⟨Z,d,m,_,ok,rs,h,fun x m1 v H1 ⟨i,e,q⟩ e1 ok1 rd=>?_⟩;subst e;exact⟨i,rd.int,k _ m1 H1 q e1 ok1⟩
def bY{α:Type}(xs:List α)(lo hi:Option Int):List α:=(xs.drop (HT.sIx xs.length 0 lo)).take (HT.sIx xs.length xs.length hi-HT.sIx xs.length 0 lo)
theorem V8{α:Type}(xs:List α)(lo hi:Option Int):(bY xs lo hi).length<=xs.length:=by
 unfold bY;rw[List.length_take,List.length_drop];omega
theorem RPs.cut{K:PySem.W.Frag}{Z:Addr->Prop}{m:Mu}{H:Hp}{xs:List PyData}{vs:List V}{lo hi:Option Int}(h:RPs K Z m H xs vs):RPs K Z m H (bY xs lo hi) (iD vs lo hi):=by
 unfold bY iD;rw[h.length];exact(h.drop _).take _
theorem J6{α:Type}(xs:List α){lo hi:Option Int}(h:HT.sIx xs.length 0 lo=0/\HT.sIx xs.length xs.length hi=xs.length):bY xs lo hi=xs:=by
 unfold bY;rw[h.1,h.2];simp
def T9(K:PySem.W.Frag):V->Option Int->Option Int->Hp->VK->Prop:=fun x lo hi H Q=>∃ a xs,x=.ref a/\SqT K H a xs /\
 (HT.sIx xs.length 0 lo=0/\HT.sIx xs.length xs.length hi=xs.length)/\Q (.ref a) H
theorem CT{prog:Program}{w:World}{A:Around}{E:Value->Shared->Prop}{s:Shared}{t sl:Addr}{items:Array Value}{vl vu:Value}{lo hi:Option Int}{Q:Value->Shared->Prop}(ht:IsTup s.heap t items)(hs:s.heap.IsSliceOf sl vl vu .none)(pl:IsPart vl lo)(pu:IsPart vu hi)
  (hw:HT.sIx items.size 0 lo=0/\HT.sIx items.size items.size hi=items.size)
  (h:Q (.ref t) s):wpAny (model prog w) A (getItem (.ref t) (.ref sl)) Q E s:=by
 obtain⟨os,hos,hcs,hds⟩:=id hs;have hTs:s.TypeIs (.ref sl) "slice":=⟨os,hos,hcs⟩
 unfold getItem
 try with_reducible refine wpAny_holding ?_
 first | refine wpAny_bind (wpAny_pure ?_) | skip
 refine wpAny_bind (wpAny_sequenceKey ht.typeIs (by decide) ?_)
 refine wpAny_bind (wpAny_callSpecial?_slot (name:=Str.ofString "__getitem__") ht.typeIs PyProof.Rows.slot_tuple_getitem
  (wpAny_call_entry PyProof.Rows.slot_tuple_getitem ht.typeIs entry_tuple_getitem ?_ (args_tuple_getitem _ _)))
 show wpAny _ _ (Builtin.Tuple.tupleItemsOf (.ref t)>>=_) _ _ s
 refine wpAny_bind (tupleItemsOf_ ht ?_);refine wpAny_bind (wpAny_typeOf hTs ?_);rw[if_pos (by decide)]
 refine wpAny_bind (HT.sliceApplied_gen hs pl pu ?_);have hyes:(((HT.sIx items.size 0 lo:Nat):Int)==0&&(1:Int)==1&&(HT.sIx items.size items.size hi-HT.sIx items.size 0 lo)==items.size)=true:=by
  rw[hw.1,hw.2];simp
 show wpAny _ _ (if (((HT.sIx items.size 0 lo:Nat):Int)==0&&(1:Int)==1&&(HT.sIx items.size items.size hi-HT.sIx items.size 0 lo)==items.size)=true then _ else _) _ _ s
 rw[if_pos hyes];refine wpAny_bind ?_;unfold Builtin.Tuple.tupleIsExact;refine wpAny_bind (wpAny_typeOf ht.typeIs (wpAny_pure ?_));rw[if_pos (by decide)]
 first
  | exact wpAny_bind (wpAny_rule (wpAny_pure ⟨_,rfl,wpAny_pure h⟩))
  | exact wpAny_bind (wpAny_rule (wpAny_bind (wpAny_pure (wpAny_pure ⟨_,rfl,wpAny_pure h⟩))))
theorem G2:SlR X (T9 X.K):=by
 intro pins s σ H x v vl vu lo hi sl Q I rx hs pl pu h;obtain⟨a,xs,rfl,hx,hw,q⟩:=h
 cases rx
 obtain⟨its,r,ht,hz⟩:=I.tuple hx;have hlen:its.toArray.size=xs.length:=by rw[List.size_toArray];exact r.length.symm
 refine⟨"tuple",_,PyProof.Rows.slot_tuple_getitem.lookup,ht.typeIs,?_⟩;exact CT ht hs pl pu (by rw[hlen];exact hw) ⟨.ref a,H,I,rfl,q⟩
abbrev DC:=List D->Mu->DK->Prop
def CallD(X:Cx)(fn:Value)(r:DC):Prop :=
 ∀ (pins:List (Addr×Obj)) (s:Shared) (σ:L2.St) (H:Hp) (Z:Addr->Prop) (m:Mu) (xs:List V) (ds:List D) (us:List Value) (R:DK) (Q:VK),Inv X pins σ H s->Ok X.K Z m H->Vals xs us->RDs X.K Z m H ds xs->r ds m R ->
  (∀ d m' v' H',R d m'->Ext X.K Z m H m' H'->Ok X.K Z m' H'->RD X.K Z m' H' d v'->Q v' H')->wpAny (model X.prog X.w) X.A (call fn us) (EP X pins σ Q) X.xe s
theorem CallD.cr{fn:Value}{r:DC}(h:CallD X fn r):CallR X fn (fun vs H Q=>∃ Z m ds R,Ok X.K Z m H/\RDs X.K Z m H ds vs/\r ds m R/\∀ d m' v' H',R d m'->Ext X.K Z m H m' H'->Ok X.K Z m' H'->RD X.K Z m' H' d v'->Q v' H'):=by
 intro pins s σ H xs us Q I r1 ⟨Z,m,ds,R,ok,rd,q,k⟩;exact h pins s σ H Z m xs ds us R Q I ok r1 rd q k
@[simp] def bL(r:DC)(g:DA):DE:=fun d m Q=>g d m fun xs m1=>r xs m1 Q
theorem LE.call{r:DC}{H:Hp}{σ:L2.St}{Q:VK}(h:LE X.K (bL r ga) σ H Q) :
  LA X.K ga σ H fun vs H1=>∃ Z m ds R,Ok X.K Z m H1/\RDs X.K Z m H1 ds vs/\r ds m R/\∀ d m' v' H',R d m'->Ext X.K Z m H1 m' H'->Ok X.K Z m' H'->RD X.K Z m' H' d v'->Q v' H':=by
 obtain⟨Z,d,m,R,ok,rs,h,k⟩:=h;exact⟨Z,d,m,_,ok,rs,h,fun xs m1 vs H1 q e1 ok1 r1=>⟨Z,m1,xs,R,ok1,r1,q,fun d' m' v' H' h1 h2 h3 h4=>k d' m' v' H' h1 (e1.trans h2) h3 h4⟩⟩
theorem AZ{x:Str}{id:String}{r:DC}(hc:CallD X (.builtin id) r)(hg:Gl X x)(hm:X.mg x=none)(hv:bootBuiltins x=some (.builtin id))(ha:PA X (e::es) (LA X.K ga))(hn:x≠"__name__":=by decide)(hdb:(x==("__debug__" : Str))=false:=by decide)
  (he:starEach (e::es) X.env=(false,eval e X.env)::starEach es X.env:=by rfl) (hpl:(backTo pos (starEach es X.env)).any (·.1)=false:=by rfl):PE X (.Call (.Name x p) (e::es) [] pos) (LE X.K (bL r ga)) :=
 PE.imp (Rk hc.cr hg hm hv ha hn hdb he hpl) fun s H Q h=>h.call
theorem VH{x:Str}{T:String}{r:DC}(hc:CallD X (.type T) r)(hg:Gl X x)(hm:X.mg x=none)(hv:bootBuiltins x=some (.type T))(ha:PA X (e::es) (LA X.K ga))(hn:x≠"__name__":=by decide)(hdb:(x==("__debug__" : Str))=false:=by decide)
  (he:starEach (e::es) X.env=(false,eval e X.env)::starEach es X.env:=by rfl) (hpl:(backTo pos (starEach es X.env)).any (·.1)=false:=by rfl):PE X (.Call (.Name x p) (e::es) [] pos) (LE X.K (bL r ga)) :=
 PE.imp (HK hc.cr hg hm hv ha hn hdb he hpl) fun s H Q h=>h.call
theorem RDs.one{K:PySem.W.Frag}{Z:Addr->Prop}{m:Mu}{H:Hp}{x:D}{vs:List V}(h:RDs K Z m H [x] vs):∃ v,vs=[v]/\RD K Z m H x v:=by
 obtain⟨v,r,h1,h2,h3⟩:=h
 cases (show r=[] from h3)
 exact⟨v,h1,h2⟩
theorem RDs.two{K:PySem.W.Frag}{Z:Addr->Prop}{m:Mu}{H:Hp}{x y:D}{vs:List V}(h:RDs K Z m H [x,y] vs):∃ v w,vs=[v,w]/\RD K Z m H x v/\RD K Z m H y w:=by
 obtain⟨v,r,h1,h2,h3⟩:=h;obtain⟨w,rfl,h4⟩:=RDs.one h3;exact⟨v,w,h1,h2,h4⟩
@[simp] def cM:DC
 | [.dat (.tuple xs)],m,Q=>Q (.dat (.int xs.length)) m
 | [.dat (.list xs)],m,Q=>Q (.dat (.int xs.length)) m
 | [.dat (.str z)],m,Q=>z.length<=sizeLine/\Q (.dat (.int z.length)) m
 | [.cel a],m,Q=>∃ xs,m a=some (.l xs)/\Q (.dat (.int xs.length)) m
 | _,_,_=>False
theorem cO:CallD X (.builtin "len") cM:=by
 intro pins s σ H Z m xs ds us R Q I ok rv rd h k;unfold cM at h
 split at h
 ·obtain⟨v,rfl,r1⟩:=rd.one;simp only[RD,RP]at r1;obtain⟨a,vs,rfl,h1,h2⟩:=r1;refine Il pins s σ H _ us Q I rv ⟨a,vs,rfl,.inr h1,?_⟩;rw[h2.length];exact k _ m _ H h Ext.refl ok .ofInt
 ·obtain⟨v,rfl,r1⟩:=rd.one;simp only[RD,RP]at r1;obtain⟨a,vs,rfl,_,h1,h2⟩:=r1;refine Il pins s σ H _ us Q I rv ⟨a,vs,rfl,.inl h1,?_⟩;rw[h2.length];exact k _ m _ H h Ext.refl ok .ofInt
 ·obtain⟨v,rfl,r1⟩:=rd.one
  cases r1.str
  exact BY pins s σ H _ us Q I rv ⟨_,rfl,h.1,k _ m _ H h.2 Ext.refl ok .ofInt⟩
 ·obtain⟨v,rfl,r1⟩:=rd.one;obtain⟨rfl,_⟩:=r1;obtain⟨ys,hm,q⟩:=h;obtain⟨vs,h1,h2⟩:=ok.l hm;refine Il pins s σ H _ us Q I rv ⟨_,vs,rfl,.inl (.inl (.inl h1)),?_⟩;rw[h2.length];exact k _ m _ H q Ext.refl ok .ofInt
 ·exact h.elim
@[simp] def zW:DC
 | [.dat (.int i)],m,Q=>Q (.dat (.int (if i<0 then -i else i))) m
 | _,_,_=>False
theorem Pj:CallD X (.builtin "abs") zW:=by
 intro pins s σ H Z m xs ds us R Q I ok rv rd h k;unfold zW at h
 split at h
 ·obtain⟨v,rfl,r1⟩:=rd.one
  cases r1.int
  exact TB pins s σ H _ us Q I rv ⟨_,rfl,k _ m _ H h Ext.refl ok .ofInt⟩
 ·exact h.elim
@[simp] def Hj:DC
 | [.dat (.int i),.dat (.int j)],m,Q=>Q (.dat (.int (if j > i then j else i))) m
 | _,_,_=>False
theorem XM(hc:X.calm=true):CallD X (.builtin "max") Hj:=by
 intro pins s σ H Z m xs ds us R Q I ok rv rd h k;unfold Hj at h
 split at h
 ·obtain⟨v,w,rfl,r1,r2⟩:=rd.two
  cases r1.int
  cases r2.int
  exact HY hc pins s σ H _ us Q I rv ⟨_,_,rfl,k _ m _ H h Ext.refl ok .ofInt⟩
 ·exact h.elim
@[simp] def Af:DC
 | [.dat (.int i)],m,Q=>Q (.dat (.int i)) m
 | [.dat (.bool b)],m,Q=>Q (.dat (.int (if b then 1 else 0))) m
 | _,_,_=>False
theorem Mh:CallD X (.type "int") Af:=by
 intro pins s σ H Z m xs ds us R Q I ok rv rd h k;unfold Af at h
 split at h
 ·obtain⟨v,rfl,r1⟩:=rd.one
  cases r1.int
  exact K9 pins s σ H _ us Q I rv (.inl ⟨_,rfl,k _ m _ H h Ext.refl ok .ofInt⟩)
 ·obtain⟨v,rfl,r1⟩:=rd.one
  cases r1.bl
  exact K9 pins s σ H _ us Q I rv (.inr ⟨_,rfl,k _ m _ H h Ext.refl ok .ofInt⟩)
 ·exact h.elim
@[simp] def Lu:DC
 | [.dat (.int i)],m,Q=>i.natAbs.log2<1920/\Q (.dat (.str (toString i))) m
 | _,_,_=>False
theorem JZ:CallD X (.type "str") Lu:=by
 intro pins s σ H Z m xs ds us R Q I ok rv rd h k;unfold Lu at h
 split at h
 ·obtain⟨v,rfl,r1⟩:=rd.one
  cases r1.int
  exact NM pins s σ H _ us Q I rv ⟨_,rfl,h.1,k _ m _ H h.2 Ext.refl ok .ofStr⟩
 ·exact h.elim
@[simp] def pD:DC
 | [.dat (.tuple xs)],m,Q=>Q (.dat (.list xs)) m
 | [.dat (.list xs)],m,Q=>Q (.dat (.list xs)) m
 | _,_,_=>False
theorem Aa:CallD X (.type "list") pD:=by
 intro pins s σ H Z m xs ds us R Q I ok rv rd h k;unfold pD at h
 split at h
 ·obtain⟨v,rfl,r1⟩:=rd.one;simp only[RD,RP]at r1;obtain⟨a,vs,rfl,h1,h2⟩:=r1;refine Xm pins s σ H _ us Q I rv ⟨a,vs,rfl,.inr h1,fun l hl=>?_⟩;have sm:Same H (upd H l (.lst vs)):=dX hl
  refine k _ m _ _ h (ok.ext sm) (ok.grow sm) ?_;simp only[RD,RP];exact⟨l,vs,rfl,gU ok hl,.inl (.inl dR),RPs.ext (ok.ext sm) _ _ h2⟩
 ·obtain⟨v,rfl,r1⟩:=rd.one;simp only[RD,RP]at r1;obtain⟨a,vs,rfl,_,h1,h2⟩:=r1;refine Xm pins s σ H _ us Q I rv ⟨a,vs,rfl,.inl h1,fun l hl=>?_⟩;have sm:Same H (upd H l (.lst vs)):=dX hl
  refine k _ m _ _ h (ok.ext sm) (ok.grow sm) ?_;simp only[RD,RP];exact⟨l,vs,rfl,gU ok hl,.inl (.inl dR),RPs.ext (ok.ext sm) _ _ h2⟩
 ·exact h.elim
@[simp] def En:DC
 | [.dat p],m,Q=>p.showable=true/\p.shown.length<=sizeLine/\p.depth<=100/\Q (.dat (.str p.shown)) m
 | _,_,_=>False
theorem N7(hu:X.A.units+200<cLine)(hg:X.A.guards=some []):CallD X (.builtin "repr") En:=by
 intro pins s σ H Z m xs ds us R Q I ok rv rd h k;unfold En at h
 split at h
 ·rename_i p;obtain⟨v,rfl,r1⟩:=rd.one;obtain⟨u,rfl,ru⟩:=fS rv;obtain⟨h1,h2,h3,h4⟩:=h;have fin:∀ (tk tk':Nat),EP X pins σ Q (.str p.shown tk) {s with toks:=tk'}:=fun tk tk'=>⟨.str p.shown,H,I.tok _,⟨_,rfl⟩,k _ m _ H h4 Ext.refl ok .ofStr⟩
  obtain⟨as,rd⟩:=RP.reads I p v u r1 ru;have nd:=RP.noDict X.K p v r1
  cases rd with
  | none=>exact PySem.P.repr_of_none (fin _ _)
  | bool b=>exact PySem.P.repr_of_bool (by simpa only[PyData.shown] using fin _ _)
  | int i t=>exact PySem.P.repr_of_int (by simpa[PyData.showable] using h1) (by simpa only[PyData.shown] using fin _ _)
  | str x t=>exact PySem.P.repr_of_str (by simpa only[PyData.shown] using fin _ _) (by simpa only[PyData.shown] using h2)
  | list q1 q2 q3 q4 =>
   refine repr_of_reads' (.list q1 q2 q3 q4) h1 (PyData.noDict_hsm nd) hg (by omega) (fun _ _ e=>e) (fun h' u tk kp=>⟨.str _,H,I.kept kp,⟨_,rfl⟩,k _ m _ H h4 Ext.refl ok .ofStr⟩) h2
  | tuple q1 q2 q3 q4 =>
   refine repr_of_reads' (.tuple q1 q2 q3 q4) h1 (PyData.noDict_hsm nd) hg (by omega) (fun _ _ e=>e) (fun h' u tk kp=>⟨.str _,H,I.kept kp,⟨_,rfl⟩,k _ m _ H h4 Ext.refl ok .ofStr⟩) h2
  | dict q1 q2 q3 q4 q5=>simp only[PyData.hasDict]at nd;cases nd
 ·exact h.elim
end
section
variable {X:Cx}{st:Stmt}{bC body orelse:List Stmt}{t u b:DS}{e c tg iter:Expr}{f:DE}{tc:DT}{pos:Pos}
@[simp] def aL:DS:=fun E d m=>E.nx d m
@[simp] def aI(t u:DS):DS:=fun E d m=>t {E with nx:=u E} d m
theorem ES:PSs X [] (LS X.K aL):=PSs.imp OD fun E s H h=>by
 obtain⟨Z,d,m,R,ok,rs,h,k,_⟩:=h;exact k d m s H h Ext.refl ok rs
theorem PD(h1:PS X st (LS X.K t))(h2:PSs X bC (LS X.K u)):PSs X (st::bC) (LS X.K (aI t u)):=PSs.imp (d9 h1 h2) fun E s H h=>by
 obtain⟨Z,d,m,R,ok,rs,h,kn,kr,kb,kc⟩:=h;refine⟨Z,d,m,_,ok,rs,h,fun d' m' s' H' q e1 ok1 rs1=>⟨Z,d',m',R,ok1,rs1,q,?_,?_,?_,?_⟩,kr,kb,kc⟩
 ·exact fun d2 m2 s2 H2 q2 e2 ok2 rs2=>kn d2 m2 s2 H2 q2 (e1.trans e2) ok2 rs2
 ·exact fun x m2 v H2 q2 e2 ok2 r2=>kr x m2 v H2 q2 (e1.trans e2) ok2 r2
 ·exact fun d2 m2 s2 H2 q2 e2 ok2 rs2=>kb d2 m2 s2 H2 q2 (e1.trans e2) ok2 rs2
 ·exact fun d2 m2 s2 H2 q2 e2 ok2 rs2=>kc d2 m2 s2 H2 q2 (e1.trans e2) ok2 rs2
@[simp] def lW(f:DE):DS:=fun E d m=>f d m fun _ m1=>E.nx d m1
theorem LU(he:PE X e (LE X.K f))(hs:swapsWith e none pos.line X.env=pure false:=by rfl):PS X (.Expr e pos) (LS X.K (lW f)):=PS.imp (z9 he hs) fun E s H h=>by
 obtain⟨Z,d,m,R,ok,rs,h,k,_⟩:=h;exact⟨Z,d,m,_,ok,rs,h,fun x m1 v H1 q e1 ok1 r1=>k d m1 s H1 q e1 ok1 (rs.ext e1)⟩
@[simp] def bA(f:DE):DS:=fun E d m=>f d m E.rt
theorem V2(he:PE X e (LE X.K f)):PS X (.Return (some e) pos) (LS X.K (bA f)):=PS.imp (WB he) fun E s H h=>by
 obtain⟨Z,d,m,R,ok,rs,h,_,kr,_⟩:=h;exact⟨Z,d,m,_,ok,rs,h,fun x m1 v H1 q e1 ok1 r1=>kr x m1 v H1 q e1 ok1 r1⟩
@[simp] def bT(c:DT)(t u:DS):DS:=fun E d m=>c d m fun k m1=>if k=true then t E d m1 else u E d m1
theorem GX(hc:PT X c (LT X.K tc))(h1:PSs X body (LS X.K t))(h2:PSs X orelse (LS X.K u)):PS X (.If c body orelse pos) (LS X.K (bT tc t u)):=PS.imp (Q0 hc h1 h2) fun E s H h=>by
 obtain⟨Z,d,m,R,ok,rs,h,kn,kr,kb,kc⟩:=h;refine⟨Z,d,m,_,ok,rs,h,fun k m1 H1 q e1 ok1=>?_⟩;have mk:∀ {z:DS},z R d m1->LS X.K z E s H1:=fun q=>⟨Z,d,m1,R,ok1,rs.ext e1,q,
  fun d2 m2 s2 H2 q2 e2 ok2 rs2=>kn d2 m2 s2 H2 q2 (e1.trans e2) ok2 rs2,fun x m2 v H2 q2 e2 ok2 r2=>kr x m2 v H2 q2 (e1.trans e2) ok2 r2,
  fun d2 m2 s2 H2 q2 e2 ok2 rs2=>kb d2 m2 s2 H2 q2 (e1.trans e2) ok2 rs2,fun d2 m2 s2 H2 q2 e2 ok2 rs2=>kc d2 m2 s2 H2 q2 (e1.trans e2) ok2 rs2⟩
 cases k with
 | true=>exact NH (mk (by simpa using q))
 | false=>exact Z1 (mk (by simpa using q))
@[simp] def aY(i:Nat)(f:DE):DS:=fun E d m=>f d m fun x m1=>E.nx (d.set i (some x)) m1
theorem R0(i:Nat){x:Str}{pos':Pos}(hN:X.N.Nodup)(he:PE X e (LE X.K f))(hi:X.N[i]?=some x:=by rfl)(hx:jG X.env.scope x:=by first | exact Or.inl rfl | exact Or.inr rfl)
  (hs:swapsWith e (some (.Name x pos')) pos.line X.env=pure false:=by rfl) (hf:X.fn x=true\/X.env.scope.names.lookup x=some .local:=by first | exact .inl rfl | exact .inr rfl) :
  PS X (.Assign [.Name x pos'] e pos) (LS X.K (aY i f)):=PS.imp (GT hN hi hx he hs hf) fun E s H h=>by
 obtain⟨Z,d,m,R,ok,rs,h,k,_⟩:=h;exact⟨Z,d,m,_,ok,rs,h,fun x m1 v H1 q e1 ok1 r1=>k _ m1 _ H1 q e1 ok1 ((rs.ext e1).set r1)⟩
abbrev DG:=D->bZ->Mu->(bZ->Mu->Prop)->Prop
abbrev kX:=List PyData->bZ->Mu->(bZ->Mu->Prop)->Prop
def LG(K:PySem.W.Frag)(g:DG):TG:=fun v s H Q=>∃ Z x d m R,Ok K Z m H/\RS K Z m H d s/\RD K Z m H x v/\g x d m R/\∀ d' m' s' H',R d' m'->Ext K Z m H m' H'->Ok K Z m' H'->RS K Z m' H' d' s'->Q s' H'
def mI(K:PySem.W.Frag)(g:kX):kP:=fun vs s H Q=>∃ Z ps d m R,Ok K Z m H/\RS K Z m H d s/\RPs K Z m H ps vs/\g ps d m R/\∀ d' m' s' H',R d' m'->Ext K Z m H m' H'->Ok K Z m' H'->RS K Z m' H' d' s'->Q s' H'
theorem PG.imp{t t':TG}(h:PG X e t)(q:∀ v s H Q,t' v s H Q->t v s H Q):PG X e t':=fun pins s d H v u Q I r w=>h pins s d H v u Q I r (q _ _ _ _ w)
theorem PGs.imp{es:List Expr}{t t':kP}(h:PGs X es t)(q:∀ v s H Q,t' v s H Q->t v s H Q):PGs X es t':=fun pins s d H v u Q I r w=>h pins s d H v u Q I r (q _ _ _ _ w)
@[simp] def gN(i:Nat):DG:=fun x d m Q=>Q (d.set i (some x)) m
theorem NL(i:Nat){x:Str}(hN:X.N.Nodup)(hi:X.N[i]?=some x:=by rfl)(hx:jG X.env.scope x:=by first | exact Or.inl rfl | exact Or.inr rfl)
  (hf:X.fn x=true\/X.env.scope.names.lookup x=some .local:=by first | exact .inl rfl | exact .inr rfl):PG X (.Name x pos) (LG X.K (gN i)):=PG.imp (U5 hN hi hx hf) fun v s H Q h=>by
 obtain⟨Z,x,d,m,R,ok,rs,rd,h,k⟩:=h;exact k _ m _ H h Ext.refl ok (rs.set rd)
@[simp] def iN:kX:=fun ps d m Q=>ps=[]/\Q d m
@[simp] def eE(g:DG)(r:kX):kX
 | p::qs,d,m,Q=>g (.dat p) d m fun d' m'=>r qs d' m' Q
 | [],_,_,_=>False
theorem AF:PGs X [] (mI X.K iN):=PGs.imp ND fun vs s H Q h=>by
 obtain⟨Z,ps,d,m,R,ok,rs,rp,⟨rfl,h⟩,k⟩:=h;simp only[RPs]at rp;exact⟨rp,k d m s H h Ext.refl ok rs⟩
theorem UO{es:List Expr}{g:DG}{r:kX}(h1:PG X e (LG X.K g))(h2:PGs X es (mI X.K r))(hs:(assignEach (e::es) X.env).map (·.2)=assign e X.env::(assignEach es X.env).map (·.2):=by rfl) :
  PGs X (e::es) (mI X.K (eE g r)):=PGs.imp (FL h1 h2 hs) fun vs s H Q h=>by
 obtain⟨Z,ps,d,m,R,ok,rs,rp,h,k⟩:=h
 match ps,rp,h with
 | [],_,h=>exact h.elim
 | p::qs,rp,h =>
 simp only[RPs]at rp;obtain⟨v,w,rfl,r1,r2⟩:=rp;exact⟨v,w,rfl,Z,.dat p,d,m,_,ok,rs,r1,h,fun d' m' s' H' q e1 ok1 rs1=>⟨Z,qs,d',m',R,ok1,rs1,RPs.ext e1 _ _ r2,q,fun d2 m2 s2 H2 q2 e2 ok2 rs2=>k d2 m2 s2 H2 q2 (e1.trans e2) ok2 rs2⟩⟩
@[simp] def gT(n:Nat)(g:kX):DG:=fun x d m Q=>∃ ps,x=.dat (.tuple ps)/\ps.length=n/\g ps d m Q
theorem HE{es:List Expr}{j n:Nat}{g:kX}(hc:X.calm=true)(h:PGs X es (mI X.K g))(hn:(assignEach es X.env).length=n:=by rfl)(hst:(assignEach es X.env).findIdx? (·.1)=none:=by rfl) :
  PG X (.Tuple es j pos) (LG X.K (gT n g)):=PG.imp (p8 hc h hn hst) fun v s H Q h=>by
 obtain⟨Z,x,d,m,R,ok,rs,rd,⟨ps,rfl,hl,h⟩,k⟩:=h;simp only[RD,RP]at rd;obtain⟨a,vs,rfl,h1,h2⟩:=rd;exact⟨a,vs,rfl,h1,by rw[h2.length];exact hl,Z,ps,d,m,R,ok,rs,h2,h,k⟩
@[simp] def Ao(f:DE)(g:DG):DS:=fun E d m=>f d m fun x m1=>g x d m1 E.nx
theorem WU{g:DG}(he:PE X e (LE X.K f))(hg:PG X tg (LG X.K g))(hs:swapsWithSole [tg] e pos.line X.env=pure false:=by rfl)(hw:swappedStores [tg] e X.env=pure none:=by rfl)
  (h1:(assignEach [tg] X.env).map (·.2)=[assign tg X.env]:=by rfl):PS X (.Assign [tg] e pos) (LS X.K (Ao f g)):=PS.imp (Sk he hg hs hw h1) fun E s H h=>by
 obtain⟨Z,d,m,R,ok,rs,h,k,_⟩:=h;exact⟨Z,d,m,_,ok,rs,h,fun x m1 v H1 q e1 ok1 r1=>⟨Z,x,d,m1,_,ok1,rs.ext e1,r1,q,fun d2 m2 s2 H2 q2 e2 ok2 rs2=>k d2 m2 s2 H2 q2 (e1.trans e2) ok2 rs2⟩⟩
@[simp] def Qa(i j:Nat)(g:DA):DS:=fun E d m=>g d m fun xs m1=>∃ x y,xs=[x,y]/\E.nx ((d.set i (some x)).set j (some y)) m1
theorem FC(i j:Nat){x y:Str}{a b:Expr}{g:DA}{px py pt:Pos}{kt k2 pt2}(hc:X.calm=true)(hN:X.N.Nodup)(ha:PA X [a,b] (LA X.K g))(hi:X.N[i]?=some x:=by rfl)(hj:X.N[j]?=some y:=by rfl)(hij:i≠j:=by decide)
  (hx:X.env.scope.names.lookup x=some .local:=by rfl) (hy:X.env.scope.names.lookup y=some .local:=by rfl)
  (hw:swappedStores [.Tuple [.Name x px,.Name y py] kt pt] (.Tuple [a,b] k2 pt2) X.env=pure (some [x,y]):=by rfl)
  (hs:swapsWithSole [.Tuple [.Name x px,.Name y py] kt pt] (.Tuple [a,b] k2 pt2) pos.line X.env=pure false:=by rfl) :
  PS X (.Assign [.Tuple [.Name x px,.Name y py] kt pt] (.Tuple [a,b] k2 pt2) pos) (LS X.K (Qa i j g)):=PS.imp (WN hc hN hi hj hij hx hy ha hw hs) fun E s H h=>by
 obtain⟨Z,d,m,R,ok,rs,h,k,_⟩:=h;refine⟨Z,d,m,_,ok,rs,h,fun xs m1 vs H1 ⟨x,y,e,q⟩ e1 ok1 r1=>?_⟩;subst e;obtain⟨v,w,rfl,r1,r2⟩:=r1.two;exact⟨v,w,rfl,k _ m1 _ H1 q e1 ok1 (((rs.ext e1).set r1).set r2)⟩
@[simp] def Bs(fo fi f:DE):DS:=fun E d m=>f d m fun x m1=>fo d m1 fun o m2=>fi d m2 fun i m3 =>
 ∃ a k xs j p,o=.cel a/\i=.dat (.int k)/\x=.dat p/\m3 a=some (.l xs)/\fG xs.length k=some j/\E.nx d (cK m3 a (.l (xs.set j p)))
theorem U6{o i:Expr}{fo fi:DE}{tpos:Pos}(he:PE X e (LE X.K f))(ho:PE X o (LE X.K fo))(hi:PE X i (LE X.K fi))
  (ha:∀ v,assign (.Subscript o i tpos) X.env v=(do
   let ov <- holding [v] (eval o X.env)
   let iv <- holding [v,ov] (eval i X.env)
   standAt tpos
   holding [v,ov,iv] (setItem ov iv v)
   release [v,ov,iv] []):=by intro _;rfl)
  (hs:swapsWithSole [.Subscript o i tpos] e pos.line X.env=pure false:=by rfl) (hw:swappedStores [.Subscript o i tpos] e X.env=pure none:=by rfl)
  (h1:(assignEach [.Subscript o i tpos] X.env).map (·.2)=[assign (.Subscript o i tpos) X.env]:=by rfl):PS X (.Assign [.Subscript o i tpos] e pos) (LS X.K (Bs fo fi f)) :=
 PS.imp (Sk he (VQ ho hi BW ha) hs hw h1) fun E s H h=>by
 obtain⟨Z,d,m,R,ok,rs,h,k,_⟩:=h;refine⟨Z,d,m,_,ok,rs,h,fun x m1 v H1 q e1 ok1 r1=>⟨Z,d,m1,_,ok1,rs.ext e1,q,fun o m2 w H2 q2 e2 ok2 r2=>⟨Z,d,m2,_,ok2,(rs.ext e1).ext e2,q2,fun i m3 z H3 q3 e3 ok3 r3=>?_⟩⟩⟩;obtain⟨a,k',xs,j,p,rfl,rfl,rfl,hm,hj,q⟩:=q3
 cases r3.int
 obtain⟨rfl,_⟩:=r2.ext e3;obtain⟨vs,g1,g2⟩:=ok3.l hm;have r1':=r1.ext (e2.trans e3)
 refine⟨a,vs,k',j,rfl,rfl,g1,by rw[g2.length];exact hj,?_⟩
 have e4:Ext X.K Z m3 H3 (cK m3 a (.l (xs.set j p))) (upd H3 a (.lst (vs.set j v))):=Ext.put ok3 hm g1
 exact k d _ s _ q (e1.trans (e2.trans (e3.trans e4))) (ok3.put hm g1 (g2.set r1')) ((rs.ext e1).ext (e2.trans (e3.trans e4)))
def Av(c:DT)(b:DS):DS:=fun E d m=>∃ W:Nat->bZ->Mu->Prop,(∃ n,W n d m)/\∀ n d m,W n d m ->
 c d m fun k m1=>if k=true then ∃ N:bZ->Mu->Prop,(∀ d' m',N d' m'->∃ n',n'<n/\W n' d' m')/\b {E with nx:=N,ct:=N,bk:=E.nx} d m1 else E.nx d m1
theorem Q9(hp:PassesOwn (model X.prog X.w) X.A X.env X.xe)(hc:PT X c (LT X.K tc))(hb:PSs X body (LS X.K b)):PS X (.While c body [] pos) (LS X.K (Av tc b)):=PS.imp (W2 hp hc hb) fun E s H h=>by
 obtain⟨Z,d,m,R,ok,rs,⟨W,⟨n0,w0⟩,turn⟩,kn,kr,kb,kc⟩:=h;refine⟨fun n s' H'=>∃ d' m',Ext X.K Z m H m' H'/\Ok X.K Z m' H'/\RS X.K Z m' H' d' s'/\W n d' m',⟨n0,d,m,Ext.refl,ok,rs,w0⟩,?_⟩;rintro n s1 H1 ⟨d1,m1,e1,ok1,rs1,w1⟩;refine⟨Z,d1,m1,_,ok1,rs1,turn n d1 m1 w1,fun k m2 H2 q e2 ok2=>?_⟩
 cases k with
 | false =>
  rw[if_neg Bool.false_ne_true]at q ⊢;exact kn d1 m2 s1 H2 q (e1.trans e2) ok2 (rs1.ext e2)
 | true =>
  rw[if_pos rfl]at q ⊢;obtain⟨N,hN,q⟩:=q;refine⟨fun s' H'=>∃ d' m',Ext X.K Z m H m' H'/\Ok X.K Z m' H'/\RS X.K Z m' H' d' s'/\N d' m',fun s' H' ⟨d',m',g1,g2,g3,g4⟩=>?_,?_⟩
  ·obtain⟨n',hn,w⟩:=hN d' m' g4;exact⟨n',hn,d',m',g1,g2,g3,w⟩
  ·have e12:=e1.trans e2
   exact⟨Z,d1,m2,_,ok2,rs1.ext e2,q,fun d3 m3 s3 H3 q3 e3 ok3 rs3=>⟨d3,m3,e12.trans e3,ok3,rs3,q3⟩,fun x m3 v H3 q3 e3 ok3 r3=>kr x m3 v H3 q3 (e12.trans e3) ok3 r3,
    fun d3 m3 s3 H3 q3 e3 ok3 rs3=>kn d3 m3 s3 H3 q3 (e12.trans e3) ok3 rs3,fun d3 m3 s3 H3 q3 e3 ok3 rs3=>⟨d3,m3,e12.trans e3,ok3,rs3,q3⟩⟩
abbrev DI:=bZ->Mu->(List D->Mu->Prop)->Prop
def Yld(K:PySem.W.Frag)(Z:Addr->Prop)(m:Mu)(H:Hp)(x:D)(v:V)(H2 H3:Hp):Prop :=
 (H3=H2/\RD K Z m H x v)\/∃ p ps vs,x=.dat (.tuple ps)/\v=.ref p/\H2 p=none/\H3=upd H2 p (.tup vs)/\RPs K Z m H ps vs
theorem Yld.same{K:PySem.W.Frag}{Z:Addr->Prop}{m:Mu}{H H2 H3:Hp}{x:D}{v:V}(h:Yld K Z m H x v H2 H3):Same H2 H3:=by
 rcases h with⟨rfl,_⟩ | ⟨p,ps,vs,_,_,hp,rfl,_⟩
 ·exact fun _ _ q=>q
 ·exact dX hp
theorem Yld.rd{K:PySem.W.Frag}{Z Z':Addr->Prop}{m m':Mu}{H H2 H3:Hp}{x:D}{v:V}(tr:∀ d v,RD K Z m H d v->RD K Z' m' H2 d v)(ok:Ok K Z' m' H2)(h:Yld K Z m H x v H2 H3):RD K Z' m' H3 x v:=by
 rcases h with⟨rfl,h⟩ | ⟨p,ps,vs,rfl,rfl,hp,rfl,h⟩
 ·exact tr _ _ h
 ·have h2:=RPs.lift (fun p v q=>tr (.dat p) v q) h
  simp only[RD,RP];exact⟨p,vs,rfl,.inl (.inl dR),RPs.ext (ok.ext (dX hp)) _ _ h2⟩
structure ExtY (K:PySem.W.Frag) (Z:Addr->Prop) (m:Mu) (H:Hp) (m':Mu) (H':Hp):Prop where
 t:∀ a vs,SqT K H a vs->SqT K H' a vs
 l:∀ a vs,(m a=none/\¬ Z a)->SqL K H a vs->m' a=none/\SqL K H' a vs
 fz:∀ a o u,H a=some (.frz o u)->H' a=some (.frz o u)
theorem Ext.y{K:PySem.W.Frag}{Z:Addr->Prop}{m m':Mu}{H H':Hp}(e:Ext K Z m H m' H'):ExtY K Z m H m' H':=⟨e.t,e.l,e.fz⟩
def pN(K:PySem.W.Frag)(Z:Addr->Prop)(m:Mu)(H:Hp)(xs:List D)(J:It):Prop:=∀ m2 H2,ExtY K Z m H m2 H2 ->
 (∀ (i:Nat) (x:D),xs[i]?=some x->J.go i H2/\∀ v H3,J.yld i H2 v H3->Yld K Z m H x v H2 H3)/\J.stop xs.length H2
def LI(K:PySem.W.Frag)(fi:DI):TI:=fun s H R=>∃ (Z:Addr->Prop) (d:bZ) (m:Mu) (ZZ:List D->Mu->Prop),Ok K Z m H/\RS K Z m H d s/\fi d m ZZ /\
 ∀ xs m' H' J,ZZ xs m'->Ext K Z m H m' H'->Ok K Z m' H'->pN K Z m' H' xs J->R J H'
@[simp] def fE(f:DE):DI:=fun d m Q=>f d m fun x m1=>(∃ ps,x=.dat (.list ps)/\Q (ps.map .dat) m1)\/(∃ ps,x=.dat (.tuple ps)/\Q (ps.map .dat) m1)
theorem PI.imp{t t':TI}(h:PI X tg e t)(q:∀ s H R,t' s H R->t s H R):PI X tg e t':=fun pins s d H R I w=>h pins s d H R I (q _ _ _ w)
theorem Oi{ps:List PyData}{i:Nat}{x:D}(h:(ps.map D.dat)[i]?=some x):∃ p,ps[i]?=some p/\x=.dat p:=by
 rw[List.getElem?_map]at h
 cases e:ps[i]? with
 | none=>rw[e]at h;cases h
 | some p=>rw[e]at h;cases h;exact⟨p,rfl,rfl⟩
theorem DM{K:PySem.W.Frag}{Z:Addr->Prop}{m:Mu}{H:Hp}{a:Addr}{vs:List V}{ps:List PyData}(h0:m a=none/\¬ Z a)(h1:SqL K H a vs)(h2:RPs K Z m H ps vs):pN K Z m H (ps.map .dat) (Bk K a):=by
 intro m2 H2 e;obtain⟨q0,q1⟩:=e.l a vs h0 h1;have q2:=h2
 refine⟨fun i x hx=>?_,⟨vs,q1,by rw[q2.length,List.length_map];exact Nat.le_refl _⟩⟩
 obtain⟨p,hp,rfl⟩:=Oi hx;obtain⟨v,hv,rv⟩:=h2.get hp;refine⟨⟨vs,v,q1,hv⟩,fun v' H3 y=>.inl ⟨y.1,?_⟩⟩;have:=y.2 vs q1
 rw[hv]at this
 cases this
 exact rv
theorem JN{K:PySem.W.Frag}{Z:Addr->Prop}{m:Mu}{H:Hp}{a:Addr}{vs:List V}{ps:List PyData}(h1:SqT K H a vs)(h2:RPs K Z m H ps vs):pN K Z m H (ps.map .dat) (La K a):=by
 intro m2 H2 e;have q1:=e.t a vs h1
 have q2:=h2
 refine⟨fun i x hx=>?_,⟨vs,q1,by rw[q2.length,List.length_map];exact Nat.le_refl _⟩⟩
 obtain⟨p,hp,rfl⟩:=Oi hx;obtain⟨v,hv,rv⟩:=h2.get hp;refine⟨⟨vs,v,q1,hv⟩,fun v' H3 y=>.inl ⟨y.1,?_⟩⟩;have:=y.2 vs q1
 rw[hv]at this
 cases this
 exact rv
theorem W3{l:Expr}{tl:TE}(hl:PE X l tl):PI X tg l (fun s H R=>tl s H fun x H1=>(∃ a,x=.ref a/\(∃ xs,SqL X.K H1 a xs)/\R (Bk X.K a) H1)\/(∃ a,x=.ref a/\(∃ xs,SqT X.K H1 a xs)/\R (La X.K a) H1)):=by
 intro pins s σ H R I h;refine aZ (hl pins s σ H _ I h) fun v s1 ⟨x,H1,I1,r1,q1⟩=>?_;rcases q1 with⟨a,e,⟨xs,hq⟩,q⟩ | ⟨a,e,⟨xs,hq⟩,q⟩
 ·subst e
  cases r1
  obtain⟨its,rv,p,hz⟩:=I1.list hq;refine wpAny_pyIter_list p.isList ?_;refine⟨s1.heap.objs.size,[s1.heap.objs.size],_,_,H1,rfl,I1.kept (t':=s1.toks) fun b o e=>Heap.get?_push_of_some _ e,EA a _,⟨_,Heap.get?_push_size _ rfl,rfl,rfl⟩,fun b hb=>?_,q⟩;have e:b=s1.heap.objs.size:=by simpa using hb
  subst e;exact I1.fpOk (Nat.le_refl _) (I1.hok.fresh (Nat.le_refl _))
 ·subst e
  cases r1
  obtain⟨its,rv,p,hz⟩:=I1.tuple hq;refine wpAny_pyIter_tuple (show s1.heap.IsTuple a its.toArray from p) ?_
  refine⟨s1.heap.objs.size,[s1.heap.objs.size],_,_,H1,rfl,I1.kept (t':=s1.toks) fun b o e=>Heap.get?_push_of_some _ e,VT a _,⟨_,Heap.get?_push_size _ rfl,rfl,rfl⟩,fun b hb=>?_,q⟩;have e:b=s1.heap.objs.size:=by simpa using hb
  subst e;exact I1.fpOk (Nat.le_refl _) (I1.hok.fresh (Nat.le_refl _))
theorem VJ(ha:PE X e (LE X.K f)):PI X tg e (LI X.K (fE f)):=PI.imp (W3 ha) fun s H R h=>by
 obtain⟨Z,d,m,ZZ,ok,rs,h,k⟩:=h;refine⟨Z,d,m,_,ok,rs,h,fun x m1 v H1 q e1 ok1 rd=>?_⟩;rcases q with⟨ps,rfl,q⟩ | ⟨ps,rfl,q⟩
 ·simp only[RD,RP]at rd;obtain⟨a,vs,rfl,h0,h1,h2⟩:=rd;exact .inl ⟨a,rfl,⟨vs,h1⟩,k _ m1 H1 _ q e1 ok1 (DM h0 h1 h2)⟩
 ·simp only[RD,RP]at rd;obtain⟨a,vs,rfl,h1,h2⟩:=rd;exact .inr ⟨a,rfl,⟨vs,h1⟩,k _ m1 H1 _ q e1 ok1 (JN h1 h2)⟩
def eZ(lo:Int)(n:Nat):List D:=(List.range n).map fun i=>.dat (.int (lo+(i:Nat)))
@[simp] def fN(f:DE):DI:=fun d m Q=>f d m fun x m1=>∃ j:Int,x=.dat (.int j)/\-(2^62)<=j/\j<2^62/\Q (eZ 0 j.toNat) m1
theorem NK{p:Pos}(hg:Gl X "range")(hm:X.mg "range"=none)(ha:PE X e (LE X.K f))(hs:starEach [e] X.env=[(false,eval e X.env)]:=by rfl):PI X tg (.Call (.Name "range" p) [e] [] pos) (LI X.K (fN f)) :=
 PI.imp (RY hg hm (iV ha lN (by rw[hs];rfl)) hs) fun s H R h=>by
  obtain⟨Z,d,m,ZZ,ok,rs,h,k⟩:=h;refine⟨Z,d,m,_,ok,rs,h,fun x m1 v H1 ⟨j,e,h1,h2,q⟩ e1 ok1 rd=>?_⟩;subst e
  cases rd.int
  show ∃ j':Int,[V.int j]=[V.int j']/\_
  refine⟨j,rfl,h1,h2,k _ m1 H1 _ q e1 ok1 fun m2 H2 e2=>⟨fun i x hx=>?_,?_⟩⟩
  ·unfold eZ at hx;rw[List.getElem?_map]at hx
   cases ei:(List.range j.toNat)[i]? with
   | none=>rw[ei]at hx;cases hx
   | some i' =>
    rw[ei]at hx
    cases hx
    have hl:=(List.getElem?_eq_some_iff.mp ei).1
    have hi:i'=i:=by
     obtain⟨_,z⟩:=List.getElem?_eq_some_iff.mp ei;rw[List.getElem_range]at z;exact z.symm
    subst hi;rw[List.length_range]at hl;refine⟨hl,fun v' H3 y=>.inl ⟨y.1,?_⟩⟩;rw[y.2];exact .ofInt
  ·show j.toNat<=(eZ 0 j.toNat).length
   unfold eZ;rw[List.length_map,List.length_range];exact Nat.le_refl _
def eP(g:DG)(b:DS)(E:Ends2):List D->bZ->Mu->Prop
 | [],d,m=>E.nx d m
 | x::xs,d,m=>g x d m fun d' m'=>b {E with nx:=eP g b E xs,ct:=eP g b E xs,bk:=E.nx} d' m'
@[simp] def iR(fi:DI)(g:DG)(b:DS):DS:=fun E d m=>fi d m fun xs m1=>eP g b E xs d m1
theorem AO{fi:DI}{g:DG}(hp:PassesOwn (model X.prog X.w) X.A X.env X.xe)(hc:X.calm=true)(hi:PI X tg iter (LI X.K fi))(hg:PG X tg (LG X.K g))(hb:PSs X body (LS X.K b))
  (hs:∀ x,foldedSetIterable iter X.env x=pure x:=by intro _;rfl):PS X (.For tg iter body [] pos) (LS X.K (iR fi g b)):=PS.imp (Z0 hp hc hi hg hb hs) fun E s H h=>by
 obtain⟨Z,d,m,R,ok,rs,h,kn,kr,kb,kc⟩:=h;refine⟨Z,d,m,_,ok,rs,h,fun xs m1 H1 J q e1 ok1 yl=>?_⟩;refine⟨fun i n s' H'=>∃ d' m',n=xs.length-i/\i<=xs.length/\Ext X.K Z m1 H1 m' H'/\Ok X.K Z m' H'/\RS X.K Z m' H' d' s'/\eP g b R (xs.drop i) d' m',⟨xs.length,d,m1,by simp,Nat.zero_le _,Ext.refl,ok1,rs.ext e1,by simpa using q⟩,?_⟩
 rintro i n s2 H2 ⟨d2,m2,rfl,hi,e2,ok2,rs2,w⟩;obtain⟨y1,y2⟩:=yl m2 H2 e2.y
 by_cases hl:i<xs.length
 ·rw[List.drop_eq_getElem_cons hl]at w;obtain⟨go,yd⟩:=y1 i xs[i] (List.getElem?_eq_getElem hl);refine .inr ⟨go,fun s' H'=>∃ d' m',Ext X.K Z m1 H1 m' H'/\Ok X.K Z m' H'/\RS X.K Z m' H' d' s'/\eP g b R (xs.drop (i+1)) d' m',fun s' H' ⟨d',m',g1,g2,g3,g4⟩=>⟨xs.length-(i+1),by omega,d',m',rfl,hl,g1,g2,g3,g4⟩,fun v H3 y=>?_⟩
  have yy:=yd v H3 y
  have e2':=e2.trans (ok2.ext yy.same)
  refine⟨Z,xs[i],d2,m2,_,ok2.grow yy.same,rs2.ext (ok2.ext yy.same),yy.rd (fun d v h=>h.ext e2) ok2,w,fun d3 m3 s3 H3 q3 e3 ok3 rs3=>?_⟩;have e23:=e2'.trans e3
  have e13:=e1.trans e23
  exact⟨Z,d3,m3,_,ok3,rs3,q3,fun d4 m4 s4 H4 q4 e4 ok4 rs4=>⟨d4,m4,e23.trans e4,ok4,rs4,q4⟩,fun x m4 v H4 q4 e4 ok4 r4=>kr x m4 v H4 q4 (e13.trans e4) ok4 r4,
   fun d4 m4 s4 H4 q4 e4 ok4 rs4=>kn d4 m4 s4 H4 q4 (e13.trans e4) ok4 rs4,fun d4 m4 s4 H4 q4 e4 ok4 rs4=>⟨d4,m4,e23.trans e4,ok4,rs4,q4⟩⟩
 ·have e:i=xs.length:=by omega
  subst e;rw[List.drop_length]at w;exact .inl ⟨y2,kn d2 m2 s2 H2 w (e1.trans e2) ok2 rs2⟩
end
section
variable {prog:Program}{w:World}{A:Around}{E:Value->Shared->Prop}{s:Shared}
theorem KO(n:Nat):Builtin.Slice.sliceAdjust none none (-1) (n:Int)=((n:Int)-1,-1):=by
 unfold Builtin.Slice.sliceAdjust;simp
theorem GY(n:Nat):Builtin.Slice.slicePlaces ((n:Int)-1) (-1) (-1)=n:=by
 unfold Builtin.Slice.slicePlaces;have h1:¬ ((-1:Int) > 0):=by omega
 simp only[h1,if_false]
 by_cases h:(n:Int)-1 > -1
 ·simp only[h,if_true,Int.neg_neg,Int.ediv_one];omega
 ·simp only[h,if_false];omega
theorem Xy(xs:List Value):∀ (k j:Nat),k+j=xs.length->(List.range k).filterMap (fun i=>xs[k-1-i]?)=(xs.take k).reverse
 | 0,_,_=>by simp
 | k+1,j,h=>by
  have ih:=Xy xs k (j+1) (by omega)
  rw[List.range_succ_eq_map,List.filterMap_cons];have hk:k<xs.length:=by omega
  have e0:xs[k+1-1-0]?=some xs[k]:=by simp[hk]
  rw[e0,List.filterMap_map];have e1:((fun i=>xs[k+1-1-i]?)∘Nat.succ)=fun i=>xs[k-1-i]?:=by
   funext i
   show xs[k+1-1-(i+1)]?=xs[k-1-i]?
   congr 1
   omega
  rw[e1,ih,List.take_succ_eq_append_getElem hk,List.reverse_append];rfl
theorem KZ(xs:Array Value):((List.range xs.size).filterMap fun(k:Nat)=>xs[(((xs.size:Nat):Int)-1+(k:Int)*(-1)).toNat]?).toArray=xs.toList.reverse.toArray:=by
 have h:=Xy xs.toList xs.size 0 (by simp)
 have e:(fun(k:Nat)=>xs[(((xs.size:Nat):Int)-1+(k:Int)*(-1)).toNat]?)=fun k=>xs.toList[xs.size-1-k]?:=by
  funext k
  have e1:(((xs.size:Nat):Int)-1+(k:Int)*(-1)).toNat=xs.size-1-k:=by omega
  rw[e1,Array.getElem?_toList]
 rw[e,h]
 congr 2
 rw[<- Array.length_toList,List.take_length]
theorem g7{sl:Addr}{t:Tok}{n:Nat}{Q:Int×Int×Nat->Shared->Prop}(hs:s.heap.IsSliceOf sl .none .none (.int (-1) t))
  (h:Q ((n:Int)-1,-1,n) s):wpAny (model prog w) A (Builtin.Slice.sliceApplied (.ref sl) (pure (n:Int))) Q E s:=by
 obtain⟨os,hos,hcs,hds⟩:=id hs;unfold Builtin.Slice.sliceApplied Builtin.Slice.sliceFields;refine wpAny_bind (wpAny_bind (wpAny_field hos hds (x:=.none) rfl (wpAny_bind (wpAny_field hos hds (x:=.none) rfl (wpAny_bind (wpAny_field hos hds (x:=.int (-1) t) rfl (wpAny_pure ?_)))))));refine wpAny_bind (slicePart_int ?_);show wpAny _ _ (if ((-1:Int)==0)=true then _ else _) _ _ s
 rw[if_neg (by decide)]
 refine wpAny_bind (slicePart_none (wpAny_bind (slicePart_none (wpAny_bind (wpAny_pure ?_)))));show wpAny _ _ (match Builtin.Slice.sliceAdjust none none (-1) (n:Int) with | (lo,hi)=>pure (lo,(-1:Int),Builtin.Slice.slicePlaces lo hi (-1))) _ _ s
 rw[KO];show wpAny _ _ (pure ((n:Int)-1,(-1:Int),Builtin.Slice.slicePlaces ((n:Int)-1) (-1) (-1))) _ _ s
 rw[GY];exact wpAny_pure h
theorem u8{t sl:Addr}{items:Array Value}{tk:Tok}{Q:Value->Shared->Prop}(ht:IsTup s.heap t items)(hs:s.heap.IsSliceOf sl .none .none (.int (-1) tk))
  (h:Q (.ref s.heap.objs.size) {s with heap:=s.heap.push {cls:=.type "tuple",data:=.seq items.toList.reverse.toArray}})
  (hsz:items.size<=sizeLine):wpAny (model prog w) A (getItem (.ref t) (.ref sl)) Q E s:=by
 have htake:sizeOk (.seq items.toList.reverse.toArray):=by
  show items.toList.reverse.toArray.size<=sizeLine
  simpa using hsz
 obtain⟨os,hos,hcs,hds⟩:=id hs;have hTs:s.TypeIs (.ref sl) "slice":=⟨os,hos,hcs⟩
 unfold getItem
 try with_reducible refine wpAny_holding ?_
 first | refine wpAny_bind (wpAny_pure ?_) | skip
 refine wpAny_bind (wpAny_sequenceKey ht.typeIs (by decide) ?_)
 refine wpAny_bind (wpAny_callSpecial?_slot (name:=Str.ofString "__getitem__") ht.typeIs PyProof.Rows.slot_tuple_getitem
  (wpAny_call_entry PyProof.Rows.slot_tuple_getitem ht.typeIs entry_tuple_getitem ?_ (args_tuple_getitem _ _)))
 show wpAny _ _ (Builtin.Tuple.tupleItemsOf (.ref t)>>=_) _ _ s
 refine wpAny_bind (tupleItemsOf_ ht ?_);refine wpAny_bind (wpAny_typeOf hTs ?_);rw[if_pos (by decide)]
 refine wpAny_bind (g7 hs ?_);have hno:¬ ((((items.size:Nat):Int)-1==0&&(-1:Int)==1&&items.size==items.size)=true):=by
  intro q;rw[Bool.and_eq_true,Bool.and_eq_true]at q;exact absurd q.1.2 (by decide)
 show wpAny _ _ (if (((items.size:Nat):Int)-1==0&&(-1:Int)==1&&items.size==items.size)=true then _ else _) _ _ s
 rw[if_neg hno,KZ]
 first
  | exact wpAny_bind (m:=Builtin.Tuple.tupleExact _) (wpAny_newObj_type (wpAny_pure ⟨_,rfl,wpAny_pure h⟩) htake)
  | exact wpAny_bind (m:=Builtin.Tuple.tupleExact _) (wpAny_newObj_type (wpAny_bind (wpAny_pure (wpAny_pure ⟨_,rfl,wpAny_pure h⟩))) htake)
  | exact wpAny_bind (wpAny_bind (m:=Builtin.Tuple.tupleExact _) (wpAny_newObj_type (wpAny_pure (wpAny_pure ⟨_,rfl,wpAny_pure h⟩)) htake))
  | exact wpAny_bind (wpAny_bind (m:=Builtin.Tuple.tupleExact _) (wpAny_newObj_type (wpAny_pure ⟨_,rfl,wpAny_pure h⟩) htake))
end
section
variable {X:Cx}{a e:Expr}{es:List Expr}{f:DE}{ga:DA}{pos p p1 p2 p3 p4:Pos}
theorem Vals.rev:∀ {xs:List V} {us:List Value},Vals xs us->Vals xs.reverse us.reverse
 | _,_,.nil=>.nil
 | _,_,.cons r t=>by
  rw[List.reverse_cons,List.reverse_cons];exact(Vals.rev t).append (.cons r .nil)
@[simp] def Ee(f:DE):DE:=fun d m Q=>f d m fun x m1=>∃ xs,x=.dat (.tuple xs)/\Q (.dat (.tuple xs.reverse)) m1
theorem FF{j:Nat}(ha:PE X a (LE X.K f)):PE X (.Subscript a (.Slice none none (some (.UnaryOp .USub (.Constant (.int 1) j p3) p4)) p2) pos) (LE X.K (Ee f)):=by
 intro pins s σ H Q I h;obtain⟨Z,d,m,R,ok,rs,h,k⟩:=h;refine Subscript_ (aZ (ha pins s σ H (fun x H1=>∃ a vs,x=.ref a/\SqT X.K H1 a vs/\∀ p,H1 p=none->Q (.ref p) (upd H1 p (.tup vs.reverse))) I ?_) fun v s1 ⟨x,H1,I1,r1,a',vs,ex,hq,q1⟩=>?_)
 ·refine⟨Z,d,m,_,ok,rs,h,fun x m1 v H1 ⟨xs,e,q⟩ e1 ok1 rd=>?_⟩;subst e;simp only[RD,RP]at rd;obtain⟨a',vs,rfl,h1,h2⟩:=rd;refine⟨a',vs,rfl,h1,fun p hp=>?_⟩;have sm:Same H1 (upd H1 p (.tup vs.reverse)):=dX hp
  refine k _ m1 _ _ q (e1.trans (ok1.ext sm)) (ok1.grow sm) ?_;simp only[RD,RP];exact⟨p,_,rfl,.inl (.inl dR),RPs.ext (ok1.ext sm) _ _ h2.reverse⟩
 ·subst ex
  cases r1
  refine wpAny_Slice ?_;rw[evalPart_none];refine wpAny_pure (wpAny_pure ?_);rw[evalPart_some];refine UnaryOp_ (wpAny_Constant_int (neg_int ?_));have I4:∀ tk,Inv X pins σ H1 {s1 with heap:=s1.heap.push {cls:=.type "slice",data:=.fields #[.none,.none,.int (-1) (s1.toks+1)]},toks:=tk}:=fun tk=>I1.kept fun b ob q=>Heap.get?_push_of_some _ q
  obtain⟨its,r,ht,hz⟩:=(I4 (s1.toks+1+1)).tuple hq;have hl:=r.length
  refine tail_any (ops:=[.ref a',.ref s1.heap.objs.size]) ht.typeIs PyProof.Rows.slot_tuple_getitem.lookup (u8 ht (Heap.IsSliceOf.new ..) ?_ (by rw[List.size_toArray];omega)) (by with_unfolding_all rfl)
  refine⟨.ref _,upd H1 _ (.tup vs.reverse),(I4 (s1.toks+1+1)).laid (t':=s1.toks+1+1) (fun b ob q=>Heap.get?_push_of_some _ q) (Nat.le_refl _) ?_,rfl,q1 _ ((I4 (s1.toks+1+1)).hok.fresh (Nat.le_refl _))⟩;exact⟨⟨by rw[List.length_reverse];exact hz,NoD.new _ _ _⟩,_,Vals.rev r,IsTup.new _ _⟩
@[simp] def yV:PyData->String
 | .none=>"NoneType"
 | .bool _=>"bool"
 | .int _=>"int"
 | .str _=>"str"
 | .list _=>"list"
 | .tuple _=>"tuple"
 | .dict _=>"dict"
@[simp] def bV(q:PyData)(c:String):Bool:=yV q==c||(yV q == "bool" && c == "int")
theorem Hk(K:PySem.W.Frag)(q:PyData)(hd:∀ kv,q≠.dict kv)(c:String)(hc:c="int"\/c="bool"\/c="str"\/c="tuple"\/c="list"):PySem.W.kitOne K (.type (yV q)) (.type c)=some (bV q c):=by
 rcases hc with rfl | rfl | rfl | rfl | rfl<;>cases q<;>first | rfl | exact absurd rfl (hd _)
theorem EE{pins:List (Addr×Obj)}{σ:L2.St}{H:Hp}{s:Shared}{Z:Addr->Prop}{m:Mu}{A:Around}{E:Value->Shared->Prop}{Q:Value->Shared->Prop}{q:PyData}{v:V}{u c:Value}{b:Bool}(I:Inv X pins σ H s)(rp:RP X.K Z m H q v)(rv:RelV v u)
  (e:PySem.W.kitOne X.K (.type (yV q)) c=some b) (h:∀ tk,Q (.bool b) {s with toks:=tk}):wpAny (model X.prog X.w) A (call (.builtin "isinstance") [u,c]) Q E s:=by
 cases q with
 | none=>simp only[RP]at rp;subst rp;cases rv;exact PySem.W.kia_one PySem.W.kitx_none I.kIn True.intro e (fun z=>nomatch z) h
 | bool y=>simp only[RP]at rp;subst rp;cases rv;exact PySem.W.kia_one PySem.W.kitx_bool I.kIn True.intro e (fun z=>nomatch z) h
 | int i=>simp only[RP]at rp;subst rp;obtain⟨t,rfl⟩:=rv;exact PySem.W.kia_one PySem.W.kitx_int I.kIn True.intro e (fun z=>nomatch z) h
 | str y=>simp only[RP]at rp;subst rp;obtain⟨t,rfl⟩:=rv;exact PySem.W.kia_one PySem.W.kitx_str I.kIn True.intro e (fun z=>nomatch z) h
 | tuple xs =>
  simp only[RP]at rp;obtain⟨a',vs,rfl,h1,_⟩:=rp
  cases rv
  obtain⟨its,_,⟨o,g1,g2,_⟩,_⟩:=I.tuple h1;exact PySem.W.kia_one PySem.W.kitx_tuple I.kIn ⟨o,g1,g2⟩ e (fun z=>nomatch z) h
 | list xs =>
  simp only[RP]at rp;obtain⟨a',vs,rfl,_,h1,_⟩:=rp
  cases rv
  obtain⟨its,_,⟨o,n,g1,g2,_⟩,_⟩:=I.list h1;exact PySem.W.kia_one PySem.W.kitx_list I.kIn ⟨o,g1,g2⟩ e (fun z=>nomatch z) h
 | dict kv=>simp only[RP]at rp
theorem FJ{pins:List (Addr×Obj)}{σ:L2.St}{H:Hp}{s:Shared}{Z:Addr->Prop}{m:Mu}{A:Around}{E:Value->Shared->Prop}{Q:Value->Shared->Prop}{q:PyData}{v:V}{u:Value}{tp:Addr}{its:List Value}{b:Bool}(I:Inv X pins σ H s)(rp:RP X.K Z m H q v)(rv:RelV v u)
  (ht:IsTup s.heap tp its.toArray) (e:PySem.W.kitAny X.K (.type (yV q)) its=some b) (h:∀ tk,Q (.bool b) {s with toks:=tk}):wpAny (model X.prog X.w) A (call (.builtin "isinstance") [u,.ref tp]) Q E s:=by
 obtain⟨⟨cls,dd,data,sl⟩,ho,hc,n,hd⟩:=id ht;simp only at hc hd;subst hc hd
 cases q with
 | none=>simp only[RP]at rp;subst rp;cases rv;exact PySem.W.kia_tup PySem.W.kitx_none I.kIn True.intro ho e (fun z=>nomatch z) h
 | bool y=>simp only[RP]at rp;subst rp;cases rv;exact PySem.W.kia_tup PySem.W.kitx_bool I.kIn True.intro ho e (fun z=>nomatch z) h
 | int i=>simp only[RP]at rp;subst rp;obtain⟨t,rfl⟩:=rv;exact PySem.W.kia_tup PySem.W.kitx_int I.kIn True.intro ho e (fun z=>nomatch z) h
 | str y=>simp only[RP]at rp;subst rp;obtain⟨t,rfl⟩:=rv;exact PySem.W.kia_tup PySem.W.kitx_str I.kIn True.intro ho e (fun z=>nomatch z) h
 | tuple xs =>
  simp only[RP]at rp;obtain⟨a',vs,rfl,h1,_⟩:=rp
  cases rv
  obtain⟨its,_,⟨o,g1,g2,_⟩,_⟩:=I.tuple h1;exact PySem.W.kia_tup PySem.W.kitx_tuple I.kIn ⟨o,g1,g2⟩ ho e (fun z=>nomatch z) h
 | list xs =>
  simp only[RP]at rp;obtain⟨a',vs,rfl,_,h1,_⟩:=rp
  cases rv
  obtain⟨its,_,⟨o,n,g1,g2,_⟩,_⟩:=I.list h1;exact PySem.W.kia_tup PySem.W.kitx_list I.kIn ⟨o,g1,g2⟩ ho e (fun z=>nomatch z) h
 | dict kv=>simp only[RP]at rp
theorem RP.notDict{K:PySem.W.Frag}{Z:Addr->Prop}{m:Mu}{H:Hp}{q:PyData}{v:V}(h:RP K Z m H q v):∀ kv,q≠.dict kv:=by
 rintro kv rfl;simp only[RP]at h
theorem D9:bootBuiltins "isinstance"=some (.builtin "isinstance"):=by decide +kernel
@[simp] def cN(f:DE)(c:String):DE:=fun d m Q=>f d m fun x m1=>∃ q,x=.dat q/\Q (.dat (.bool (bV q c))) m1
theorem MM{T:Str}{c:String}(hg:Gl X "isinstance")(hm:X.mg "isinstance"=none)(hgT:Gl X T)(hmT:X.mg T=none)(hv:bootBuiltins T=some (.type c))(hc:c="int"\/c="bool"\/c="str"\/c="tuple"\/c="list")
  (ha:PE X a (LE X.K f)) (hn:T≠"__name__":=by decide) (hd:(T==("__debug__" : Str))=false:=by decide)
  (he:starEach [a,.Name T p2] X.env=(false,eval a X.env)::starEach [.Name T p2] X.env:=by rfl) :
  PE X (.Call (.Name "isinstance" p1) [a,.Name T p2] [] pos) (LE X.K (cN f c)):=by
 have cr:CallR X (.builtin "isinstance") (fun vs H Q=>∃ Z m q v,RP X.K Z m H q v/\vs=[v,.ty c]/\Q (.bl (bV q c)) H):=by
  intro pins s σ H xs us Q I rv ⟨Z,m,q,v,rp,e,h⟩;subst e;obtain⟨u,w,rfl,r1,r2⟩:=Gx rv
  cases r2
  exact EE I rp r1 (Hk X.K q rp.notDict c hc) fun tk=>⟨.bl _,H,I.tok _,rfl,h⟩
 refine PE.imp (Rk cr hg hm D9 (iV ha (iV (Kt (v:=.ty c) hgT hmT hv rfl hn hd) lN) he) (he:=he) (hpl:=rfl)) fun s H Q h=>?_;obtain⟨Z,d,m,R,ok,rs,h,k⟩:=h;refine⟨Z,d,m,_,ok,rs,h,fun x m1 v H1 ⟨q,e,h1⟩ e1 ok1 rd=>?_⟩;subst e;exact⟨Z,m1,q,v,rd,rfl,k _ m1 _ H1 h1 e1 ok1 .ofBl⟩
@[simp] def Lo(f:DE)(c1 c2:String):DE:=fun d m Q=>f d m fun x m1=>∃ q,x=.dat q/\Q (.dat (.bool (bV q c1||bV q c2))) m1
theorem JF{T1 T2:Str}{c1 c2:String}{jt:Nat}(hg:Gl X "isinstance")(hm:X.mg "isinstance"=none)(hgT:Gl X T1)(hmT:X.mg T1=none)(hv:bootBuiltins T1=some (.type c1))(hc:c1="int"\/c1="bool"\/c1="str"\/c1="tuple"\/c1="list")
  (hgT2:Gl X T2) (hmT2:X.mg T2=none) (hv2:bootBuiltins T2=some (.type c2)) (hc2:c2="int"\/c2="bool"\/c2="str"\/c2="tuple"\/c2="list")
  (ha:PE X a (LE X.K f)) (hn:T1≠"__name__":=by decide) (hd:(T1==("__debug__" : Str))=false:=by decide) (hn2:T2≠"__name__":=by decide) (hd2:(T2==("__debug__" : Str))=false:=by decide)
  (he:starEach [a,.Tuple [.Name T1 p2,.Name T2 p3] jt p4] X.env=(false,eval a X.env)::starEach [.Tuple [.Name T1 p2,.Name T2 p3] jt p4] X.env:=by rfl) :
  PE X (.Call (.Name "isinstance" p1) [a,.Tuple [.Name T1 p2,.Name T2 p3] jt p4] [] pos) (LE X.K (Lo f c1 c2)):=by
 have cr:CallR X (.builtin "isinstance") (fun vs H Q=>∃ Z m q v tp,RP X.K Z m H q v/\vs=[v,.ref tp]/\H tp=some (.tup [.ty c1,.ty c2])/\Q (.bl (bV q c1||bV q c2)) H):=by
  intro pins s σ H xs us Q I rv ⟨Z,m,q,v,tp,rp,e,ht,h⟩;subst e;obtain⟨u,w,rfl,r1,r2⟩:=Gx rv
  cases r2
  obtain⟨its,ri,pt,_⟩:=I.tuple (SqT.of ht)
  cases ri with
  | cons ra rb =>
   cases rb with
   | cons rb rc =>
    cases rc
    cases ra
    cases rb
    refine FJ I rp r1 pt ?_ fun tk=>⟨.bl (bV q c1||bV q c2),H,I.tok _,rfl,h⟩;simp only[PySem.W.kitAny,Hk X.K q rp.notDict c1 hc,Hk X.K q rp.notDict c2 hc2]
    cases bV q c1<;>cases bV q c2<;>rfl
 refine PE.imp (Rk cr hg hm D9 (iV ha (iV (So (iV (Kt (v:=.ty c1) hgT hmT hv rfl hn hd) (iV (Kt (v:=.ty c2) hgT2 hmT2 hv2 rfl hn2 hd2) lN))) lN) he) (he:=he) (hpl:=rfl)) fun s H Q h=>?_;obtain⟨Z,d,m,R,ok,rs,h,k⟩:=h;refine⟨Z,d,m,_,ok,rs,h,fun x m1 v H1 ⟨q,e,h1⟩ e1 ok1 rd=>?_⟩;subst e;refine⟨by show 2<=sizeLine;decide,fun tp htp=>?_⟩
 have sm:Same H1 (upd H1 tp (.tup [.ty c1,.ty c2])):=dX htp
 exact⟨Z,m1,q,v,tp,RP.ext (ok1.ext sm) _ _ rd,rfl,dR,k _ m1 _ _ h1 (e1.trans (ok1.ext sm)) (ok1.grow sm) .ofBl⟩
def LSp(K:PySem.W.Frag)(n:Nat)(sp:DC):Sp:=fun vs H Q _=>∃ Z ds m R,Ok K Z m H/\RDs K Z m H ds vs/\ds.length=n/\sp ds m R/\∀ d m' v' H',R d m'->Ext K Z m H m' H'->Ok K Z m' H'->RD K Z m' H' d v'->Q v' H'
theorem LSp.len{K:PySem.W.Frag}{n:Nat}{sp:DC}{vs:List V}{H:Hp}{Q:VK}{E:XK}(h:LSp K n sp vs H Q E):vs.length=n:=by
 obtain⟨Z,ds,m,R,_,rd,hl,_⟩:=h;rw[rd.length];exact hl
@[simp] def aR(n:Nat)(sp:DC)(g:DA):DE:=fun d m Q=>g d m fun xs m1=>xs.length=n/\sp xs m1 Q
theorem DX{k n:Nat}{fa:Addr}{fd:FuncData}{ps:List Str}{sp:DC}{x:Str}(F:FnOk X.prog X.w X.K X.mg X.base aQ k fa fd ps (LSp X.K n sp))(hr:Room k X.A)(hm:X.mg x=some (.ref fa))(hk:PySem.W.keepIn X.K (.ref fa)=true)
  (hb:Binds X.K fd ps []) (hx:X.xe=fun _ _=>False) (ha:PA X (e::es) (LA X.K ga)) (hg:Gl X x:=by rfl) (hdb:(x==("__debug__" : Str))=false:=by decide)
  (he:starEach (e::es) X.env=(false,eval e X.env)::starEach es X.env:=by rfl) (hpl:(backTo pos (starEach es X.env)).any (·.1)=false:=by rfl):PE X (.Call (.Name x p) (e::es) [] pos) (LE X.K (aR n sp ga)) :=
 PE.imp (AS F hr hg hm hk hb .nil (t6 (X:=X)) ha hdb he hpl) fun s H Q h=>by
  obtain⟨Z,d,m,R,ok,rs,h,k⟩:=h;refine⟨Z,d,m,_,ok,rs,h,fun xs m1 vs H1 ⟨hl,q⟩ e1 ok1 rd=>⟨Z,xs,m1,R,ok1,by simpa using rd,hl,q,fun d' m' v' H' h1 h2 h3 h4=>k d' m' v' H' h1 (e1.trans h2) h3 h4⟩⟩
@[simp] def aW(N:List Str)(ds:List D):bZ:=ds.map some++List.replicate (N.length-ds.length) none
theorem RDs.get{K:PySem.W.Frag}{Z:Addr->Prop}{m:Mu}{H:Hp}:∀ {xs:List D} {vs:List V} {i:Nat} {x:D},RDs K Z m H xs vs->xs[i]?=some x->∃ v,vs[i]?=some v/\RD K Z m H x v
 | [],_,_,_,_,e=>by simp at e
 | _::_,_,0,x,⟨v,r,h1,h2,_⟩,e=>by
  simp at e;subst h1 e;exact⟨v,rfl,h2⟩
 | _::xs,_,i+1,x,⟨v,r,h1,_,h3⟩,e=>by
  obtain⟨u,q1,q2⟩:=RDs.get (i:=i) (x:=x) h3 (by simpa using e)
  subst h1;exact⟨u,by simpa using q1,q2⟩
theorem JY{K:PySem.W.Frag}{Z:Addr->Prop}{m:Mu}{H:Hp}{N:List Str}{ds:List D}{vs:List V}(h:RDs K Z m H ds vs):RS K Z m H (aW N ds) (start N vs):=by
 have hl:=h.length
 refine⟨?_,fun i x hx=>?_⟩
 ·unfold aW L2.start;rw[List.length_append,List.length_append,List.length_map,List.length_map,List.length_replicate,List.length_replicate,hl]
 ·unfold aW at hx
  by_cases hi:i<ds.length
  ·rw[List.getElem?_append_left (by simpa using hi),List.getElem?_map]at hx
   cases e:ds[i]? with
   | none=>rw[e]at hx;cases hx
   | some y =>
    rw[e]at hx
    cases hx
    obtain⟨v,q1,q2⟩:=h.get e;refine⟨v,?_,q2⟩;unfold L2.start;rw[List.getElem?_append_left (by rw[List.length_map,hl];exact hi),List.getElem?_map,q1]
    rfl
  ·rw[List.getElem?_append_right (by simpa using hi),List.getElem?_replicate]at hx
   split at hx<;>cases hx
end
section
variable {P:Program}{w:World}{K:PySem.W.Frag}{mg:Str->Option Value}{base:Heap}
theorem GC{x qual:Str}{st:Stmt}{fa:Addr}{fd:FuncData}{N ps:List Str}{k:Nat}{sp:DC}{body:DS}(F:Fun K x qual st fa fd)(S:FnScope N ps (aV st))
  (hb:∀ (cdv:Value) (A:Around) (outer:List Env) (s:Shared) (H:Hp) (E:XK),Room k (A.deeper (envOfC qual (aV st) s.heap.objs.size fa cdv)) ->
   PSs (mM aQ P w K mg base N qual (aV st) fa cdv A outer s H E).nox (cD st) (LS K body))
  (hv:∀ ds m R,ds.length=ps.length->sp ds m R->body {nx:=fun _ m=>R (.dat .none) m,rt:=R} (aW N ds) m):FnOk P w K mg base aQ (k+1) fa fd ps (LSp K ps.length sp):=by
 refine F.ok S (fun vs H Q E h=>h.len) (fun cdv A outer s H vs Q E hr h=>?_);obtain⟨Z,ds,m,R,ok,rd,hl,h,kk⟩:=h;refine⟨_,hb cdv A outer s H E hr,Z,aW N ds,m,_,ok,JY rd,hv ds m R hl h,?_,?_,?_,?_⟩
 ·intro d' m' s' H' q e1 ok1 _;exact kk _ m' _ H' q e1 ok1 (by simp only[RD,RP])
 ·exact fun x m' v H' q e1 ok1 r1=>kk x m' v H' q e1 ok1 r1
 ·exact fun _ _ _ _ q _ _ _=>q.elim
 ·exact fun _ _ _ _ q _ _ _=>q.elim
end
end DL
namespace L2
open PySem
theorem Room.u100{k:Nat}{A:Around}(r:Room k A):A.units+100<cLine:=by have:=r.un;omega
theorem Room.u200{k:Nat}{A:Around}(r:Room k A):A.units+200<cLine:=by have:=r.un;omega
end L2
namespace DL
open PySem PySem.Spec PyProof.Rows L2
theorem cS:bootBuiltins "len"=some (.builtin "len"):=by decide +kernel
theorem Jr:bootBuiltins "abs"=some (.builtin "abs"):=by decide +kernel
theorem KA:bootBuiltins "max"=some (.builtin "max"):=by decide +kernel
theorem Xr:bootBuiltins "repr"=some (.builtin "repr"):=by decide +kernel
theorem xN:bootBuiltins "int"=some (.type "int"):=by decide +kernel
theorem tI:bootBuiltins "bool"=some (.type "bool"):=by decide +kernel
theorem jH:bootBuiltins "str"=some (.type "str"):=by decide +kernel
theorem zZ:bootBuiltins "list"=some (.type "list"):=by decide +kernel
theorem dN:bootBuiltins "tuple"=some (.type "tuple"):=by decide +kernel
theorem LP{P:Program}{w:World}{K:PySem.W.Frag}{mg:Str->Option Value}{base:Heap}{k n:Nat}{f:Addr}{fd:FuncData}{ps:List Str}{sp:DC}(h:∀ ds m R,sp ds m R->False):FnOk P w K mg base aQ k f fd ps (LSp K n sp):=by
 have no:∀ vs H Q E,¬ LSp K n sp vs H Q E:=fun vs H Q E q=>by
  obtain⟨Z,ds,m,R,_,_,_,q,_⟩:=q;exact h ds m R q
 exact⟨fun vs H Q E q=>absurd q (no vs H Q E),fun A outer s H args us vs Q E _ _ _ _ q=>absurd q (no vs H Q E)⟩
theorem Te{K:PySem.W.Frag}{Z:Addr->Prop}{m:Mu}{H:Hp}:∀ ns:List Int,RPs K Z m H (ns.map PyData.int) (ns.map V.int)
 | []=>by simp[RPs]
 | n::ns=>by
  simp only[List.map_cons,RPs];exact⟨_,_,rfl,by simp only[RP],Te ns⟩
theorem X9{K:PySem.W.Frag}{sp:DC}{H:Hp}{a:Addr}{ns:List Int}{E:XK}(hS:SqL K H a (ns.map V.int))(h:sp [.dat (.list (ns.map .int))] (fun _=>none) (fun d _=>d=.dat (.bool true))):LSp K 1 sp [.ref a] H (fun v _=>v=.bl true) E:=by
 have ok:Ok K (fun _=>False) (fun _=>none) H:=⟨fun b ds e=>(by cases e),fun _ z=>False.elim z⟩
 refine⟨fun _=>False,[.dat (.list (ns.map .int))],fun _=>none,fun d _=>d=.dat (.bool true),ok,⟨.ref a,[],rfl,?_,rfl⟩,rfl,h,?_⟩
 ·simp only[RD,RP];exact⟨a,_,rfl,by first | exact⟨rfl,fun z=>z⟩ | simp,hS,Te ns⟩
 ·rintro d m' v' H' rfl _ _ r;simpa only[RD,RP] using r
theorem Iq(env:Env):∀ (names:List (Str×NameKind)) (cs:List (Str×Addr)),(∀ x,(x,NameKind.free)∈names->∃ c,env.cells.lookup x=some c)->(∀ p∈cs,env.cells.lookup p.1=some p.2) ->
  ∃ cl:List (Str×Addr),(forIn names cs (fun(x:Str×NameKind) (r:List (Str×Addr))=>(if (x.2==.free)=true then (do let c <- cellOf env x.1;pure (ForInStep.yield ((x.1,c)::r))) else pure (ForInStep.yield r):Sem (ForInStep (List (Str×Addr))))))=pure cl /\
   (∀ p∈cl,env.cells.lookup p.1=some p.2)/\(∀ p∈cs,p∈cl)/\∀ x,(x,NameKind.free)∈names->∃ c,(x,c)∈cl
 | [],cs,_,h=>⟨cs,rfl,h,fun _ z=>z,fun x z=>nomatch z⟩
 | (n,k)::r,cs,hf,h=>by
  by_cases hk:k=.free
  ·subst hk;obtain⟨c,hc⟩:=hf n List.mem_cons_self;obtain⟨cl,e,h1,h2,h3⟩:=Iq env r ((n,c)::cs) (fun x hx=>hf x (List.mem_cons_of_mem _ hx)) (fun p hp=>by
    rcases List.mem_cons.mp hp with rfl | hp
    ·exact hc
    ·exact h p hp)
   refine⟨cl,?_,h1,fun p hp=>h2 p (List.mem_cons_of_mem _ hp),fun x hx=>?_⟩
   ·rw[List.forIn_cons];have e2:cellOf env n=pure c:=by unfold cellOf;rw[hc]
    simp only[beq_self_eq_true,if_true,e2,pure_bind];exact e
   ·rcases List.mem_cons.mp hx with z | hx
    ·cases z
     exact⟨c,h2 _ List.mem_cons_self⟩
    ·exact h3 x hx
  ·obtain⟨cl,e,h1,h2,h3⟩:=Iq env r cs (fun x hx=>hf x (List.mem_cons_of_mem _ hx)) h;refine⟨cl,?_,h1,h2,fun x hx=>?_⟩
   ·rw[List.forIn_cons];have e2:(k==NameKind.free)=false:=by simpa using hk
    simp only[e2,Bool.false_eq_true,if_false,pure_bind];exact e
   ·rcases List.mem_cons.mp hx with z | hx
    ·cases z
     exact absurd rfl hk
    ·exact h3 x hx
theorem N3{scope:Scope}{env:Env}(hf:∀ x,(x,NameKind.free)∈scope.names->∃ c,env.cells.lookup x=some c) :
  ∃ cl:List (Str×Addr),closureFor scope env=pure cl/\(∀ p∈cl,env.cells.lookup p.1=some p.2)/\∀ x,(x,NameKind.free)∈scope.names->∃ c,(x,c)∈cl:=by
 obtain⟨cl,e,h1,_,h3⟩:=Iq env scope.names [] hf (fun _ z=>nomatch z);refine⟨cl,?_,h1,h3⟩;unfold closureFor
 first
  | exact e
  | (show(do let cs <- forIn scope.names ([]:List (Str×Addr)) _;pure cs:Sem _)=_;rw[e];rfl)
  | (simp only[];rw[e];rfl)
section
variable {prog:Program}{w:World}{A:Around}{R:Result->Shared->Prop}{s:Shared}
theorem JP{elt target iter:Expr}{ifs:List Expr}{scope:Scope}{pos:Pos}{it acc:Value}{env:Env}(I:Nat->Shared->Prop)
  (turn:∀ n s,I n s->wpAny (model prog w) A (pyNext it) (fun r s₁=>match r with
   | none=>R (.ok .next) s₁
   | some v=>wpAny (model prog w) A (letOwnedTupleGo target it v) (fun _ s₀=>wpAny (model prog w) A (assign target env v) (fun _ s₂ =>
     wpAny (model prog w) A (forIn ifs true fun c r=>if r=true then do let ok <- isTrue c env (eval c env);pure (ForInStep.yield ok) else pure (ForInStep.yield r)) (fun ok s₃ =>
      if ok=true then wpAny (model prog w) A (eval elt env) (fun x s₄ =>
       wpAny (model prog w) A (call (.builtin "list.append") [acc,x]) (fun _ s₅=>∃ m,m<n/\I m s₅) (fun _ _=>False) s₄) (fun _ _=>False) s₃
      else ∃ m,m<n/\I m s₃) (fun _ _=>False) s₂) (fun _ _=>False) s₀) (fun _ _=>False) s₁) (fun _ _=>False) s)
  (n:Nat) (h:I n s) :
  codeAny (model prog w) A (.compLoop (.ListComp elt [⟨target,iter,ifs,0⟩] scope pos) 0 it acc env) R s:=by
 have ff:∀ {E:Value->Shared->Prop} (x:Value) (s:Shared),False->E x s:=fun _ _ z=>z.elim
 refine codeAny_loop rfl I (fun n s hI=>?_) n h;show wpAny _ A ((compTurn (.ListComp elt [⟨target,iter,ifs,0⟩] scope pos) 0 it acc env).onRaise (fun x=>do noteFrame x env;theTreesLotGoes x)) _ _ s
 refine wpAny_noted ?_;rw[compTurn_list];refine wpAny_bind (wpAny_standAt (wpAny_bind (wpAny_mono (turn n s hI) (fun r s₁ h₁=>?_) ff)))
 cases r with
 | none=>exact wpAny_pure h₁
 | some v =>
  refine wpAny_bind (wpAny_mono h₁ (fun _ s₀ h₀=>?_) ff);refine wpAny_bind (wpAny_mono h₀ (fun _ s₂ h₂=>wpAny_bind (wpAny_mono h₂ (fun ok s₃ h₃=>?_) ff)) ff)
  cases ok with
  | true =>
   simp only[if_true]at h₃ ⊢;refine wpAny_bind (wpAny_bind (wpAny_mono h₃ (fun x s₄ h₄=>wpAny_bind (wpAny_mono h₄ (fun _ s₅ h₅=>wpAny_pure (wpAny_pure ⟨rfl,h₅⟩)) ff)) ff))
  | false =>
   simp only[Bool.false_eq_true,if_false]at h₃ ⊢;exact wpAny_pure ⟨rfl,h₃⟩
end
def bU(X:Cx)(scope:Scope)(cl:List (Str×Addr))(C:Addr)(NC:List Str)(s2:Shared)(H2:Hp)(pins:List (Addr×Obj))(fp:List Addr):Cx where
 prog:=X.prog
 w:=X.w
 K:=X.K
 mg:=X.mg
 base:=X.base
 A:=X.A
 N:=NC
 s₀:=s2
 H₀:=H2
 env:=compEnvC scope cl C X.env
 outer:=X.stack
 stack:=X.stack
 ex:=fp
 fn:=fun _=>false
 calm:=X.calm
 pn:=X.pn++pins
 xe:=fun _ _=>False
theorem Db{cl:List (Str×Addr)}{x:Str}{c:Addr}(h:cl.lookup x=some c):(x,c)∈cl:=PySem.mem_of_lookup h
theorem F7{cl:List (Str×Addr)}{x:Str}:∀ {c:Addr},(x,c)∈cl->∃ c',cl.lookup x=some c':=by
 induction cl with
 | nil=>intro c h;cases h
 | cons p r ih =>
  intro c h;rw[List.lookup_cons]
  cases hx:x==p.1 with
  | true=>exact⟨_,rfl⟩
  | false =>
   rcases List.mem_cons.mp h with e | h
   ·subst e;simp at hx
   ·exact ih h
theorem Qn{env:Env}:∀ {names:List (Str×NameKind)} {x:Str},(∀ y∈names,y.2≠.cell) ->
  ((names.map fun(n,k)=>if (k==NameKind.free&&env.scope.kind==.function&&env.kindOf n==some .cell) then (n,NameKind.cell) else (n,k)).lookup x=some .cell \/
    (names.map fun(n,k)=>if (k==NameKind.free&&env.scope.kind==.function&&env.kindOf n==some .cell) then (n,NameKind.cell) else (n,k)).lookup x=some .free)->(x,NameKind.free)∈names
 | [],x,_,h=>by simp at h
 | (n,k)::r,x,hc,h=>by
  have ih:=@Qn env r x (fun y hy=>hc y (List.mem_cons_of_mem _ hy))
  by_cases hk:(k==NameKind.free&&env.scope.kind==.function&&env.kindOf n==some .cell)=true
  ·have kf:k=.free:=by
    rw[Bool.and_eq_true,Bool.and_eq_true]at hk;exact eq_of_beq hk.1.1
   subst kf;simp only[List.map_cons,hk,if_true,List.lookup_cons]at h
   cases hx:x==n with
   | true =>
    have:x=n:=eq_of_beq hx
    subst this;exact List.mem_cons_self
   | false =>
    simp only[hx]at h;exact List.mem_cons_of_mem _ (ih h)
  ·have hk':(k==NameKind.free&&env.scope.kind==.function&&env.kindOf n==some .cell)=false:=by simpa using hk
   simp only[List.map_cons,hk',Bool.false_eq_true,if_false,List.lookup_cons]at h
   cases hx:x==n with
   | true =>
    have:x=n:=eq_of_beq hx
    subst this;simp only[hx]at h;have hne:=hc (x,k) List.mem_cons_self
    rcases h with h | h
    ·exact absurd (Option.some.inj h) hne
    ·have:k=.free:=Option.some.inj h
     subst this;exact List.mem_cons_self
   | false =>
    simp only[hx]at h;exact List.mem_cons_of_mem _ (ih h)
section
variable {X:Cx}{pins:List (Addr×Obj)}{σ:L2.St}{H2:Hp}{s2:Shared}{scope:Scope}{cl:List (Str×Addr)}{NC:List Str}{fp:List Addr}{C:Addr}
theorem BX(I2:Inv X pins σ H2 s2)(hf:∀ b∈fp,fY X pins H2 b)(hob:∀ b∈fp,∃ o,s2.heap.get? b=some o/\∀ v,o.data≠.cell v)(hkind:scope.kind=.function)(hcell:∀ y∈scope.names,y.2≠.cell)
  (hcl1:∀ p∈cl,X.env.cells.lookup p.1=some p.2) (hcl2:∀ x,(x,NameKind.free)∈scope.names->∃ c,(x,c)∈cl) (hC:s2.heap.objs.size<=C):(bU X scope cl C NC s2 H2 pins fp).Ok:=by
 have lk:∀ x c,cl.lookup x=some c->X.env.cells.lookup x=some c:=fun x c h=>hcl1 (x,c) (Db h)
 refine⟨I2.ok.mod,hkind,I2.ok.glob,I2.ok.blt,hC,fun x y c h1 h2=>I2.ok.inj x y c (lk x c h1) (lk y c h2),fun x hx=>?_,fun x c h=>absurd (show false=true from h) Bool.false_ne_true,I2.ok.hd,I2.ok.frames,.inl rfl,fun b hb=>⟨?_,fun x c h=>?_⟩,fun b o e=>I2.bs b o e,
  Nat.le_trans I2.ok.bsz I2.sz,fun b o e hb=>?_,fun b hb hs=>?_,I2.stack,I2.stkFree⟩
 ·obtain⟨c,hc⟩:=hcl2 x (Qn (env:=X.env) hcell hx);exact F7 hc
 ·obtain⟨o,ho,_⟩:=hob b hb;exact Nat.ne_of_lt (Nat.lt_of_lt_of_le (Heap.lt_size ho) hC)
 ·exact(hf b hb).2.2.2.2.1 x c (lk x c h)
 ·rcases (hf b hb).2.2.2.1 with z | z
  ·exact I2.ok.noex b o e z
  ·exact absurd (Nat.lt_of_lt_of_le (Heap.lt_size e) (Nat.le_trans I2.ok.bsz z)) (Nat.lt_irrefl _)
 ·rcases List.mem_cons.mp (I2.stkSub b hs) with z | z
  ·exact(hf b hb).2.1 z
  ·exact(hf b hb).2.2.1 z
theorem Yu{σ':L2.St}{h₁:Heap}{tk:Nat}{mm:Str->Option Value}(I2:Inv X pins σ H2 s2)(hf:∀ b∈fp,fY X pins H2 b)(hob:∀ b∈fp,∃ o,s2.heap.get? b=some o/\∀ v,o.data≠.cell v)(hkind:scope.kind=.function)(hcell:∀ y∈scope.names,y.2≠.cell)
  (hcl1:∀ p∈cl,X.env.cells.lookup p.1=some p.2) (hcl2:∀ x,(x,NameKind.free)∈scope.names->∃ c,(x,c)∈cl)
  (hlen:σ'.length=NC.length) (hσ:∀ (i:Nat) (x:Str) (v:V),NC[i]?=some x->σ'[i]?=some (some v)->mO (relabel scope X.env) x->((relabel scope X.env).names.lookup x=some .cell\/(relabel scope X.env).names.lookup x=some .free)/\(X.env.kindOf x=some .cell\/X.env.kindOf x=some .free)/\∃ j:Nat,X.N[j]?=some x/\σ[j]?=some (some v))
  (hC:C=s2.heap.objs.size+1) (hns:h₁.Ns C mm) (hk:∀ b u,s2.heap.get? b=some u->h₁.get? b=some u)
  (hD:h₁.get? s2.heap.objs.size=some {cls:=.type "list",data:=.seq ([]:List Value).toArray}) :
  Inv (bU X scope cl C NC s2 H2 pins fp) [] σ' (upd H2 s2.heap.objs.size (.lst [])) {s2 with heap:=h₁,toks:=tk}:=by
 have lk:∀ x c,cl.lookup x=some c->X.env.cells.lookup x=some c:=fun x c h=>hcl1 (x,c) (Db h)
 have hn:H2 s2.heap.objs.size=none:=I2.hok.fresh (Nat.le_refl _)
 have le1:s2.heap.objs.size<=C:=by rw[hC];exact Nat.le_succ _
 have ne1:C≠s2.heap.objs.size:=by rw[hC];exact Nat.succ_ne_self _
 have hCn:H2 C=none:=I2.hok.fresh le1
 have neD:∀ b o,s2.heap.get? b=some o->b≠s2.heap.objs.size:=fun b o e=>Nat.ne_of_lt (Heap.lt_size e)
 refine⟨BX I2 hf hob hkind hcell hcl1 hcl2 le1,rfl,I2.bare,Un.laid hk (Nat.le_refl _) hn,⟨mm,hns,fun i x v h1 h2 h3=>?_⟩,fun x c h=>?_,?_,fun x c h=>?_,fun p hp=>?_,?_,hlen⟩
 ·obtain⟨hy,hx,j,hj,hv⟩:=hσ i x v h1 h2 h3;obtain⟨m,hnX,hl⟩:=I2.loc;have vis:mO X.env.scope x:=by rcases hx with z | z;exact .inr (.inl z);exact .inr (.inr z)
  obtain⟨u,r,l⟩:=hl j x v hj hv vis;refine⟨u,r,.inr ⟨hy,?_⟩⟩;obtain⟨c',hc'⟩:=hcl2 x (Qn (env:=X.env) hcell hy);obtain⟨c,hc⟩:=F7 hc';refine⟨c,hc,?_⟩;rcases l with⟨z,_⟩ | ⟨_,c2,e2,o,ho,hd⟩
  ·rcases hx with q | q
   ·rw[z]at q;cases q
   ·rw[z]at q;cases q
  ·have:=lk x c hc
   rw[e2]at this
   cases this
   exact⟨o,hk _ o ho,hd⟩
 ·obtain⟨v,o,ho,hd⟩:=I2.cell x c (lk x c h);exact⟨v,o,hk _ o ho,hd⟩
 ·show upd H2 s2.heap.objs.size (.lst []) C=none
  rw[cW ne1];exact hCn
 ·obtain⟨v,o,ho,hd⟩:=I2.cell x c (lk x c h);rw[cW (neD c o ho)];exact I2.freeC x c (lk x c h)
 ·have hp':p∈X.pn++pins:=by
   rcases List.mem_append.mp hp with z | z
   ·exact z
   ·cases z
  obtain⟨e,n,ne,nf,d⟩:=I2.pin p hp';refine⟨hk _ _ e,by rw[cW (neD _ _ e)];exact n,?_,fun z=>?_,d⟩
  ·show p.1≠C
   exact Nat.ne_of_lt (Nat.lt_of_lt_of_le (Heap.lt_size e) le1)
  ·rcases List.mem_cons.mp (I2.stkSub p.1 z) with q | q
   ·exact ne q
   ·exact nf q
 ·exact I2.hok.laid hk (Nat.le_refl _) ⟨Nat.zero_le _,[],0,.nil,hD⟩
theorem Ti{py:List (Addr×Obj)}{σ'':L2.St}{H':Hp}{s':Shared}{h':Heap}(I2:Inv X pins σ H2 s2)(hf:∀ b∈fp,fY X pins H2 b)(Iy:Inv (bU X scope cl C NC s2 H2 pins fp) py σ'' H' s')(hC:s2.heap.objs.size<=C)(hs:Heap.SameBut C s'.heap h') :
  Inv X pins σ H' {s' with heap:=h'}:=by
 have u:Un (jC X.stack) fp H2 H' s2.heap s'.heap:=Iy.base
 have neC:∀ b o,s2.heap.get? b=some o->b≠C:=fun b o e=>Nat.ne_of_lt (Nat.lt_of_lt_of_le (Heap.lt_size e) hC)
 have fC:H' C=none:=Iy.free
 refine I2.call' (s':={s' with heap:=h'}) (ch:=fp) Iy.os ⟨fun b o e n hb hx=>(hs.2 b (neC b o e)).trans (u.keep b o e n hb hx),fun b o e n hb hx=>?_,u.free,fun b o e hx=>?_,u.tups,u.frzs,u.tbls⟩ (fun b o e=>?_) Iy.bare fun b hb=>?_
 ·obtain⟨sl,q⟩:=u.slot b o e n hb hx;exact⟨sl,(hs.2 b (neC b o e)).trans q⟩
 ·obtain⟨o',q⟩:=u.there b o e hx;exact⟨o',(hs.2 b (neC b o e)).trans q⟩
 ·refine(Iy.hok b o e).stay (fun c v hc q=>(hs.2 c ?_).trans q) (fun _ q=>q) fun _ _ q=>q;rintro rfl;rcases hc with rfl | hc
  ·rw[fC]at e;cases e
  ·rw[fC]at hc;cases hc
 ·obtain⟨_,f1,_,f3,f4,f5⟩:=hf b hb;exact⟨f3,f1,f4,f5⟩
end
section
variable {K:PySem.W.Frag}{Z Y:Addr->Prop}{m m':Mu}{H H':Hp}
mutual
theorem RP.tr(ht:∀ a vs,SqT K H a vs->SqT K H' a vs)(hl:∀ a vs,(m a=none/\¬ Z a)->SqL K H a vs->(m' a=none/\¬ Y a)/\SqL K H' a vs):∀ (p:PyData) (v:V),RP K Z m H p v->RP K Y m' H' p v
 | .none,v,h=>by simpa only[RP] using h
 | .bool _,v,h=>by simpa only[RP] using h
 | .int _,v,h=>by simpa only[RP] using h
 | .str _,v,h=>by simpa only[RP] using h
 | .tuple xs,v,h=>by
  simp only[RP]at h ⊢;obtain⟨a,vs,h1,h2,h3⟩:=h;exact⟨a,vs,h1,ht a vs h2,RPs.tr ht hl xs vs h3⟩
 | .list xs,v,h=>by
  simp only[RP]at h ⊢;obtain⟨a,vs,h1,h2,h3,h4⟩:=h;obtain⟨q1,q2⟩:=hl a vs h2 h3;exact⟨a,vs,h1,q1,q2,RPs.tr ht hl xs vs h4⟩
 | .dict _,v,h=>by simp only[RP]at h
theorem RPs.tr(ht:∀ a vs,SqT K H a vs->SqT K H' a vs)(hl:∀ a vs,(m a=none/\¬ Z a)->SqL K H a vs->(m' a=none/\¬ Y a)/\SqL K H' a vs):∀ (xs:List PyData) (vs:List V),RPs K Z m H xs vs->RPs K Y m' H' xs vs
 | [],vs,h=>by simpa only[RPs] using h
 | x::xs,vs,h=>by
  simp only[RPs]at h ⊢;obtain⟨v,r,h1,h2,h3⟩:=h;exact⟨v,r,h1,RP.tr ht hl x v h2,RPs.tr ht hl xs r h3⟩
end
def bI(Z:Addr->Prop)(D:Addr):Addr->Prop:=fun a=>Z a\/a=D
variable {D:Addr}{ys zs:List V}
theorem Tc(hD:H D=none)(hk:K.lookup D=none):∀ a vs,(m a=none/\¬ Z a)->SqL K H a vs->(m a=none/\¬ bI Z D a)/\SqL K (upd H D (.lst ys)) a vs:=fun a vs h1 h2 =>
 ⟨⟨h1.1,fun z=>z.elim h1.2 (SqL.ne hD hk h2)⟩,(dX hD).seq h2⟩
theorem vZ(hD:H D=some (.lst ys)):∀ a vs,SqT K H a vs->SqT K (upd H D (.lst zs)) a vs:=fun b xs h=>by
 rcases h with (h | ⟨o,h⟩) | h
 ·have ne:b≠D:=by rintro rfl;rw[hD]at h;cases h
  exact .inl (.inl (by rw[cW ne];exact h))
 ·have ne:b≠D:=by rintro rfl;rw[hD]at h;cases h
  exact .inl (.inr ⟨o,by rw[cW ne];exact h⟩)
 ·exact .inr h
theorem Mz{a:Addr}{vs:List V}(ne:a≠D)(h:SqL K H a vs):SqL K (upd H D (.lst zs)) a vs:=by
 rcases h with (h | ⟨o,h⟩) | h
 ·exact .inl (.inl (by rw[cW ne];exact h))
 ·exact .inl (.inr ⟨o,by rw[cW ne];exact h⟩)
 ·exact .inr h
theorem Cc:∀ a vs,(m a=none/\¬ bI Z D a)->SqL K H a vs->(m a=none/\¬ bI Z D a)/\SqL K (upd H D (.lst zs)) a vs:=fun a vs h1 h2 =>
 ⟨h1,Mz (fun e=>h1.2 (.inr e)) h2⟩
end
section
variable {K:PySem.W.Frag}{Z:Addr->Prop}{m m1 m':Mu}{H H1 H':Hp}{D:Addr}{ys zs:List V}
theorem Wu{x:DL.D}{v:V}(hD:H D=none)(hk:K.lookup D=none)(h:RD K Z m H x v):RD K (bI Z D) m (upd H D (.lst ys)) x v:=by
 cases x with
 | dat p=>exact RP.tr (fun a vs q=>SqT.same (dX hD) q) (Tc hD hk) p v h
 | cel a=>exact h
theorem Wv{x:DL.D}{v:V}(hD:H D=some (.lst ys))(h:RD K (bI Z D) m H x v):RD K (bI Z D) m (upd H D (.lst zs)) x v:=by
 cases x with
 | dat p=>exact RP.tr (vZ hD) Cc p v h
 | cel a=>exact h
theorem D3(ok:Ok K Z m H)(hD:H D=none)(hk:K.lookup D=none):Ok K (bI Z D) m (upd H D (.lst ys)):=by
 refine⟨fun a c h=>?_,fun a h=>?_⟩
 ·obtain⟨o,h1,h2⟩:=ok.g a c h;have ne:a≠D:=by rintro rfl;rw[hD]at h1;cases h1
  exact⟨o,by rw[cW ne];exact h1,h2.lift fun p v q=>RP.tr (fun a vs q=>SqT.same (dX hD) q) (Tc hD hk) p v q⟩
 ·rcases h with h | h
  ·have ne:a≠D:=by rintro rfl;exact(ok.z a h).2 hD
   exact⟨(ok.z a h).1,by rw[cW ne];exact(ok.z a h).2⟩
  ·subst h;exact⟨(gU ok hD).1,by rw[dR];intro z;cases z⟩
theorem E8(ok:Ok K (bI Z D) m H)(hD:H D=some (.lst ys)):Ok K (bI Z D) m (upd H D (.lst zs)):=by
 refine⟨fun a c h=>?_,fun a h=>?_⟩
 ·obtain⟨o,h1,h2⟩:=ok.g a c h;have ne:a≠D:=by
   rintro rfl;have:=(ok.z a (.inr rfl)).1
   rw[h]at this
   cases this
  exact⟨o,by rw[cW ne];exact h1,h2.lift fun p v q=>RP.tr (vZ hD) Cc p v q⟩
 ·by_cases e:a=D
  ·subst e;exact⟨(ok.z a h).1,by rw[dR];intro z;cases z⟩
  ·exact⟨(ok.z a h).1,by rw[cW e];exact(ok.z a h).2⟩
theorem Ze(ok:Ok K (bI Z D) m H):Ok K Z m H:=by
 refine⟨fun a c h=>?_,fun a h=>ok.z a (.inl h)⟩;obtain⟨o,h1,h2⟩:=ok.g a c h;exact⟨o,h1,h2.lift fun p v q=>RP.tr (fun _ _ q=>q) (fun a vs q1 q2=>⟨⟨q1.1,fun z=>q1.2 (.inl z)⟩,q2⟩) p v q⟩
theorem xP(e:Ext K Z m1 H1 m H)(hD:H1 D=none)(hk:K.lookup D=none)(e2:Ext K (bI Z D) m H m' H'):Ext K Z m1 H1 m' H' :=
 ⟨fun a vs h=>e2.t a vs (e.t a vs h),fun a vs h1 h2=>let ⟨q1,q2⟩:=e.l a vs h1 h2;e2.l a vs ⟨q1,fun z=>z.elim h1.2 (SqL.ne hD hk h2)⟩ q2,fun a h=>(e2.z a (.inl h)).trans (e.z a h),fun a h=>e2.c a (e.c a h),fun a o u h=>e2.fz a o u (e.fz a o u h),fun a h=>by
  have q:=e.fm a h
  rw[e2.fm a (by rw[q];exact h),q]⟩
theorem T7(e:Ext K Z m1 H1 m H)(ok1:Ok K Z m1 H1)(hD:H1 D=none)(hk:K.lookup D=none)(hH:H D=some (.lst ys)):Ext K Z m1 H1 m (upd H D (.lst zs)) :=
 ⟨fun a vs h=>vZ hH a vs (e.t a vs h),fun a vs h1 h2=>let ⟨q1,q2⟩:=e.l a vs h1 h2;⟨q1,Mz (SqL.ne hD hk h2) q2⟩,fun a h=>by
  have ne:a≠D:=by rintro rfl;exact(ok1.z a h).2 hD
  rw[cW ne];exact e.z a h,e.c,fun a o u h=>by
  have q:=e.fz a o u h
  rw[cW (by rintro rfl;rw[hH]at q;cases q)]
  exact q,e.fm⟩
end
def eJ(g:DG)(t:DT)(f:DE):List D->List PyData->bZ->Mu->(List PyData->Mu->Prop)->Prop
 | [],acc,_,m,Q=>Q acc m
 | x::xs,acc,d,m,Q=>g x d m fun d1 m1=>t d1 m1 fun b m2=>if b=true then f d1 m2 fun y m3=>∃ p,y=.dat p/\acc.length<sizeLine/\eJ g t f xs (acc++[p]) d1 m3 Q else eJ g t f xs acc d1 m2 Q
def cV{α:Type}(src:List (Option Nat))(d:List (Option α)):List (Option α):=src.map fun o=>o.bind fun j=>(d[j]?).join
@[simp] def eN(src:List (Option Nat))(fi:DI)(g:DG)(t:DT)(f:DE):DE:=fun d m Q=>fi d m fun xs m1=>eJ g t f xs [] (cV src d) m1 fun ps m2=>Q (.dat (.list ps)) m2
def PF(Y:Cx)(ifs:List Expr)(t:TT):Prop:=∀ (pins:List (Addr×Obj)) (s:Shared) (σ:L2.St) (H:Hp) (Q:Bool->Hp->Prop),Inv Y pins σ H s->t σ H Q ->
 wpAny (model Y.prog Y.w) Y.A (forIn ifs true fun c r=>if r=true then do let ok <- isTrue c Y.env (eval c Y.env);pure (ForInStep.yield ok) else pure (ForInStep.yield r)) (TP Y pins σ Q) Y.xe s
@[simp] def eO:DT:=fun _ m Q=>Q true m
theorem UL{Y:Cx}:PF Y [] (LT Y.K eO):=fun pins s σ H Q I h=>by
 obtain⟨Z,d,m,R,ok,rs,h,k⟩:=h;exact wpAny_tests_nil ⟨H,I,k true m H h Ext.refl ok⟩
theorem MC{Y:Cx}{c:Expr}{t:TT}(h:PT Y c t):PF Y [c] t:=fun pins s σ H Q I q=>wpAny_tests_one (h pins s σ H Q I q)
theorem Wx{K:PySem.W.Frag}{Z:Addr->Prop}{m:Mu}{H:Hp}{d:bZ}{σ:L2.St}(src:List (Option Nat))(rs:RS K Z m H d σ):RS K Z m H (cV src d) (cV src σ):=by
 refine⟨by unfold cV;rw[List.length_map,List.length_map],fun i x h=>?_⟩
 unfold cV at h ⊢;rw[List.getElem?_map]at h ⊢
 cases e:src[i]? with
 | none=>rw[e]at h;cases h
 | some o =>
  rw[e]at h
  cases o with
  | none=>cases h
  | some j =>
   have h':(d[j]?).join=some x:=Option.some.inj h
   cases ej:d[j]? with
   | none=>rw[ej]at h';cases h'
   | some w =>
    rw[ej]at h';have h2:w=some x:=h'
    subst h2;obtain⟨v,q1,q2⟩:=rs.2 j x ej;exact⟨v,by rw[Option.map_some,Option.bind_some,q1];rfl,q2⟩
theorem Zq{α:Type}{src:List (Option Nat)}{d:List (Option α)}{i:Nat}{v:α}(h:(cV src d)[i]?=some (some v)):∃ j:Nat,src[i]?=some (some j)/\d[j]?=some (some v):=by
 unfold cV at h;rw[List.getElem?_map]at h
 cases e:src[i]? with
 | none=>rw[e]at h;cases h
 | some o =>
  rw[e]at h
  cases o with
  | none=>cases h
  | some j =>
   have h':(d[j]?).join=some v:=Option.some.inj h
   cases ej:d[j]? with
   | none=>rw[ej]at h';cases h'
   | some w =>
    rw[ej]at h';have h2:w=some v:=h'
    subst h2;exact⟨j,rfl,ej⟩
theorem Zn{K:PySem.W.Frag}{Z:Addr->Prop}{m1 m':Mu}{H1 H':Hp}{D:Addr}{x:DL.D}{v:V}(hD:H1 D=none)(hk:K.lookup D=none)(e:Ext K Z m1 H1 m' H')(h:RD K Z m1 H1 x v):RD K (bI Z D) m' H' x v:=by
 cases x with
 | dat p=>exact RP.tr e.t (fun a vs h1 h2=>let ⟨q1,q2⟩:=e.l a vs h1 h2;⟨⟨q1,fun z=>z.elim h1.2 (SqL.ne hD hk h2)⟩,q2⟩) p v h
 | cel a=>exact⟨h.1,e.c a h.2⟩
section
variable {X:Cx}{tg iter elt:Expr}{ifs:List Expr}{scope:Scope}{NC:List Str}{fi:DI}{g:DG}{t:DT}{f:DE}{pos:Pos}
def vO(X:Cx)(scope:Scope)(NC:List Str)(src:List (Option Nat)):Prop:=NC.length=src.length/\∀ (i:Nat) (x:Str) (j:Nat),NC[i]?=some x->src[i]?=some (some j)->X.N[j]?=some x/\(x,NameKind.free)∈scope.names /\
 ((relabel scope X.env).names.lookup x=some .cell\/(relabel scope X.env).names.lookup x=some .free)
structure Off (X:Cx) (pins:List (Addr×Obj)) (H:Hp) (C:Addr):Prop where
 h:H C=none
 l:C≠X.env.locals
 s:X.s₀.heap.objs.size<=C
 c:∀ x c,X.env.cells.lookup x=some c->c≠C
 p:∀ p∈X.pn++pins,p.1≠C
theorem Off.inv{pins:List (Addr×Obj)}{σ:L2.St}{H:Hp}{s:Shared}{C:Addr}{h':Heap}(o:Off X pins H C)(I:Inv X pins σ H s)(hs:Heap.SameBut C s.heap h'):Inv X pins σ H {s with heap:=h'} :=
 I.turned (t':=s.toks) (it:=C) (fun b ob hb e=>(hs.2 b hb).trans e) o.h o.l (.inr o.s) o.c o.p
theorem Va(src:List (Option Nat))(hc:X.calm=true)(hi:PI X tg iter (LI X.K fi))
  (hg:∀ cl C s2 H2 pins fp,PG (bU X scope cl C NC s2 H2 pins fp) tg (LG X.K g)) (ht:∀ cl C s2 H2 pins fp,PF (bU X scope cl C NC s2 H2 pins fp) ifs (LT X.K t)) (he:∀ cl C s2 H2 pins fp,PE (bU X scope cl C NC s2 H2 pins fp) elt (LE X.K f))
  (hkind:scope.kind=.function) (hcell:∀ y∈scope.names,y.2≠.cell) (hnames:∀ y∈scope.names,y.2=.local->scope.names.lookup y.1=some .local)
  (hfree:∀ x,(x,NameKind.free)∈scope.names->X.env.kindOf x=some .cell\/X.env.kindOf x=some .free) (hsrc:vO X scope NC src)
  (hs:∀ x,foldedSetIterable iter X.env x=pure x) {use:Option (Value->Sem Unit)} {QQ:Value->Shared->Prop} {pos':Pos} {pins:List (Addr×Obj)} {s:Shared} {σ:L2.St} {H:Hp} {Z:Addr->Prop} {d:bZ} {m:Mu} {RL:List PyData->Mu->Prop}
  (I:Inv X pins σ H s) (ok:Ok X.K Z m H) (rs:RS X.K Z m H d σ) (h:fi d m fun xs m1=>eJ g t f xs [] (cV src d) m1 RL)
  (fin:∀ (s5:Shared) (C D:Addr) (H':Hp) (m':Mu) (ps:List PyData),RL ps m'->Ext X.K Z m H m' H'->Ok X.K Z m' H'->RD X.K Z m' H' (.dat (.list ps)) (.ref D)->(∃ mm,s5.heap.Ns C mm)->Inv X pins σ H' s5->Off X pins H' C->(m' D=none/\Ext X.K Z m H (cK m' D (.l ps)) H'/\Ok X.K Z (cK m' D (.l ps)) H') ->
   compPost (model X.prog X.w) X.A X.xe use QQ (.ref D) C (.ok .next) s5) :
  wpAny (model X.prog X.w) X.A (comprehension (.ListComp elt [⟨tg,iter,ifs,0⟩] scope pos) scope X.env pos' (newList []) false (eval iter X.env) use) QQ X.xe s:=by
 obtain⟨cl,hclos,hcl1,hcl2⟩:=N3 (scope:=scope) (env:=X.env) fun x hx=>I.ok.has x (hfree x hx);refine wpAny_comprehension_free (use:=use) rfl hs hclos hkind hnames ?_;refine aZ (hi pins s σ H (fun J H1=>∃ xs m1,Ext X.K Z m H m1 H1/\Ok X.K Z m1 H1/\pN X.K Z m1 H1 xs J/\eJ g t f xs [] (cV src d) m1 RL) I
  ⟨Z,d,m,_,ok,rs,h,fun xs m1 H1 J q e1 ok1 y1=>⟨xs,m1,e1,ok1,y1,q⟩⟩) fun xv s₁ h₁=>aZ h₁ fun itv s₂ h₂=>?_
 obtain⟨it,fp,tn,J,H2,eit,I2,T,st2,f2,xs,m1,e1,ok1,yl,lp⟩:=h₂;subst eit;refine wpAny_newObj_type (wpAny_newFunctionEnv hcell (by intro y hy;simp at hy) (fun h₁ hns₁ hsb₁=>?_) hkind)
 dsimp only at hns₁ hsb₁ ⊢
 generalize hH2:s₂.heap.push {cls:=.type "list",dict:=none,data:=.seq ([]:List Value).toArray}=HP at hns₁ hsb₁ ⊢
 have hC:HP.objs.size=s₂.heap.objs.size+1:=by rw[<- hH2,Heap.size_push]
 have leC:s₂.heap.objs.size<=HP.objs.size:=by rw[hC];exact Nat.le_succ _
 have old:∀ b o,s₂.heap.get? b=some o->h₁.get? b=some o:=fun b o e=>hsb₁.extBut b o (Nat.ne_of_lt (Nat.lt_of_lt_of_le (Heap.lt_size e) leC)) (Heap.get?_push_of_some _ (hH2▸Heap.get?_push_of_some _ e))
 have hacc:h₁.get? s₂.heap.objs.size=some {cls:=.type "list",data:=.seq ([]:List Value).toArray}:=hsb₁.extBut _ _ (by rw[hC];exact Nat.ne_of_lt (Nat.lt_succ_self _)) (Heap.get?_push_of_some _ (hH2▸Heap.get?_push_size _ rfl))
 have hD:H2 s₂.heap.objs.size=none:=I2.hok.fresh (Nat.le_refl _)
 have hkD:X.K.lookup s₂.heap.objs.size=none:=by
  cases e:X.K.lookup s₂.heap.objs.size with
  | none=>rfl
  | some o=>exact absurd (Heap.lt_size (I2.kIn _ o e)) (Nat.lt_irrefl _)
 have obf:∀ b∈fp,∃ o,s₂.heap.get? b=some o/\∀ v,o.data≠.cell v:=T.obj 0 _ st2
 have hσ:∀ (i:Nat) (x:Str) (v:V),NC[i]?=some x->(cV src σ)[i]?=some (some v)->mO (relabel scope X.env) x->((relabel scope X.env).names.lookup x=some .cell\/(relabel scope X.env).names.lookup x=some .free)/\(X.env.kindOf x=some .cell\/X.env.kindOf x=some .free)/\∃ j:Nat,X.N[j]?=some x/\σ[j]?=some (some v):=fun i x v h1 h2 _=>by
  obtain⟨j,q1,q2⟩:=Zq h2;obtain⟨a1,a2,a3⟩:=hsrc.2 i x j h1 q1;exact⟨a3,hfree x a2,j,a1,q2⟩
 have I4:=fun tk=>Yu (cl:=cl) (NC:=NC) (σ':=cV src σ) (tk:=tk) I2 f2 obf hkind hcell hcl1 hcl2 (by unfold cV;rw[List.length_map];exact hsrc.1.symm) hσ hC hns₁ old hacc
 have st4:tn 0 h₁:=T.keep 0 _ _ st2 fun b _ o e=>old b o e
 -- the loop
 have loop:∀ s₃:Shared,s₃={s₂ with heap:=h₁,toks:=s₂.toks+([]:List (Str×Value)).length} ->
   codeAny (model X.prog X.w) X.A (.compLoop (.ListComp elt [⟨tg,iter,ifs,0⟩] scope pos) 0 (.ref it) (.ref s₂.heap.objs.size) (compEnvC scope cl HP.objs.size X.env))
    (compPost (model X.prog X.w) X.A X.xe use QQ (.ref s₂.heap.objs.size) HP.objs.size) s₃:=by
  rintro s₃ rfl;refine JP (fun n s'=>∃ (i:Nat) (ys:List V) (acc:List PyData) (d':bZ) (m':Mu) (σ':L2.St) (H':Hp),n=xs.length-i/\i<=xs.length/\Inv (bU X scope cl HP.objs.size NC s₂ H2 pins fp) [] σ' H' s'/\tn i s'.heap/\(∀ b∈fp,H' b=none) /\
   H' s₂.heap.objs.size=some (.lst ys)/\RPs X.K (bI Z s₂.heap.objs.size) m' H' acc ys/\Ext X.K Z m1 H2 m' H'/\Ok X.K (bI Z s₂.heap.objs.size) m' H'/\RS X.K (bI Z s₂.heap.objs.size) m' H' d' σ' /\
   eJ g t f (xs.drop i) acc d' m' RL) ?_ xs.length ?_
  rotate_left
  ·have rs1:RS X.K Z m1 H2 (cV src d) (cV src σ):=Wx src (rs.ext e1)
   refine⟨0,[],[],cV src d,m1,cV src σ,_,by simp,Nat.zero_le _,I4 _,st4,fun b hb=>?_,dR,by simp[RPs],ok1.ext (dX hD),D3 ok1 hD hkD,⟨rs1.1,fun i x hx=>?_⟩,by simpa using lp⟩
   ·obtain⟨o,ho,_⟩:=obf b hb;rw[cW (Nat.ne_of_lt (Heap.lt_size ho))];exact(f2 b hb).1
   ·obtain⟨v,q1,q2⟩:=rs1.2 i x hx;exact⟨v,q1,Wu hD hkD q2⟩
  rintro n s4 ⟨i,ys,acc,d',m',σ',H',rfl,hi',I5,st5,fr5,hDy,racc,eX,ok5,rs5,lp5⟩;have stat:∀ b∈fp,fY (bU X scope cl HP.objs.size NC s₂ H2 pins fp) [] H' b:=fun b hb=>by
   obtain⟨g0,g1,g2,g3,g4,g5⟩:=f2 b hb;obtain⟨o,ho,_⟩:=obf b hb;refine⟨fr5 b hb,Nat.ne_of_lt (Nat.lt_of_lt_of_le (Heap.lt_size ho) leC),fun z=>?_,.inl hb,fun x c e=>g4 x c (hcl1 (x,c) (Db e)),fun p hp=>?_⟩
   ·rcases List.mem_cons.mp (I2.stkSub b z) with q | q
    ·exact g1 q
    ·exact g2 q
   ·rcases List.mem_append.mp hp with q | q
    ·exact g5 p q
    ·cases q
  obtain⟨y1,y2⟩:=yl m' H' eX.y
  by_cases hlt:i<xs.length
  ·rw[List.drop_eq_getElem_cons hlt]at lp5;obtain⟨go,yd⟩:=y1 i xs[i] (List.getElem?_eq_getElem hlt);refine aZ (T.item (bU X scope cl HP.objs.size NC s₂ H2 pins fp) rfl rfl rfl hc i [] s4 σ' H' (fun _ _=>False) I5 stat st5 go) fun r s5 hq0=>?_;obtain⟨u,hr,h5⟩:=hq0;subst hr;refine aZ h5 fun _ s6 hq0=>?_;obtain⟨x,H6,I6,r6,yy,st6,fr6⟩:=hq0;have yy':=yd x H6 yy
   have e56:Ext X.K (bI Z s₂.heap.objs.size) m' H' m' H6:=ok5.ext yy'.same
   have rv:=yy'.rd (fun d v h=>Zn hD hkD eX h) ok5
   have hDy:=yy'.same _ _ hDy
   have racc:=RPs.ext e56 _ _ racc
   have eX:=xP eX hD hkD e56
   have rs5:=rs5.ext e56
   have ok5:=ok5.grow yy'.same
   have stat:∀ b∈fp,fY (bU X scope cl HP.objs.size NC s₂ H2 pins fp) [] H6 b:=fun b hb=>⟨fr6 b hb,(stat b hb).2⟩
   have I6':=I6.pinned stat (T.obj _ _ st6)
   -- what stands when a turn is over
   have over:∀ {s7:Shared} {σ7:L2.St} {H7:Hp} {ys7:List V} {acc7:List PyData} {d7:bZ} {m7:Mu},Inv (bU X scope cl HP.objs.size NC s₂ H2 pins fp) ([]++rF fp s6.heap) σ7 H7 s7->H7 s₂.heap.objs.size=some (.lst ys7)->RPs X.K (bI Z s₂.heap.objs.size) m7 H7 acc7 ys7 ->
     Ext X.K Z m1 H2 m7 H7->Ok X.K (bI Z s₂.heap.objs.size) m7 H7->RS X.K (bI Z s₂.heap.objs.size) m7 H7 d7 σ7->(eJ g t f (xs.drop (i+1)) acc7 d7 m7 RL) ->
     ∃ n,n<xs.length-i/\∃ (i:Nat) (ys:List V) (acc:List PyData) (d':bZ) (m':Mu) (σ':L2.St) (H':Hp),n=xs.length-i/\i<=xs.length/\Inv (bU X scope cl HP.objs.size NC s₂ H2 pins fp) [] σ' H' s7/\tn i s7.heap/\(∀ b∈fp,H' b=none) /\
      H' s₂.heap.objs.size=some (.lst ys)/\RPs X.K (bI Z s₂.heap.objs.size) m' H' acc ys/\Ext X.K Z m1 H2 m' H'/\Ok X.K (bI Z s₂.heap.objs.size) m' H'/\RS X.K (bI Z s₂.heap.objs.size) m' H' d' σ' /\
      eJ g t f (xs.drop i) acc d' m' RL:=by
    intro s7 σ7 H7 ys7 acc7 d7 m7 I7 a1 a2 a3 a4 a5 a6;refine⟨xs.length-(i+1),by omega,i+1,ys7,acc7,d7,m7,σ7,H7,rfl,hlt,I7.unpinned,T.keep _ _ _ st6 fun b hb o e=>(I7.pin (b,o) (List.mem_append_right _ (List.mem_append_right _ (mY hb e)))).1,fun b hb=>?_,a1,a2,a3,a4,a5,a6⟩
    obtain⟨o,e,dd⟩:=T.obj _ _ st6 b hb;exact(I7.pin (b,o) (List.mem_append_right _ (List.mem_append_right _ (mY hb e)))).2.1
   refine aZ (hg cl _ s₂ H2 pins fp _ s6 σ' _ x u (fun σ7 H7=>∃ d7 m7,Ext X.K (bI Z s₂.heap.objs.size) m' H6 m7 H7/\Ok X.K (bI Z s₂.heap.objs.size) m7 H7/\RS X.K (bI Z s₂.heap.objs.size) m7 H7 d7 σ7 /\
    t d7 m7 fun b m2=>if b=true then f d7 m2 fun y m3=>∃ p,y=.dat p/\acc.length<sizeLine/\eJ g t f (xs.drop (i+1)) (acc++[p]) d7 m3 RL else eJ g t f (xs.drop (i+1)) acc d7 m2 RL) I6' r6
    ⟨_,xs[i],d',m',_,ok5,rs5,rv,lp5,fun d7 m7 σ7 H7 q7 e7 ok7 rs7=>⟨d7,m7,e7,ok7,rs7,q7⟩⟩) fun _ s7 hq0=>?_
   obtain⟨σ7,H7,I7,d7,m7,e7,ok7,rs7,q7⟩:=hq0;refine aZ (ht cl _ s₂ H2 pins fp _ s7 σ7 H7 (fun b H8=>∃ m8,Ext X.K (bI Z s₂.heap.objs.size) m7 H7 m8 H8/\Ok X.K (bI Z s₂.heap.objs.size) m8 H8 /\
    if b=true then f d7 m8 fun y m3=>∃ p,y=.dat p/\acc.length<sizeLine/\eJ g t f (xs.drop (i+1)) (acc++[p]) d7 m3 RL else eJ g t f (xs.drop (i+1)) acc d7 m8 RL) I7
    ⟨_,d7,m7,_,ok7,rs7,q7,fun b m8 H8 q8 e8 ok8=>⟨m8,e8,ok8,q8⟩⟩) fun b s8 hq0=>?_
   obtain⟨H8,I8,m8,e8,ok8,q8⟩:=hq0;have e68:=e7.trans e8
   have hD8:H8 s₂.heap.objs.size=some (.lst ys):=(e68.z _ (.inr rfl)).trans hDy
   cases b with
   | false =>
    rw[if_neg Bool.false_ne_true]at q8;exact over I8 hD8 (RPs.ext e68 _ _ racc) (xP eX hD hkD e68) ok8 (rs7.ext e8) q8
   | true =>
    rw[if_pos rfl]at q8;refine aZ (he cl _ s₂ H2 pins fp _ s8 σ7 H8 (fun v H9=>∃ p m9,RP X.K (bI Z s₂.heap.objs.size) m9 H9 p v/\Ext X.K (bI Z s₂.heap.objs.size) m8 H8 m9 H9/\Ok X.K (bI Z s₂.heap.objs.size) m9 H9/\acc.length<sizeLine/\eJ g t f (xs.drop (i+1)) (acc++[p]) d7 m9 RL) I8
     ⟨_,d7,m8,_,ok8,rs7.ext e8,q8,fun y m9 v H9 hq1 e9 ok9 r9=>by
      obtain⟨p,ey,hz,q9⟩:=hq1;subst ey;exact⟨p,m9,r9,e9,ok9,hz,q9⟩⟩) fun yv s9 hq0=>?_
    obtain⟨y,H9,I9,ry,p,m9,rp9,e9,ok9,hz,q9⟩:=hq0;have e69:=e68.trans e9
    have hD9:H9 s₂.heap.objs.size=some (.lst ys):=(e69.z _ (.inr rfl)).trans hDy
    have racc9:=RPs.ext e69 _ _ racc
    have rs9:=(rs7.ext e8).ext e9
    refine aZ (Pd _ s9 σ7 H9 (.ref s₂.heap.objs.size) [y] (.ref s₂.heap.objs.size) [yv] (fun v H10=>H10=upd H9 s₂.heap.objs.size (.lst (ys++[y]))) I9 rfl (.cons ry .nil) ⟨_,ys,y,rfl,rfl,hD9,by rw[racc9.length];exact hz,rfl⟩) fun rv s10 hq0=>?_
    obtain⟨v10,H10,I10,_,e10⟩:=hq0;subst e10;refine over I10 dR ?_ (T7 (xP eX hD hkD e69) ok1 hD hkD hD9) (E8 ok9 hD9) ⟨rs9.1,fun j z hj=>?_⟩ q9
    ·exact RPs.tr (vZ hD9) Cc _ _ (racc9.append (by simp only[RPs];exact⟨y,[],rfl,rp9,rfl⟩))
    ·obtain⟨v,a1,a2⟩:=rs9.2 j z hj;exact⟨v,a1,Wv hD9 a2⟩
  ·have e:i=xs.length:=by omega
   subst e;rw[List.drop_length]at lp5;refine aZ (T.done (bU X scope cl HP.objs.size NC s₂ H2 pins fp) rfl rfl rfl hc _ [] s4 σ' H' (fun _ _=>False) I5 stat st5 y2) fun r s5 hq0=>?_;obtain⟨hr,I6⟩:=hq0;subst hr;have IX:=Ti I2 f2 I6 leC (Heap.SameBut.refl _ _)
   have nz:¬ Z s₂.heap.objs.size:=fun z=>(ok1.z _ z).2 hD
   refine fin s5 HP.objs.size s₂.heap.objs.size H' m' acc lp5 (e1.trans eX) (Ze ok5) ?_ ⟨_,I6.loc.choose_spec.1⟩ IX ⟨I6.free,Nat.ne_of_gt (Nat.lt_of_lt_of_le I2.lt leC),Nat.le_trans I2.sz leC,fun x c e=>?_,fun p hp=>?_⟩ ⟨(ok5.z _ (.inr rfl)).1,?_,?_⟩
   ·simp only[RD,RP];exact⟨_,ys,rfl,⟨(ok5.z _ (.inr rfl)).1,nz⟩,.inl (.inl hDy),RPs.tr (fun _ _ q=>q) (fun a vs q1 q2=>⟨⟨q1.1,fun z=>q1.2 (.inl z)⟩,q2⟩) _ _ racc⟩
   ·obtain⟨v,q⟩:=I2.cell x c e;exact Nat.ne_of_lt (Nat.lt_of_lt_of_le q.lt leC)
   ·exact Nat.ne_of_lt (Nat.lt_of_lt_of_le (Heap.lt_size (I2.pin p hp).1) leC)
   ·refine⟨fun a vs q=>(e1.trans eX).t a vs q,fun a vs q1 q2=>?_,fun a q=>(e1.trans eX).z a q,fun a q=>?_,(e1.trans eX).fz,fun a q=>?_⟩
    ·obtain⟨_,q3⟩:=e1.l a vs q1 q2;have ne:=SqL.ne hD hkD q3
     obtain⟨q4,q5⟩:=(e1.trans eX).l a vs q1 q2;exact⟨by rw[eR ne];exact q4,q5⟩
    ·by_cases ea:a=s₂.heap.objs.size
     ·subst ea;rw[eI];rfl
     ·rw[eR ea];exact(e1.trans eX).c a q
    ·have fq:=(e1.trans eX).fm a q
     have ne:a≠s₂.heap.objs.size:=by
      rintro rfl;rw[(ok5.z _ (.inr rfl)).1]at fq;rw[<- fq]at q
      cases q
     rw[eR ne];exact fq
   ·have tr:∀ (a:Addr) (vs:List V),(m' a=none/\¬ bI Z s₂.heap.objs.size a)->SqL X.K H' a vs->(cK m' s₂.heap.objs.size (.l acc) a=none/\¬ Z a)/\SqL X.K H' a vs:=fun a vs q1 q2=>⟨⟨by rw[eR fun z=>q1.2 (.inr z)];exact q1.1,fun z=>q1.2 (.inl z)⟩,q2⟩
    refine⟨fun a c q=>?_,fun a q=>?_⟩
    ·by_cases ea:a=s₂.heap.objs.size
     ·subst ea;rw[eI]at q
      cases q
      exact⟨_,hDy,RPs.tr (fun _ _ q=>q) tr _ _ racc⟩
     ·rw[eR ea]at q;obtain⟨o,q1,q2⟩:=ok5.g a c q;exact⟨o,q1,q2.lift fun p v q3=>RP.tr (fun _ _ q=>q) tr p v q3⟩
    ·have ne:a≠s₂.heap.objs.size:=fun z=>nz (z▸q)
     obtain⟨q1,q2⟩:=ok5.z a (.inl q);exact⟨by rw[eR ne];exact q1,q2⟩
 exact codeAny_compStart_list (loop _ rfl) (T.self _ 0 _ _ _ st4 (loop _ rfl))
theorem UH(src:List (Option Nat))(hc:X.calm=true)(hi:PI X tg iter (LI X.K fi))
  (hg:∀ cl C s2 H2 pins fp,PG (bU X scope cl C NC s2 H2 pins fp) tg (LG X.K g)) (ht:∀ cl C s2 H2 pins fp,PF (bU X scope cl C NC s2 H2 pins fp) ifs (LT X.K t)) (he:∀ cl C s2 H2 pins fp,PE (bU X scope cl C NC s2 H2 pins fp) elt (LE X.K f))
  (hkind:scope.kind=.function) (hcell:∀ y∈scope.names,y.2≠.cell) (hnames:∀ y∈scope.names,y.2=.local->scope.names.lookup y.1=some .local)
  (hfree:∀ x,(x,NameKind.free)∈scope.names->X.env.kindOf x=some .cell\/X.env.kindOf x=some .free) (hsrc:vO X scope NC src)
  (hs:∀ x,foldedSetIterable iter X.env x=pure x:=by intro _;rfl) :
  PE X (.ListComp elt [⟨tg,iter,ifs,0⟩] scope pos) (LE X.K (eN src fi g t f)):=by
 intro pins s σ H Q I h;obtain⟨Z,d,m,R,ok,rs,h,k⟩:=h;rw[eval_ListComp];refine Va src hc hi hg ht he hkind hcell hnames hfree hsrc hs (use:=none) (QQ:=EP X pins σ Q) (RL:=fun ps m2=>R (.dat (.list ps)) m2) I ok rs h ?_;intro s5 C D H' m' ps q e ok' rd ⟨mm,hns⟩ I5 off hcl;exact⟨mm,hns,fun h' hs'=>⟨.ref D,H',off.inv I5 hs',rfl,k _ m' _ H' q e ok' rd⟩⟩
theorem VR(i:Nat){y:Str}{py spos:Pos}(src:List (Option Nat))(hc:X.calm=true)(hi:PI X tg iter (LI X.K fi))
  (hg:∀ cl C s2 H2 pins fp,PG (bU X scope cl C NC s2 H2 pins fp) tg (LG X.K g)) (ht:∀ cl C s2 H2 pins fp,PF (bU X scope cl C NC s2 H2 pins fp) ifs (LT X.K t)) (he:∀ cl C s2 H2 pins fp,PE (bU X scope cl C NC s2 H2 pins fp) elt (LE X.K f))
  (hkind:scope.kind=.function) (hcell:∀ y∈scope.names,y.2≠.cell) (hnames:∀ y∈scope.names,y.2=.local->scope.names.lookup y.1=some .local)
  (hfree:∀ x,(x,NameKind.free)∈scope.names->X.env.kindOf x=some .cell\/X.env.kindOf x=some .free) (hsrc:vO X scope NC src)
  (hN:X.N.Nodup) (hi2:X.N[i]?=some y:=by rfl) (hx:jG X.env.scope y:=by first | exact Or.inl rfl | exact Or.inr rfl) (hf:X.fn y=true\/X.env.scope.names.lookup y=some .local:=by first | exact .inl rfl | exact .inr rfl)
  (hsw:swapsWith (.ListComp elt [⟨tg,iter,ifs,0⟩] scope pos) (some (.Name y py)) spos.line X.env=pure true:=by rfl)
  (hs:∀ x,foldedSetIterable iter X.env x=pure x:=by intro _;rfl) :
  PS X (.Assign [.Name y py] (.ListComp elt [⟨tg,iter,ifs,0⟩] scope pos) spos) (LS X.K (aY i (eN src fi g t f))):=by
 intro pins s σ H E I h;obtain⟨Z,d,m,R,ok,rs,h,k,_⟩:=h;rw[exec_Assign_Name_used _ _ _ _ hsw];refine wpAny_bind (wpAny_standAt (wpAny_bind ?_));rw[arm_evalThenUse_ListComp];refine wpAny_bind ?_;refine aZ (Va src hc hi hg ht he hkind hcell hnames hfree hsrc hs (use:=some (assign (.Name y py) X.env)) (QQ:=fun _ s'=>SP X pins E .next s') (RL:=fun ps m2=>R.nx (d.set i (some (.dat (.list ps)))) m2) I ok rs h ?_) (fun _ s' q=>wpAny_pure (wpAny_pure q));intro s5 C D H' m' ps q e ok' rd ⟨mm,hns⟩ I5 off hcl;show wpAny _ X.A (assign (.Name y py) X.env (.ref D)) _ _ s5
 refine wpAny_assign_Name (J4 I5 hN hi2 hx (v:=.ref D) rfl (fun s6 I6 ⟨a,hs6,ha⟩=>?_) hf);have ne:C≠a:=by
  rcases ha with rfl | ha
  ·exact off.l
  ·exact Ne.symm (off.c _ _ ha)
 refine⟨mm,hns.sameBut hs6 ne,fun h' hs'=>?_⟩;exact⟨_,H',off.inv I6 hs',k _ m' _ H' q e ok' ((rs.ext e).set rd)⟩
end
section
variable {prog:Program}{w:World}{A:Around}{E:Value->Shared->Prop}{s:Shared}
def IsRv(h:Heap)(a t:Addr)(i:Int):Prop:=∃ o,h.get? a=some o/\o.cls=.type "reversed"/\o.data=.fields #[.ref t,rawInt i]
theorem IsRv.typeIs{a t:Addr}{i:Int}(x:IsRv s.heap a t i):s.TypeIs (.ref a) "reversed":=let ⟨o,ho,hc,_⟩:=x;⟨o,ho,hc⟩
end
theorem X0(l:Addr)(items:Array Value)(x:Value)(e:Value->Bool)(j:Nat)(hj:j<items.size)(hit:e items[j]=true)(hno:∀ m (hm:m<items.size),m<j->e items[m]=false) :
  Meets (Builtin.«tuple.index» ⟨[.ref l,x],[]⟩) (fun A R s=>IsTup s.heap l items/\(∀ y,y∈items->SeqAt.EqAt A.in1 s y x (e y))/\R (.ok (.ret (.int j s.toks))) {s with toks:=s.toks+1}) :=
 .of_wp fun prog w A R s h=>by
  obtain⟨ht,he,h⟩:=h;unfold Builtin.«tuple.index»;refine wpAny_bind (wpAny_of_eq (a:=(Value.ref l,[x])) rfl ?_)
  try dsimp only
  refine wpAny_bind (tupleItemsOf_ ht ?_)
  try dsimp only
  refine wpAny_bind (wpAny_pure (wpAny_bind (wpAny_pure ?_)));rw[Nat.min_self,Std.Legacy.Range.forIn_eq_forIn_range'];refine wpAny_bind (wpAny_forIn_list _ (fun bC b s'=>s'=s/\∃ k,k<=j/\bC=List.range' k (items.size-k)) _ ?_ ?_ _ _ ?_)
  ·rintro i bC b s' ⟨rfl,k,hk,hr⟩;have hlt:k<items.size:=by omega
   obtain⟨n,hn⟩:∃ n,items.size-k=n+1:=⟨items.size-k-1,by omega⟩
   rw[hn,List.range'_succ]at hr;obtain⟨rfl,rfl⟩:=List.cons.inj hr;have hx:items[i]?=some items[i]:=Array.getElem?_eq_getElem hlt
   simp only[hx];refine wpAny_bind (he _ (Array.getElem_mem hlt) prog w _ _ ?_)
   by_cases hij:i=j
   ·subst hij;rw[hit];exact wpAny_bind (wpAny_bind (wpAny_mkInt (wpAny_pure (wpAny_pure (wpAny_pure ⟨_,rfl,h⟩)))))
   ·rw[hno i hlt (by omega)]
    exact wpAny_pure ⟨rfl,i+1,by omega,by congr 1;omega⟩
  ·rintro b s' ⟨rfl,k,hk,hr⟩;have:=congrArg List.length hr
   rw[List.length_range']at this;simp at this;omega
  ·exact⟨rfl,0,Nat.zero_le _,by simp[Std.Legacy.Range.size]⟩
theorem Qv:∀ {zs:List Str} {us:List Value},Vals (zs.map V.str) us->∀ i (h:i<us.length) (h2:i<zs.length),∃ t,us[i]=.str zs[i] t
 | [],_,.nil,i,h,_=>absurd h (Nat.not_lt_zero _)
 | z::zs,_,.cons r t,0,_,_=>let ⟨k,e⟩:=r;⟨k,e⟩
 | z::zs,_,.cons r t,i+1,h,h2=>Qv t i (Nat.lt_of_succ_lt_succ h) (Nat.lt_of_succ_lt_succ h2)
theorem Ju{y:Str}:∀ (zs:List Str) (m:Nat) (h:m<zs.length),m<zs.idxOf y->zs[m]≠y
 | [],_,h,_=>absurd h (Nat.not_lt_zero _)
 | z::zs,0,_,h=>by
  intro e;rw[List.getElem_cons_zero]at e;rw[e,List.idxOf_cons_self]at h;exact absurd h (Nat.lt_irrefl _)
 | z::zs,m+1,hl,h=>by
  rw[List.getElem_cons_succ];refine Ju zs m (Nat.lt_of_succ_lt_succ hl) ?_;rw[List.idxOf_cons]at h
  cases e:z==y with
  | true=>simp[e]at h
  | false=>simp[e]at h;omega
section
variable {X:Cx}{a e o:Expr}{es:List Expr}{f g:DE}{ga:DA}{pos p p1 p2:Pos}
def QN(K:PySem.W.Frag):V->List V->Hp->VK->Prop:=fun x xs H Q=>∃ (a:Addr) (y:Str) (zs:List Str),x=.ref a/\xs=[.str y]/\SqT K H a (zs.map V.str)/\y∈zs/\Q (.int (zs.idxOf y:Nat)) H
theorem p0:MtR X "tuple.index" (QN X.K):=by
 intro pins s σ H x xs v us Q I rx rs ⟨a,y,zs,e1,e2,hq,hk,q⟩;subst e1 e2
 cases rx
 obtain⟨u,rfl,ru⟩:=fS rs;obtain⟨tk,rfl⟩:=id ru;obtain⟨its,rv,p,hz⟩:=I.tuple hq;have hl:=rv.length
 rw[List.length_map]at hl;have hj:zs.idxOf y<zs.length:=List.idxOf_lt_length_iff.mpr hk
 have hit:∀ m (hm:m<its.toArray.size) (hm2:m<zs.length),fD (.str y) its.toArray[m]=(zs[m]==y):=fun m hm hm2=>by
  obtain⟨t,e⟩:=Qv rv m (by simpa using hm) hm2
  have e':its.toArray[m]=.str zs[m] t:=by simpa using e
  rw[e'];rfl
 have hfl:(zs.map V.str).all iL=true:=by
  rw[List.all_eq_true];intro v hv;obtain⟨z,_,rfl⟩:=List.mem_map.mp hv;rfl
 refine call_meets PySem.F.slot_tuple_index p.typeIs PySem.F.entry_tuple_index (PySem.F.args_tuple_index_2 _ _) (X0 a its.toArray (.str y tk) (fD (.str y)) (zs.idxOf y) (by rw[List.size_toArray];omega) ?_ ?_) ⟨p,?_,?_⟩
 ·rw[hit _ _ hj,List.getElem_idxOf hj];simp
 ·intro m hm hlt;have hm2:m<zs.length:=by omega
  rw[hit m hm hm2];simp only[beq_eq_false_iff_ne];exact Ju _ _ hm2 hlt
 ·exact fun w hw=>pH (x:=.str y) ⟨tk,rfl⟩ rfl rv hfl w (by simpa using hw)
 ·exact⟨.int _,H,I.tok _,⟨_,rfl⟩,q⟩
theorem iK{K:PySem.W.Frag}{Z:Addr->Prop}{m:Mu}{H:Hp}:∀ {zs:List Str} {vs:List V},RPs K Z m H (zs.map PyData.str) vs->vs=zs.map V.str
 | [],vs,h=>by simpa[RPs] using h
 | z::zs,vs,h=>by
  simp only[List.map_cons,RPs]at h;obtain⟨v,r,rfl,h1,h2⟩:=h;simp only[RP]at h1;subst h1;rw[iK h2];rfl
theorem zK{K:PySem.W.Frag}{Z:Addr->Prop}{m:Mu}{H:Hp}:∀ (zs:List Str),RPs K Z m H (zs.map PyData.str) (zs.map V.str)
 | []=>by simp[RPs]
 | z::zs=>by
  simp only[List.map_cons,RPs];exact⟨_,_,rfl,by simp only[RP],zK zs⟩
def KT(K:PySem.W.Frag)(a:Addr)(zs:List Str):Prop:=∃ (o:Obj) (its:Array Value) (n:Nat),K.lookup a=some o/\o.cls=.type "tuple"/\o.dict=none/\o.data=.seq its n/\its.size<=sizeLine/\Vals (zs.map V.str) its.toList
theorem KT.sq{K:PySem.W.Frag}{a:Addr}{zs:List Str}{H:Hp}(h:KT K a zs):SqT K H a (zs.map V.str):=by
 obtain⟨o,its,n,h1,h2,h3,h4,h5,h6⟩:=h;exact .inr ⟨o,its,n,h1,⟨h2,h3⟩,h4,h5,h6⟩
theorem AD{x:Str}{c:Addr}{zs:List Str}(hg:Gl X x)(hm:X.mg x=some (.ref c))(hk:KT X.K c zs)(hd:(x==("__debug__" : Str))=false:=by decide):PE X (.Name x pos) (LE X.K (aE (.tuple (zs.map .str)))) :=
 PE.imp (yS (v:=.ref c) hg hm rfl hd) fun s H Q h=>by
  obtain⟨Z,d,m,R,ok,rs,h,k⟩:=h;refine k _ m _ H h Ext.refl ok ?_;simp only[RD,RP];exact⟨c,_,rfl,hk.sq,zK zs⟩
@[simp] def tL:D2
 | .dat (.str x),.dat (.list ys),m,Q=>∃ zs:List Str,ys=zs.map .str/\Q (.dat (.bool (decide (x∈zs)))) m
 | .dat (.str x),.dat (.tuple ys),m,Q=>∃ zs:List Str,ys=zs.map .str/\Q (.dat (.bool (decide (x∈zs)))) m
 | .dat (.bool x),.dat (.list ys),m,Q=>∃ zs:List Bool,ys=zs.map .bool/\Q (.dat (.bool (decide (x∈zs)))) m
 | .dat (.bool x),.dat (.tuple ys),m,Q=>∃ zs:List Bool,ys=zs.map .bool/\Q (.dat (.bool (decide (x∈zs)))) m
 | .dat (.int x),.dat (.list ys),m,Q=>∃ zs:List Int,ys=zs.map .int/\Q (.dat (.bool (decide (x∈zs)))) m
 | .dat (.int x),.dat (.tuple ys),m,Q=>∃ zs:List Int,ys=zs.map .int/\Q (.dat (.bool (decide (x∈zs)))) m
 | _,_,_,_=>False
@[simp] def vM:D2
 | .dat (.str x),.dat (.list ys),m,Q=>∃ zs:List Str,ys=zs.map .str/\Q (.dat (.bool (!decide (x∈zs)))) m
 | .dat (.str x),.dat (.tuple ys),m,Q=>∃ zs:List Str,ys=zs.map .str/\Q (.dat (.bool (!decide (x∈zs)))) m
 | .dat (.bool x),.dat (.list ys),m,Q=>∃ zs:List Bool,ys=zs.map .bool/\Q (.dat (.bool (!decide (x∈zs)))) m
 | .dat (.bool x),.dat (.tuple ys),m,Q=>∃ zs:List Bool,ys=zs.map .bool/\Q (.dat (.bool (!decide (x∈zs)))) m
 | .dat (.int x),.dat (.list ys),m,Q=>∃ zs:List Int,ys=zs.map .int/\Q (.dat (.bool (!decide (x∈zs)))) m
 | .dat (.int x),.dat (.tuple ys),m,Q=>∃ zs:List Int,ys=zs.map .int/\Q (.dat (.bool (!decide (x∈zs)))) m
 | _,_,_,_=>False
theorem yN(x:Str):∀ zs:List Str,mR (.str x) (zs.map V.str)=decide (x∈zs)
 | []=>rfl
 | z::zs=>by
  have ih:=yN x zs
  unfold mR at ih ⊢;rw[List.map_cons,List.any_cons,ih];show(z==x||decide (x∈zs))=decide (x∈z::zs)
  rw[Bool.eq_iff_iff];simp only[Bool.or_eq_true,beq_iff_eq,decide_eq_true_eq,List.mem_cons];exact⟨fun h=>h.imp Eq.symm id,fun h=>h.imp Eq.symm id⟩
theorem Fi(zs:List Str):(zs.map V.str).all iL=true:=by
 rw[List.all_eq_true];intro v hv;obtain⟨z,_,rfl⟩:=List.mem_map.mp hv;rfl
theorem Al(x:Bool):∀ zs:List Bool,mR (.bl x) (zs.map V.bl)=decide (x∈zs)
 | []=>rfl
 | z::zs=>by
  have ih:=Al x zs
  unfold mR at ih ⊢;rw[List.map_cons,List.any_cons,ih];show(z==x||decide (x∈zs))=decide (x∈z::zs)
  rw[Bool.eq_iff_iff];simp only[Bool.or_eq_true,beq_iff_eq,decide_eq_true_eq,List.mem_cons];exact⟨fun h=>h.imp Eq.symm id,fun h=>h.imp Eq.symm id⟩
theorem Cu(zs:List Bool):(zs.map V.bl).all iL=true:=by
 rw[List.all_eq_true];intro v hv;obtain⟨z,_,rfl⟩:=List.mem_map.mp hv;rfl
theorem Am{K:PySem.W.Frag}{Z:Addr->Prop}{m:Mu}{H:Hp}:∀ {zs:List Bool} {vs:List V},RPs K Z m H (zs.map PyData.bool) vs->vs=zs.map V.bl
 | [],vs,h=>by simpa[RPs] using h
 | z::zs,vs,h=>by
  simp only[List.map_cons,RPs]at h;obtain⟨v,r,rfl,h1,h2⟩:=h;simp only[RP]at h1;subst h1;rw[Am h2];rfl
theorem yK(x:Int):∀ zs:List Int,mR (.int x) (zs.map V.int)=decide (x∈zs)
 | []=>rfl
 | z::zs=>by
  have ih:=yK x zs
  unfold mR at ih ⊢;rw[List.map_cons,List.any_cons,ih];show(z==x||decide (x∈zs))=decide (x∈z::zs)
  rw[Bool.eq_iff_iff];simp only[Bool.or_eq_true,beq_iff_eq,decide_eq_true_eq,List.mem_cons];exact⟨fun h=>h.imp Eq.symm id,fun h=>h.imp Eq.symm id⟩
theorem Fu(zs:List Int):(zs.map V.int).all iL=true:=by
 rw[List.all_eq_true];intro v hv;obtain⟨z,_,rfl⟩:=List.mem_map.mp hv;rfl
theorem yQ{K:PySem.W.Frag}{Z:Addr->Prop}{m:Mu}{H:Hp}:∀ {zs:List Int} {vs:List V},RPs K Z m H (zs.map PyData.int) vs->vs=zs.map V.int
 | [],vs,h=>by simpa[RPs] using h
 | z::zs,vs,h=>by
  simp only[List.map_cons,RPs]at h;obtain⟨v,r,rfl,h1,h2⟩:=h;simp only[RP]at h1;subst h1;rw[yQ h2];rfl
theorem HJ:dI X (compareOp .In) tL:=by
 intro pins s σ H Z m x y dx dy v u R Q I ok rx ry r1 r2 h k;unfold tL at h
 split at h
 ·obtain⟨zs,rfl,q⟩:=h
  cases r1.str
  simp only[RD,RP]at r2;obtain⟨a,vs,rfl,_,h1,h2⟩:=r2
  cases iK h2
  refine xI pins s σ H _ _ v u Q I rx ry ⟨a,_,rfl,.inl h1,rfl,Fi zs,?_⟩;rw[if_neg Bool.false_ne_true,yN];exact k _ m _ H q Ext.refl ok .ofBl
 ·obtain⟨zs,rfl,q⟩:=h
  cases r1.str
  simp only[RD,RP]at r2;obtain⟨a,vs,rfl,h1,h2⟩:=r2
  cases iK h2
  refine xI pins s σ H _ _ v u Q I rx ry ⟨a,_,rfl,.inr h1,rfl,Fi zs,?_⟩;rw[if_neg Bool.false_ne_true,yN];exact k _ m _ H q Ext.refl ok .ofBl
 ·obtain⟨zs,rfl,q⟩:=h
  cases r1.bl
  simp only[RD,RP]at r2;obtain⟨a,vs,rfl,_,h1,h2⟩:=r2
  cases Am h2
  refine xI pins s σ H _ _ v u Q I rx ry ⟨a,_,rfl,.inl h1,rfl,Cu zs,?_⟩;rw[if_neg Bool.false_ne_true,Al];exact k _ m _ H q Ext.refl ok .ofBl
 ·obtain⟨zs,rfl,q⟩:=h
  cases r1.bl
  simp only[RD,RP]at r2;obtain⟨a,vs,rfl,h1,h2⟩:=r2
  cases Am h2
  refine xI pins s σ H _ _ v u Q I rx ry ⟨a,_,rfl,.inr h1,rfl,Cu zs,?_⟩;rw[if_neg Bool.false_ne_true,Al];exact k _ m _ H q Ext.refl ok .ofBl
 ·obtain⟨zs,rfl,q⟩:=h
  cases r1.int
  simp only[RD,RP]at r2;obtain⟨a,vs,rfl,_,h1,h2⟩:=r2
  cases yQ h2
  refine xI pins s σ H _ _ v u Q I rx ry ⟨a,_,rfl,.inl h1,rfl,Fu zs,?_⟩;rw[if_neg Bool.false_ne_true,yK];exact k _ m _ H q Ext.refl ok .ofBl
 ·obtain⟨zs,rfl,q⟩:=h
  cases r1.int
  simp only[RD,RP]at r2;obtain⟨a,vs,rfl,h1,h2⟩:=r2
  cases yQ h2
  refine xI pins s σ H _ _ v u Q I rx ry ⟨a,_,rfl,.inr h1,rfl,Fu zs,?_⟩;rw[if_neg Bool.false_ne_true,yK];exact k _ m _ H q Ext.refl ok .ofBl
 ·exact h.elim
theorem Ar:dI X (compareOp .NotIn) vM:=by
 intro pins s σ H Z m x y dx dy v u R Q I ok rx ry r1 r2 h k;unfold vM at h
 split at h
 ·obtain⟨zs,rfl,q⟩:=h
  cases r1.str
  simp only[RD,RP]at r2;obtain⟨a,vs,rfl,_,h1,h2⟩:=r2
  cases iK h2
  refine uW pins s σ H _ _ v u Q I rx ry ⟨a,_,rfl,.inl h1,rfl,Fi zs,?_⟩;rw[if_pos rfl,yN];exact k _ m _ H q Ext.refl ok .ofBl
 ·obtain⟨zs,rfl,q⟩:=h
  cases r1.str
  simp only[RD,RP]at r2;obtain⟨a,vs,rfl,h1,h2⟩:=r2
  cases iK h2
  refine uW pins s σ H _ _ v u Q I rx ry ⟨a,_,rfl,.inr h1,rfl,Fi zs,?_⟩;rw[if_pos rfl,yN];exact k _ m _ H q Ext.refl ok .ofBl
 ·obtain⟨zs,rfl,q⟩:=h
  cases r1.bl
  simp only[RD,RP]at r2;obtain⟨a,vs,rfl,_,h1,h2⟩:=r2
  cases Am h2
  refine uW pins s σ H _ _ v u Q I rx ry ⟨a,_,rfl,.inl h1,rfl,Cu zs,?_⟩;rw[if_pos rfl,Al];exact k _ m _ H q Ext.refl ok .ofBl
 ·obtain⟨zs,rfl,q⟩:=h
  cases r1.bl
  simp only[RD,RP]at r2;obtain⟨a,vs,rfl,h1,h2⟩:=r2
  cases Am h2
  refine uW pins s σ H _ _ v u Q I rx ry ⟨a,_,rfl,.inr h1,rfl,Cu zs,?_⟩;rw[if_pos rfl,Al];exact k _ m _ H q Ext.refl ok .ofBl
 ·obtain⟨zs,rfl,q⟩:=h
  cases r1.int
  simp only[RD,RP]at r2;obtain⟨a,vs,rfl,_,h1,h2⟩:=r2
  cases yQ h2
  refine uW pins s σ H _ _ v u Q I rx ry ⟨a,_,rfl,.inl h1,rfl,Fu zs,?_⟩;rw[if_pos rfl,yK];exact k _ m _ H q Ext.refl ok .ofBl
 ·obtain⟨zs,rfl,q⟩:=h
  cases r1.int
  simp only[RD,RP]at r2;obtain⟨a,vs,rfl,h1,h2⟩:=r2
  cases yQ h2
  refine uW pins s σ H _ _ v u Q I rx ry ⟨a,_,rfl,.inr h1,rfl,Fu zs,?_⟩;rw[if_pos rfl,yK];exact k _ m _ H q Ext.refl ok .ofBl
 ·exact h.elim
@[simp] def kC:DC
 | [.dat (.tuple xs)],m,Q=>Q (.dat (.tuple xs)) m
 | [.dat (.list xs)],m,Q=>Q (.dat (.tuple xs)) m
 | [.cel c],m,Q=>∃ xs,m c=some (.l xs)/\Q (.dat (.tuple xs)) m
 | _,_,_=>False
theorem xL:CallD X (.type "tuple") kC:=by
 intro pins s σ H Z m xs ds us R Q I ok rv rd h k;unfold kC at h
 split at h
 ·obtain⟨v,rfl,r1⟩:=rd.one;have r0:=r1
  simp only[RD,RP]at r1;obtain⟨a,vs,rfl,h1,h2⟩:=r1;exact Kl pins s σ H _ us Q I rv ⟨a,vs,rfl,.inr ⟨h1,k _ m _ H h Ext.refl ok r0⟩⟩
 ·obtain⟨v,rfl,r1⟩:=rd.one;simp only[RD,RP]at r1;obtain⟨a,vs,rfl,_,h1,h2⟩:=r1;refine Kl pins s σ H _ us Q I rv ⟨a,vs,rfl,.inl ⟨h1,fun l hl=>?_⟩⟩;have sm:Same H (upd H l (.tup vs)):=dX hl
  refine k _ m _ _ h (ok.ext sm) (ok.grow sm) ?_;simp only[RD,RP];exact⟨l,vs,rfl,.inl (.inl dR),RPs.ext (ok.ext sm) _ _ h2⟩
 ·obtain⟨v,rfl,r1⟩:=rd.one;obtain⟨rfl,_⟩:=r1;obtain⟨ys,hm,q⟩:=h;obtain⟨vs,h1,h2⟩:=ok.l hm;refine Kl pins s σ H _ us Q I rv ⟨_,vs,rfl,.inl ⟨.inl (.inl h1),fun l hl=>?_⟩⟩;have sm:Same H (upd H l (.tup vs)):=dX hl
  refine k _ m _ _ q (ok.ext sm) (ok.grow sm) ?_;simp only[RD,RP];exact⟨l,vs,rfl,.inl (.inl dR),RPs.ext (ok.ext sm) _ _ h2⟩
 ·exact h.elim
end
def chkB(scope:Scope)(env:Env):Bool:=scope.names.all fun y=>(decide (y.2≠.cell))&&(!decide (y.2=.local)||decide (scope.names.lookup y.1=some .local))&&(!decide (y.2=.free)||decide (env.kindOf y.1=some .cell)||decide (env.kindOf y.1=some .free))
def chkS(N:List Str)(scope:Scope)(env:Env):List Str->List (Option Nat)->Bool
 | [],[]=>true
 | x::xs,o::os=>(match o with | none=>true | some j=>decide (N[j]?=some x)&&decide ((x,NameKind.free)∈scope.names)&&(decide ((relabel scope env).names.lookup x=some .cell)||decide ((relabel scope env).names.lookup x=some .free)))&&chkS N scope env xs os
 | _,_=>false
theorem chkB.ok{scope:Scope}{env:Env}(h:chkB scope env=true):(∀ y∈scope.names,y.2≠.cell)/\(∀ y∈scope.names,y.2=.local->scope.names.lookup y.1=some .local)/\∀ x,(x,NameKind.free)∈scope.names->env.kindOf x=some .cell\/env.kindOf x=some .free:=by
 unfold chkB at h;rw[List.all_eq_true]at h;have q:∀ y∈scope.names,y.2≠.cell/\(y.2=.local->scope.names.lookup y.1=some .local)/\(y.2=.free->env.kindOf y.1=some .cell\/env.kindOf y.1=some .free):=fun y hy=>by
  have:=h y hy
  simp only[Bool.and_eq_true,Bool.or_eq_true,Bool.not_eq_true',decide_eq_true_eq,decide_eq_false_iff_not]at this;obtain⟨⟨a,b⟩,c⟩:=this;refine⟨a,fun e=>b.resolve_left (fun n=>n e),fun e=>?_⟩;rcases c with (c | c) | c
  ·exact absurd e c
  ·exact .inl c
  ·exact .inr c
 exact⟨fun y hy=>(q y hy).1,fun y hy=>(q y hy).2.1,fun x hx=>(q _ hx).2.2 rfl⟩
theorem chkS.ok{X:Cx}{scope:Scope}:∀ {NC:List Str} {src:List (Option Nat)},chkS X.N scope X.env NC src=true->vO X scope NC src
 | [],[],_=>⟨rfl,fun i x j h=>by simp at h⟩
 | [],_::_,h=>by simp[chkS]at h
 | _::_,[],h=>by simp[chkS]at h
 | y::ys,o::os,h=>by
  simp only[chkS,Bool.and_eq_true]at h;obtain⟨h1,h2⟩:=h;obtain⟨q1,q2⟩:=chkS.ok h2;refine⟨by rw[List.length_cons,List.length_cons,q1],fun i x j e1 e2=>?_⟩
  cases i with
  | zero =>
   simp at e1 e2;subst e1 e2;simp only[Bool.and_eq_true,Bool.or_eq_true,decide_eq_true_eq]at h1;exact⟨h1.1.1,h1.1.2,h1.2⟩
  | succ i=>exact q2 i x j (by simpa using e1) (by simpa using e2)
section
variable {X:Cx}{tg iter elt:Expr}{ifs:List Expr}{scope:Scope}{fi:DI}{g:DG}{t:DT}{f:DE}{pos:Pos}
theorem JD(NC:List Str)(src:List (Option Nat))(hc:X.calm=true)(hi:PI X tg iter (LI X.K fi))
  (hg:∀ cl C s2 H2 pins fp,PG (bU X scope cl C NC s2 H2 pins fp) tg (LG X.K g)) (ht:∀ cl C s2 H2 pins fp,PF (bU X scope cl C NC s2 H2 pins fp) ifs (LT X.K t)) (he:∀ cl C s2 H2 pins fp,PE (bU X scope cl C NC s2 H2 pins fp) elt (LE X.K f))
  (hkind:scope.kind=.function:=by rfl) (hB:chkB scope X.env=true:=by rfl) (hS:chkS X.N scope X.env NC src=true:=by rfl)
  (hs:∀ x,foldedSetIterable iter X.env x=pure x:=by intro _;rfl):PE X (.ListComp elt [⟨tg,iter,ifs,0⟩] scope pos) (LE X.K (eN src fi g t f)) :=
 UH (NC:=NC) src hc hi hg ht he hkind (chkB.ok hB).1 (chkB.ok hB).2.1 (chkB.ok hB).2.2 (chkS.ok hS) hs
theorem JU(i:Nat){y:Str}{py spos:Pos}(NC:List Str)(src:List (Option Nat))(hc:X.calm=true)(hN:X.N.Nodup)(hi:PI X tg iter (LI X.K fi))
  (hg:∀ cl C s2 H2 pins fp,PG (bU X scope cl C NC s2 H2 pins fp) tg (LG X.K g)) (ht:∀ cl C s2 H2 pins fp,PF (bU X scope cl C NC s2 H2 pins fp) ifs (LT X.K t)) (he:∀ cl C s2 H2 pins fp,PE (bU X scope cl C NC s2 H2 pins fp) elt (LE X.K f))
  (hkind:scope.kind=.function:=by rfl) (hB:chkB scope X.env=true:=by rfl) (hS:chkS X.N scope X.env NC src=true:=by rfl)
  (hi2:X.N[i]?=some y:=by rfl) (hx:jG X.env.scope y:=by first | exact Or.inl rfl | exact Or.inr rfl) (hf:X.fn y=true\/X.env.scope.names.lookup y=some .local:=by first | exact .inl rfl | exact .inr rfl)
  (hsw:swapsWith (.ListComp elt [⟨tg,iter,ifs,0⟩] scope pos) (some (.Name y py)) spos.line X.env=pure true:=by rfl)
  (hs:∀ x,foldedSetIterable iter X.env x=pure x:=by intro _;rfl):PS X (.Assign [.Name y py] (.ListComp elt [⟨tg,iter,ifs,0⟩] scope pos) spos) (LS X.K (aY i (eN src fi g t f))) :=
 VR (NC:=NC) i src hc hi hg ht he hkind (chkB.ok hB).1 (chkB.ok hB).2.1 (chkB.ok hB).2.2 (chkS.ok hS) hN hi2 hx hf hsw hs
end
section
variable {prog:Program}{w:World}{A:Around}{R:Result->Shared->Prop}{s:Shared}
theorem SL(elt tg iter tg2 iter2:Expr)(ifs ifs2:List Expr)(scope:Scope)(pos:Pos)(it acc:Value)(env:Env) :
  compTurn (.ListComp elt [⟨tg,iter,ifs,0⟩,⟨tg2,iter2,ifs2,0⟩] scope pos) 0 it acc env=(do
   standAt iter.pos
   match <- pyNext it with
   | none=>pure (.done .next)
   | some v =>
    letOwnedTupleGo tg it v
    assign tg env v
    let mut ok:=true
    for c in ifs do
     if ok then ok <- isTrue c env (eval c env)
    if ok then
     let x <- eval iter2 env
     standAt iter2.pos
     let x <- foldedSetIterable iter2 env x
     let _ <- runOwn (.compStart (.ListComp elt [⟨tg,iter,ifs,0⟩,⟨tg2,iter2,ifs2,0⟩] scope pos) 1 (<- holding [x] (pyIter x)) acc env) env
    again (.compLoop (.ListComp elt [⟨tg,iter,ifs,0⟩,⟨tg2,iter2,ifs2,0⟩] scope pos) 0 it acc env)):=by rfl
theorem IW(elt tg iter tg2 iter2:Expr)(ifs ifs2:List Expr)(scope:Scope)(pos:Pos)(it acc:Value)(env:Env) :
  compTurn (.ListComp elt [⟨tg,iter,ifs,0⟩,⟨tg2,iter2,ifs2,0⟩] scope pos) 1 it acc env=(do
   standAt iter2.pos
   match <- pyNext it with
   | none=>pure (.done .next)
   | some v =>
    letOwnedTupleGo tg2 it v
    assign tg2 env v
    let mut ok:=true
    for c in ifs2 do
     if ok then ok <- isTrue c env (eval c env)
    if ok then
     (do let _ <- call (.builtin "list.append") [acc,<- eval elt env])
    again (.compLoop (.ListComp elt [⟨tg,iter,ifs,0⟩,⟨tg2,iter2,ifs2,0⟩] scope pos) 1 it acc env)):=by rfl
theorem Y3{elt tg iter tg2 iter2:Expr}{ifs ifs2:List Expr}{scope:Scope}{pos:Pos}{it acc:Value}{env:Env}
  (h0:codeAny (model prog w) A (.compLoop (.ListComp elt [⟨tg,iter,ifs,0⟩,⟨tg2,iter2,ifs2,0⟩] scope pos) 1 it acc env) R s)
  (h:wpAny (model prog w) A (pyIter it) (fun it' s'=>codeAny (model prog w) A (.compLoop (.ListComp elt [⟨tg,iter,ifs,0⟩,⟨tg2,iter2,ifs2,0⟩] scope pos) 1 it' acc env) R s')
   (notedBy (model prog w) A env fun x s'=>R (.error x) s') s) :
  codeAny (model prog w) A (.compStart (.ListComp elt [⟨tg,iter,ifs,0⟩,⟨tg2,iter2,ifs2,0⟩] scope pos) 1 it acc env) R s:=by
 refine codeAny_of_tree ?_;show wpAny _ _ ((compStart (.ListComp elt [⟨tg,iter,ifs,0⟩,⟨tg2,iter2,ifs2,0⟩] scope pos) 1 it acc env).onRaise (fun x=>do noteFrame x env;standAt theWindowsPlace)) _ _ s
 refine wpAny_notedAt ?_;unfold compStart;show wpAny _ _ (ask>>=_) _ _ s
 refine wpAny_bind (wpAny_askSetting (wpAny_ite ?_))
 split
 ·first
   | exact wpAny_bind (wpAny_pure (wpAny_pure (And.intro rfl h0)))
   | exact wpAny_pure (And.intro rfl h0)
 ·first
   | exact wpAny_bind (wpAny_rule (wpAny_bind (wpAny_standAt (wpAny_bind (wpAny_mono h (fun it' s' h'=>wpAny_pure (And.intro rfl h')) fun _ _ x=>x)))))
   | (refine wpAny_bind (wpAny_rule ?_);show wpAny _ _ (standAt iter2.pos>>=_) _ _ s;exact wpAny_bind (wpAny_standAt (wpAny_bind (wpAny_mono h (fun it' s' h'=>wpAny_pure (And.intro rfl h')) fun _ _ x=>x))))
theorem HI{elt tg iter tg2 iter2:Expr}{ifs ifs2:List Expr}{scope:Scope}{pos:Pos}{it acc:Value}{env:Env}(I:Nat->Shared->Prop)(hs:∀ x,foldedSetIterable iter2 env x=pure x)
  (turn:∀ n s,I n s->wpAny (model prog w) A (pyNext it) (fun r s₁=>match r with
   | none=>R (.ok .next) s₁
   | some v=>wpAny (model prog w) A (letOwnedTupleGo tg it v) (fun _ s₀=>wpAny (model prog w) A (assign tg env v) (fun _ s₂ =>
     wpAny (model prog w) A (forIn ifs true fun c r=>if r=true then do let ok <- isTrue c env (eval c env);pure (ForInStep.yield ok) else pure (ForInStep.yield r)) (fun ok s₃ =>
      if ok=true then wpAny (model prog w) A (eval iter2 env) (fun x s₄ =>
       wpAny (model prog w) A (pyIter x) (fun it2 s₅=>codeAny (model prog w) A (.compStart (.ListComp elt [⟨tg,iter,ifs,0⟩,⟨tg2,iter2,ifs2,0⟩] scope pos) 1 it2 acc env) (fun r s₆=>r=.ok .next/\∃ m,m<n/\I m s₆) s₅) (fun _ _=>False) s₄) (fun _ _=>False) s₃
      else ∃ m,m<n/\I m s₃) (fun _ _=>False) s₂) (fun _ _=>False) s₀) (fun _ _=>False) s₁) (fun _ _=>False) s)
  (n:Nat) (h:I n s) :
  codeAny (model prog w) A (.compLoop (.ListComp elt [⟨tg,iter,ifs,0⟩,⟨tg2,iter2,ifs2,0⟩] scope pos) 0 it acc env) R s:=by
 have ff:∀ {E:Value->Shared->Prop} (x:Value) (s:Shared),False->E x s:=fun _ _ z=>z.elim
 refine codeAny_loop rfl I (fun n s hI=>?_) n h;show wpAny _ A ((compTurn (.ListComp elt [⟨tg,iter,ifs,0⟩,⟨tg2,iter2,ifs2,0⟩] scope pos) 0 it acc env).onRaise (fun x=>do noteFrame x env;theTreesLotGoes x)) _ _ s
 refine wpAny_noted ?_;rw[SL];refine wpAny_bind (wpAny_standAt (wpAny_bind (wpAny_mono (turn n s hI) (fun r s₁ h₁=>?_) ff)))
 cases r with
 | none=>exact wpAny_pure h₁
 | some v =>
  refine wpAny_bind (wpAny_mono h₁ (fun _ s₀ h₀=>?_) ff);refine wpAny_bind (wpAny_mono h₀ (fun _ s₂ h₂=>wpAny_bind (wpAny_mono h₂ (fun ok s₃ h₃=>?_) ff)) ff)
  cases ok with
  | true =>
   simp only[if_true]at h₃ ⊢;refine wpAny_bind (wpAny_mono h₃ (fun x s₄ h₄=>?_) ff);refine wpAny_bind (wpAny_standAt (wpAny_bind (wpAny_of_eq (hs x) ?_)));refine wpAny_bind (wpAny_holding (wpAny_mono h₄ (fun it2 s₅ h₅=>?_) ff));refine wpAny_bind (wpAny_runOwn (codeAny_mono h₅ fun r s₆ ⟨hr,h₆⟩=>?_));subst hr;exact wpAny_pure ⟨rfl,h₆⟩
  | false =>
   simp only[Bool.false_eq_true,if_false]at h₃ ⊢;exact wpAny_pure ⟨rfl,h₃⟩
theorem U2{elt tg iter tg2 iter2:Expr}{ifs ifs2:List Expr}{scope:Scope}{pos:Pos}{it acc:Value}{env:Env}{E:Value->Shared->Prop}(hE:∀ x s,E x s->False)(I:Nat->Shared->Prop)
  (turn:∀ n s,I n s->wpAny (model prog w) A (pyNext it) (fun r s₁=>match r with
   | none=>R (.ok .next) s₁
   | some v=>wpAny (model prog w) A (letOwnedTupleGo tg2 it v) (fun _ s₀=>wpAny (model prog w) A (assign tg2 env v) (fun _ s₂ =>
     wpAny (model prog w) A (forIn ifs2 true fun c r=>if r=true then do let ok <- isTrue c env (eval c env);pure (ForInStep.yield ok) else pure (ForInStep.yield r)) (fun ok s₃ =>
      if ok=true then wpAny (model prog w) A (eval elt env) (fun x s₄ =>
       wpAny (model prog w) A (call (.builtin "list.append") [acc,x]) (fun _ s₅=>∃ m,m<n/\I m s₅) E s₄) E s₃
      else ∃ m,m<n/\I m s₃) E s₂) E s₀) E s₁) E s)
  (n:Nat) (h:I n s) :
  codeAny (model prog w) A (.compLoop (.ListComp elt [⟨tg,iter,ifs,0⟩,⟨tg2,iter2,ifs2,0⟩] scope pos) 1 it acc env) R s:=by
 have ff:∀ {E':Value->Shared->Prop} (x:Value) (s:Shared),E x s->E' x s:=fun x s z=>(hE x s z).elim
 refine codeAny_loop rfl I (fun n s hI=>?_) n h;show wpAny _ A ((compTurn (.ListComp elt [⟨tg,iter,ifs,0⟩,⟨tg2,iter2,ifs2,0⟩] scope pos) 1 it acc env).onRaise (fun x=>do noteFrame x env;theTreesLotGoes x)) _ _ s
 refine wpAny_noted ?_;rw[IW];refine wpAny_bind (wpAny_standAt (wpAny_bind (wpAny_mono (turn n s hI) (fun r s₁ h₁=>?_) ff)))
 cases r with
 | none=>exact wpAny_pure h₁
 | some v =>
  refine wpAny_bind (wpAny_mono h₁ (fun _ s₀ h₀=>?_) ff);refine wpAny_bind (wpAny_mono h₀ (fun _ s₂ h₂=>wpAny_bind (wpAny_mono h₂ (fun ok s₃ h₃=>?_) ff)) ff)
  cases ok with
  | true =>
   simp only[if_true]at h₃ ⊢;refine wpAny_bind (wpAny_bind (wpAny_mono h₃ (fun x s₄ h₄=>wpAny_bind (wpAny_mono h₄ (fun _ s₅ h₅=>wpAny_pure (wpAny_pure ⟨rfl,h₅⟩)) ff)) ff))
  | false =>
   simp only[Bool.false_eq_true,if_false]at h₃ ⊢;exact wpAny_pure ⟨rfl,h₃⟩
end
abbrev Cg:=D->List PyData->bZ->Mu->(List PyData->bZ->Mu->Prop)->Prop
def dJ(st:Cg):List D->List PyData->bZ->Mu->(List PyData->bZ->Mu->Prop)->Prop
 | [],acc,d,m,Q=>Q acc d m
 | x::xs,acc,d,m,Q=>st x acc d m fun acc' d' m'=>dJ st xs acc' d' m' Q
def stepI(g:DG)(t:DT)(f:DE):Cg:=fun x acc d m Q=>g x d m fun d1 m1=>t d1 m1 fun b m2=>if b=true then f d1 m2 fun y m3=>∃ p,y=.dat p/\acc.length<sizeLine/\Q (acc++[p]) d1 m3 else Q acc d1 m2
def iE(g:DG)(t:DT)(fi2:DI)(st:Cg):Cg:=fun x acc d m Q=>g x d m fun d1 m1=>t d1 m1 fun b m2=>if b=true then fi2 d1 m2 fun ys m3=>dJ st ys acc d1 m3 Q else Q acc d1 m2
@[simp] def Ci(src:List (Option Nat))(fi:DI)(g:DG)(t:DT)(fi2:DI)(g2:DG)(t2:DT)(f:DE):DE:=fun d m Q=>fi d m fun xs m1=>dJ (iE g t fi2 (stepI g2 t2 f)) xs [] (cV src d) m1 fun ps _ m2=>Q (.dat (.list ps)) m2
structure ExtW (K:PySem.W.Frag) (Z:Addr->Prop) (D:Addr) (m:Mu) (H:Hp) (m':Mu) (H':Hp):Prop where
 t:∀ a vs,SqT K H a vs->SqT K H' a vs
 l:∀ a vs,(m a=none/\¬ bI Z D a)->SqL K H a vs->m' a=none/\SqL K H' a vs
 z:∀ a,Z a->H' a=H a
 c:∀ a,(m a).isSome=true->(m' a).isSome=true
 fz:∀ a o u,H a=some (.frz o u)->H' a=some (.frz o u)
 fm:∀ a,Ae (m a)=true->m' a=m a
section
variable {K:PySem.W.Frag}{Z:Addr->Prop}{m m1 m' m2:Mu}{H H1 H' H2:Hp}{D:Addr}{ys zs:List V}
theorem ExtW.refl:ExtW K Z D m H m H:=⟨fun _ _ h=>h,fun _ _ h1 h2=>⟨h1.1,h2⟩,fun _ _=>rfl,fun _ h=>h,fun _ _ _ h=>h,fun _ _=>rfl⟩
theorem ExtW.y(e:ExtW K Z D m H m' H'):ExtY K (bI Z D) m H m' H':=⟨e.t,e.l,e.fz⟩
theorem ExtW.trans(a:ExtW K Z D m H m' H')(b:ExtW K Z D m' H' m2 H2):ExtW K Z D m H m2 H2 :=
 ⟨fun x vs h=>b.t x vs (a.t x vs h),fun x vs h1 h2=>let ⟨q1,q2⟩:=a.l x vs h1 h2;b.l x vs ⟨q1,h1.2⟩ q2,fun x h=>(b.z x h).trans (a.z x h),fun x h=>b.c x (a.c x h),fun x o u h=>b.fz x o u (a.fz x o u h),fun x h=>by
  have q:=a.fm x h
  rw[b.fm x (by rw[q];exact h),q]⟩
theorem Ext.w(e:Ext K (bI Z D) m H m' H'):ExtW K Z D m H m' H':=⟨e.t,e.l,fun a h=>e.z a (.inl h),e.c,e.fz,e.fm⟩
theorem ExtW.put(hz:¬ Z D)(hD:H D=some (.lst ys)):ExtW K Z D m H m (upd H D (.lst zs)) :=
 ⟨vZ hD,fun a vs h1 h2=>⟨h1.1,Mz (fun e=>h1.2 (.inr e)) h2⟩,fun a h=>by
  have ne:a≠D:=by rintro rfl;exact hz h
  rw[cW ne],fun _ h=>h,fun a o u h=>by
  rw[cW (by rintro rfl;rw[hD]at h;cases h)]
  exact h,fun _ _=>rfl⟩
theorem ExtW.rd{x:DL.D}{v:V}(e:ExtW K Z D m H m' H')(h:RD K (bI Z D) m H x v):RD K (bI Z D) m' H' x v:=by
 cases x with
 | dat p=>exact RP.tr e.t (fun a vs h1 h2=>let ⟨q1,q2⟩:=e.l a vs h1 h2;⟨⟨q1,h1.2⟩,q2⟩) p v h
 | cel a=>exact⟨h.1,e.c a h.2⟩
theorem P5(e:Ext K Z m1 H1 m H)(hD:H1 D=none)(hk:K.lookup D=none)(e2:ExtW K Z D m H m' H'):Ext K Z m1 H1 m' H' :=
 ⟨fun a vs h=>e2.t a vs (e.t a vs h),fun a vs h1 h2=>let ⟨q1,q2⟩:=e.l a vs h1 h2;e2.l a vs ⟨q1,fun z=>z.elim h1.2 (SqL.ne hD hk h2)⟩ q2,fun a h=>(e2.z a h).trans (e.z a h),fun a h=>e2.c a (e.c a h),fun a o u h=>e2.fz a o u (e.fz a o u h),fun a h=>by
  have q:=e.fm a h
  rw[e2.fm a (by rw[q];exact h),q]⟩
end
section
variable {Y:Cx}{tg iter tg2 iter2 elt:Expr}{ifs ifs2:List Expr}{scope:Scope}{fi2:DI}{g2:DG}{t2:DT}{f:DE}{pos:Pos}
theorem UD(hc:Y.calm=true)(hx:∀ x s,Y.xe x s->False)(hi:PI Y tg2 iter2 (LI Y.K fi2))(hg:PG Y tg2 (LG Y.K g2))(ht:PF Y ifs2 (LT Y.K t2))(he:PE Y elt (LE Y.K f))
  {pins:List (Addr×Obj)} {s:Shared} {σ:L2.St} {H:Hp} {Z:Addr->Prop} {D:Addr} {acc:List PyData} {ys:List V} {d:bZ} {m:Mu} {Q:List PyData->bZ->Mu->Prop}
  (I:Inv Y pins σ H s) (hz:¬ Z D) (hD:H D=some (.lst ys)) (racc:RPs Y.K (bI Z D) m H acc ys) (ok:Ok Y.K (bI Z D) m H) (rs:RS Y.K (bI Z D) m H d σ) (h:fi2 d m fun xs m1=>dJ (stepI g2 t2 f) xs acc d m1 Q) :
  wpAny (model Y.prog Y.w) Y.A (eval iter2 Y.env) (fun x s4=>wpAny (model Y.prog Y.w) Y.A (pyIter x) (fun it2 s5=>codeAny (model Y.prog Y.w) Y.A (.compStart (.ListComp elt [⟨tg,iter,ifs,0⟩,⟨tg2,iter2,ifs2,0⟩] scope pos) 1 it2 (.ref D) Y.env)
   (fun r s6=>r=.ok .next/\∃ σ' H' ys' acc' d' m',Inv Y pins σ' H' s6/\H' D=some (.lst ys')/\RPs Y.K (bI Z D) m' H' acc' ys'/\ExtW Y.K Z D m H m' H'/\Ok Y.K (bI Z D) m' H'/\RS Y.K (bI Z D) m' H' d' σ'/\Q acc' d' m') s5) Y.xe s4) Y.xe s:=by
 refine aZ (hi pins s σ H (fun J H1=>∃ xs m1,Ext Y.K (bI Z D) m H m1 H1/\Ok Y.K (bI Z D) m1 H1/\pN Y.K (bI Z D) m1 H1 xs J/\dJ (stepI g2 t2 f) xs acc d m1 Q) I
  ⟨bI Z D,d,m,_,ok,rs,h,fun xs m1 H1 J q e1 ok1 y1=>⟨xs,m1,e1,ok1,y1,q⟩⟩) fun xv s₁ h₁=>aZ h₁ fun itv s₂ h₂=>?_
 obtain⟨it,fp,tn,J,H2,eit,I2,T,st2,f2,xs,m1,e1,ok1,yl,lp⟩:=h₂;subst eit;have hD2:H2 D=some (.lst ys):=(e1.z _ (.inr rfl)).trans hD
 have stat:∀ {H':Hp},(∀ b∈fp,H' b=none)->∀ b∈fp,fY Y pins H' b:=fun hn b hb=>⟨hn b hb,(f2 b hb).2⟩
 have loop:codeAny (model Y.prog Y.w) Y.A (.compLoop (.ListComp elt [⟨tg,iter,ifs,0⟩,⟨tg2,iter2,ifs2,0⟩] scope pos) 1 (.ref it) (.ref D) Y.env)
   (fun r s6=>r=.ok .next/\∃ σ' H' ys' acc' d' m',Inv Y pins σ' H' s6/\H' D=some (.lst ys')/\RPs Y.K (bI Z D) m' H' acc' ys'/\ExtW Y.K Z D m H m' H'/\Ok Y.K (bI Z D) m' H'/\RS Y.K (bI Z D) m' H' d' σ'/\Q acc' d' m') s₂:=by
  refine U2 hx (fun n s'=>∃ (i:Nat) (ys:List V) (acc:List PyData) (d':bZ) (m':Mu) (σ':L2.St) (H':Hp),n=xs.length-i/\i<=xs.length/\Inv Y pins σ' H' s'/\tn i s'.heap/\(∀ b∈fp,H' b=none) /\
   H' D=some (.lst ys)/\RPs Y.K (bI Z D) m' H' acc ys/\ExtW Y.K Z D m1 H2 m' H'/\Ok Y.K (bI Z D) m' H'/\RS Y.K (bI Z D) m' H' d' σ' /\
   dJ (stepI g2 t2 f) (xs.drop i) acc d' m' Q) ?_ xs.length ⟨0,ys,acc,d,m1,σ,H2,by simp,Nat.zero_le _,I2,st2,fun b hb=>(f2 b hb).1,hD2,RPs.ext e1 _ _ racc,ExtW.refl,ok1,rs.ext e1,by simpa using lp⟩
  rintro n s4 ⟨i,ys,acc,d',m',σ',H',rfl,hi',I5,st5,fr5,hDy,racc,eX,ok5,rs5,lp5⟩;obtain⟨y1,y2⟩:=yl m' H' eX.y
  by_cases hlt:i<xs.length
  ·rw[List.drop_eq_getElem_cons hlt]at lp5;obtain⟨go,yd⟩:=y1 i xs[i] (List.getElem?_eq_getElem hlt);refine aZ (T.item Y rfl rfl rfl hc i pins s4 σ' H' Y.xe I5 (stat fr5) st5 go) fun r s5 hq0=>?_;obtain⟨u,hr,h5⟩:=hq0;subst hr;refine aZ h5 fun _ s6 hq0=>?_;obtain⟨x,H6,I6,r6,yy,st6,fr6⟩:=hq0;have yy':=yd x H6 yy
   have e56:Ext Y.K (bI Z D) m' H' m' H6:=ok5.ext yy'.same
   have rv:=yy'.rd (fun d v h=>eX.rd h) ok5
   have hDy:=yy'.same _ _ hDy
   have racc:=RPs.ext e56 _ _ racc
   have eX:=eX.trans e56.w
   have rs5:=rs5.ext e56
   have ok5:=ok5.grow yy'.same
   have I6':=I6.pinned (stat fr6) (T.obj _ _ st6)
   have over:∀ {s7:Shared} {σ7:L2.St} {H7:Hp} {ys7:List V} {acc7:List PyData} {d7:bZ} {m7:Mu},Inv Y (pins++rF fp s6.heap) σ7 H7 s7->H7 D=some (.lst ys7)->RPs Y.K (bI Z D) m7 H7 acc7 ys7 ->
     ExtW Y.K Z D m1 H2 m7 H7->Ok Y.K (bI Z D) m7 H7->RS Y.K (bI Z D) m7 H7 d7 σ7->(dJ (stepI g2 t2 f) (xs.drop (i+1)) acc7 d7 m7 Q) ->
     ∃ n,n<xs.length-i/\∃ (i:Nat) (ys:List V) (acc:List PyData) (d':bZ) (m':Mu) (σ':L2.St) (H':Hp),n=xs.length-i/\i<=xs.length/\Inv Y pins σ' H' s7/\tn i s7.heap/\(∀ b∈fp,H' b=none) /\
      H' D=some (.lst ys)/\RPs Y.K (bI Z D) m' H' acc ys/\ExtW Y.K Z D m1 H2 m' H'/\Ok Y.K (bI Z D) m' H'/\RS Y.K (bI Z D) m' H' d' σ' /\
      dJ (stepI g2 t2 f) (xs.drop i) acc d' m' Q:=by
    intro s7 σ7 H7 ys7 acc7 d7 m7 I7 a1 a2 a3 a4 a5 a6;refine⟨xs.length-(i+1),by omega,i+1,ys7,acc7,d7,m7,σ7,H7,rfl,hlt,I7.unpinned,T.keep _ _ _ st6 fun b hb o e=>(I7.pin (b,o) (List.mem_append_right _ (List.mem_append_right _ (mY hb e)))).1,fun b hb=>?_,a1,a2,a3,a4,a5,a6⟩
    obtain⟨o,e,dd⟩:=T.obj _ _ st6 b hb;exact(I7.pin (b,o) (List.mem_append_right _ (List.mem_append_right _ (mY hb e)))).2.1
   refine aZ (hg _ s6 σ' _ x u (fun σ7 H7=>∃ d7 m7,Ext Y.K (bI Z D) m' H6 m7 H7/\Ok Y.K (bI Z D) m7 H7/\RS Y.K (bI Z D) m7 H7 d7 σ7 /\
    t2 d7 m7 fun b m2=>if b=true then f d7 m2 fun y m3=>∃ p,y=.dat p/\acc.length<sizeLine/\dJ (stepI g2 t2 f) (xs.drop (i+1)) (acc++[p]) d7 m3 Q else dJ (stepI g2 t2 f) (xs.drop (i+1)) acc d7 m2 Q) I6' r6
    ⟨_,xs[i],d',m',_,ok5,rs5,rv,lp5,fun d7 m7 σ7 H7 q7 e7 ok7 rs7=>⟨d7,m7,e7,ok7,rs7,q7⟩⟩) fun _ s7 hq0=>?_
   obtain⟨σ7,H7,I7,d7,m7,e7,ok7,rs7,q7⟩:=hq0;refine aZ (ht _ s7 σ7 H7 (fun b H8=>∃ m8,Ext Y.K (bI Z D) m7 H7 m8 H8/\Ok Y.K (bI Z D) m8 H8 /\
    if b=true then f d7 m8 fun y m3=>∃ p,y=.dat p/\acc.length<sizeLine/\dJ (stepI g2 t2 f) (xs.drop (i+1)) (acc++[p]) d7 m3 Q else dJ (stepI g2 t2 f) (xs.drop (i+1)) acc d7 m8 Q) I7
    ⟨_,d7,m7,_,ok7,rs7,q7,fun b m8 H8 q8 e8 ok8=>⟨m8,e8,ok8,q8⟩⟩) fun b s8 hq0=>?_
   obtain⟨H8,I8,m8,e8,ok8,q8⟩:=hq0;have e68:=e7.trans e8
   have hD8:H8 D=some (.lst ys):=(e68.z _ (.inr rfl)).trans hDy
   cases b with
   | false =>
    rw[if_neg Bool.false_ne_true]at q8;exact over I8 hD8 (RPs.ext e68 _ _ racc) (eX.trans e68.w) ok8 (rs7.ext e8) q8
   | true =>
    rw[if_pos rfl]at q8;refine aZ (he _ s8 σ7 H8 (fun v H9=>∃ p m9,RP Y.K (bI Z D) m9 H9 p v/\Ext Y.K (bI Z D) m8 H8 m9 H9/\Ok Y.K (bI Z D) m9 H9/\acc.length<sizeLine/\dJ (stepI g2 t2 f) (xs.drop (i+1)) (acc++[p]) d7 m9 Q) I8
     ⟨_,d7,m8,_,ok8,rs7.ext e8,q8,fun y m9 v H9 hq1 e9 ok9 r9=>by
      obtain⟨p,ey,hz,q9⟩:=hq1;subst ey;exact⟨p,m9,r9,e9,ok9,hz,q9⟩⟩) fun yv s9 hq0=>?_
    obtain⟨y,H9,I9,ry,p,m9,rp9,e9,ok9,hz9,q9⟩:=hq0;have e69:=e68.trans e9
    have hD9:H9 D=some (.lst ys):=(e69.z _ (.inr rfl)).trans hDy
    have racc9:=RPs.ext e69 _ _ racc
    have rs9:=(rs7.ext e8).ext e9
    refine aZ (Pd _ s9 σ7 H9 (.ref D) [y] (.ref D) [yv] (fun v H10=>H10=upd H9 D (.lst (ys++[y]))) I9 rfl (.cons ry .nil) ⟨_,ys,y,rfl,rfl,hD9,by rw[racc9.length];exact hz9,rfl⟩) fun rv s10 hq0=>?_
    obtain⟨v10,H10,I10,_,e10⟩:=hq0;subst e10;refine over I10 dR ?_ ((eX.trans e69.w).trans (ExtW.put hz hD9)) (E8 ok9 hD9) ⟨rs9.1,fun j z hj=>?_⟩ q9
    ·exact RPs.tr (vZ hD9) Cc _ _ (racc9.append (by simp only[RPs];exact⟨y,[],rfl,rp9,rfl⟩))
    ·obtain⟨v,a1,a2⟩:=rs9.2 j z hj;exact⟨v,a1,Wv hD9 a2⟩
  ·have e:i=xs.length:=by omega
   subst e;rw[List.drop_length]at lp5;refine aZ (T.done Y rfl rfl rfl hc _ pins s4 σ' H' Y.xe I5 (stat fr5) st5 y2) fun r s5 hq0=>?_;obtain⟨hr,I6⟩:=hq0;subst hr;exact⟨rfl,σ',H',ys,acc,d',m',I6,hDy,racc,(e1.w).trans eX,ok5,rs5,lp5⟩
 exact Y3 loop (T.self _ 0 _ _ _ st2 loop)
end
section
variable {X:Cx}{tg iter tg2 iter2 elt:Expr}{ifs ifs2:List Expr}{scope:Scope}{NC:List Str}{fi fi2:DI}{g g2:DG}{t t2:DT}{f:DE}{pos:Pos}
theorem AG(src:List (Option Nat))(hc:X.calm=true)(hi:PI X tg iter (LI X.K fi))
  (hg:∀ cl C s2 H2 pins fp,PG (bU X scope cl C NC s2 H2 pins fp) tg (LG X.K g)) (ht:∀ cl C s2 H2 pins fp,PF (bU X scope cl C NC s2 H2 pins fp) ifs (LT X.K t)) (hi2:∀ cl C s2 H2 pins fp,PI (bU X scope cl C NC s2 H2 pins fp) tg2 iter2 (LI X.K fi2)) (hg2:∀ cl C s2 H2 pins fp,PG (bU X scope cl C NC s2 H2 pins fp) tg2 (LG X.K g2)) (ht2:∀ cl C s2 H2 pins fp,PF (bU X scope cl C NC s2 H2 pins fp) ifs2 (LT X.K t2))
  (he:∀ cl C s2 H2 pins fp,PE (bU X scope cl C NC s2 H2 pins fp) elt (LE X.K f)) (hs2:∀ cl C x,foldedSetIterable iter2 (compEnvC scope cl C X.env) x=pure x)
  (hkind:scope.kind=.function) (hcell:∀ y∈scope.names,y.2≠.cell) (hnames:∀ y∈scope.names,y.2=.local->scope.names.lookup y.1=some .local)
  (hfree:∀ x,(x,NameKind.free)∈scope.names->X.env.kindOf x=some .cell\/X.env.kindOf x=some .free) (hsrc:vO X scope NC src)
  (hs:∀ x,foldedSetIterable iter X.env x=pure x) {use:Option (Value->Sem Unit)} {QQ:Value->Shared->Prop} {pos':Pos} {pins:List (Addr×Obj)} {s:Shared} {σ:L2.St} {H:Hp} {Z:Addr->Prop} {d:bZ} {m:Mu} {RL:List PyData->Mu->Prop}
  (I:Inv X pins σ H s) (ok:Ok X.K Z m H) (rs:RS X.K Z m H d σ) (h:fi d m fun xs m1=>dJ (iE g t fi2 (stepI g2 t2 f)) xs [] (cV src d) m1 (fun ps _ m2=>RL ps m2))
  (fin:∀ (s5:Shared) (C D:Addr) (H':Hp) (m':Mu) (ps:List PyData),RL ps m'->Ext X.K Z m H m' H'->Ok X.K Z m' H'->RD X.K Z m' H' (.dat (.list ps)) (.ref D)->(∃ mm,s5.heap.Ns C mm)->Inv X pins σ H' s5->Off X pins H' C ->
   compPost (model X.prog X.w) X.A X.xe use QQ (.ref D) C (.ok .next) s5) :
  wpAny (model X.prog X.w) X.A (comprehension (.ListComp elt [⟨tg,iter,ifs,0⟩,⟨tg2,iter2,ifs2,0⟩] scope pos) scope X.env pos' (newList []) false (eval iter X.env) use) QQ X.xe s:=by
 obtain⟨cl,hclos,hcl1,hcl2⟩:=N3 (scope:=scope) (env:=X.env) fun x hx=>I.ok.has x (hfree x hx);refine wpAny_comprehension_free (use:=use) rfl hs hclos hkind hnames ?_;refine aZ (hi pins s σ H (fun J H1=>∃ xs m1,Ext X.K Z m H m1 H1/\Ok X.K Z m1 H1/\pN X.K Z m1 H1 xs J/\dJ (iE g t fi2 (stepI g2 t2 f)) xs [] (cV src d) m1 (fun ps _ m2=>RL ps m2)) I
  ⟨Z,d,m,_,ok,rs,h,fun xs m1 H1 J q e1 ok1 y1=>⟨xs,m1,e1,ok1,y1,q⟩⟩) fun xv s₁ h₁=>aZ h₁ fun itv s₂ h₂=>?_
 obtain⟨it,fp,tn,J,H2,eit,I2,T,st2,f2,xs,m1,e1,ok1,yl,lp⟩:=h₂;subst eit;refine wpAny_newObj_type (wpAny_newFunctionEnv hcell (by intro y hy;simp at hy) (fun h₁ hns₁ hsb₁=>?_) hkind)
 dsimp only at hns₁ hsb₁ ⊢
 generalize hH2:s₂.heap.push {cls:=.type "list",dict:=none,data:=.seq ([]:List Value).toArray}=HP at hns₁ hsb₁ ⊢
 have hC:HP.objs.size=s₂.heap.objs.size+1:=by rw[<- hH2,Heap.size_push]
 have leC:s₂.heap.objs.size<=HP.objs.size:=by rw[hC];exact Nat.le_succ _
 have old:∀ b o,s₂.heap.get? b=some o->h₁.get? b=some o:=fun b o e=>hsb₁.extBut b o (Nat.ne_of_lt (Nat.lt_of_lt_of_le (Heap.lt_size e) leC)) (Heap.get?_push_of_some _ (hH2▸Heap.get?_push_of_some _ e))
 have hacc:h₁.get? s₂.heap.objs.size=some {cls:=.type "list",data:=.seq ([]:List Value).toArray}:=hsb₁.extBut _ _ (by rw[hC];exact Nat.ne_of_lt (Nat.lt_succ_self _)) (Heap.get?_push_of_some _ (hH2▸Heap.get?_push_size _ rfl))
 have hD:H2 s₂.heap.objs.size=none:=I2.hok.fresh (Nat.le_refl _)
 have hkD:X.K.lookup s₂.heap.objs.size=none:=by
  cases e:X.K.lookup s₂.heap.objs.size with
  | none=>rfl
  | some o=>exact absurd (Heap.lt_size (I2.kIn _ o e)) (Nat.lt_irrefl _)
 have obf:∀ b∈fp,∃ o,s₂.heap.get? b=some o/\∀ v,o.data≠.cell v:=T.obj 0 _ st2
 have hσ:∀ (i:Nat) (x:Str) (v:V),NC[i]?=some x->(cV src σ)[i]?=some (some v)->mO (relabel scope X.env) x->((relabel scope X.env).names.lookup x=some .cell\/(relabel scope X.env).names.lookup x=some .free)/\(X.env.kindOf x=some .cell\/X.env.kindOf x=some .free)/\∃ j:Nat,X.N[j]?=some x/\σ[j]?=some (some v):=fun i x v h1 h2 _=>by
  obtain⟨j,q1,q2⟩:=Zq h2;obtain⟨a1,a2,a3⟩:=hsrc.2 i x j h1 q1;exact⟨a3,hfree x a2,j,a1,q2⟩
 have I4:=fun tk=>Yu (cl:=cl) (NC:=NC) (σ':=cV src σ) (tk:=tk) I2 f2 obf hkind hcell hcl1 hcl2 (by unfold cV;rw[List.length_map];exact hsrc.1.symm) hσ hC hns₁ old hacc
 have st4:tn 0 h₁:=T.keep 0 _ _ st2 fun b _ o e=>old b o e
 -- the loop
 have loop:∀ s₃:Shared,s₃={s₂ with heap:=h₁,toks:=s₂.toks+([]:List (Str×Value)).length} ->
   codeAny (model X.prog X.w) X.A (.compLoop (.ListComp elt [⟨tg,iter,ifs,0⟩,⟨tg2,iter2,ifs2,0⟩] scope pos) 0 (.ref it) (.ref s₂.heap.objs.size) (compEnvC scope cl HP.objs.size X.env))
    (compPost (model X.prog X.w) X.A X.xe use QQ (.ref s₂.heap.objs.size) HP.objs.size) s₃:=by
  rintro s₃ rfl;refine HI (hs:=fun x=>hs2 _ _ x) (fun n s'=>∃ (i:Nat) (ys:List V) (acc:List PyData) (d':bZ) (m':Mu) (σ':L2.St) (H':Hp),n=xs.length-i/\i<=xs.length/\Inv (bU X scope cl HP.objs.size NC s₂ H2 pins fp) [] σ' H' s'/\tn i s'.heap/\(∀ b∈fp,H' b=none) /\
   H' s₂.heap.objs.size=some (.lst ys)/\RPs X.K (bI Z s₂.heap.objs.size) m' H' acc ys/\Ext X.K Z m1 H2 m' H'/\Ok X.K (bI Z s₂.heap.objs.size) m' H'/\RS X.K (bI Z s₂.heap.objs.size) m' H' d' σ' /\
   dJ (iE g t fi2 (stepI g2 t2 f)) (xs.drop i) acc d' m' (fun ps _ m2=>RL ps m2)) ?_ xs.length ?_
  rotate_left
  ·have rs1:RS X.K Z m1 H2 (cV src d) (cV src σ):=Wx src (rs.ext e1)
   refine⟨0,[],[],cV src d,m1,cV src σ,_,by simp,Nat.zero_le _,I4 _,st4,fun b hb=>?_,dR,by simp[RPs],ok1.ext (dX hD),D3 ok1 hD hkD,⟨rs1.1,fun i x hx=>?_⟩,by simpa using lp⟩
   ·obtain⟨o,ho,_⟩:=obf b hb;rw[cW (Nat.ne_of_lt (Heap.lt_size ho))];exact(f2 b hb).1
   ·obtain⟨v,q1,q2⟩:=rs1.2 i x hx;exact⟨v,q1,Wu hD hkD q2⟩
  rintro n s4 ⟨i,ys,acc,d',m',σ',H',rfl,hi',I5,st5,fr5,hDy,racc,eX,ok5,rs5,lp5⟩;have stat:∀ b∈fp,fY (bU X scope cl HP.objs.size NC s₂ H2 pins fp) [] H' b:=fun b hb=>by
   obtain⟨g0,g1,g2,g3,g4,g5⟩:=f2 b hb;obtain⟨o,ho,_⟩:=obf b hb;refine⟨fr5 b hb,Nat.ne_of_lt (Nat.lt_of_lt_of_le (Heap.lt_size ho) leC),fun z=>?_,.inl hb,fun x c e=>g4 x c (hcl1 (x,c) (Db e)),fun p hp=>?_⟩
   ·rcases List.mem_cons.mp (I2.stkSub b z) with q | q
    ·exact g1 q
    ·exact g2 q
   ·rcases List.mem_append.mp hp with q | q
    ·exact g5 p q
    ·cases q
  obtain⟨y1,y2⟩:=yl m' H' eX.y
  by_cases hlt:i<xs.length
  ·rw[List.drop_eq_getElem_cons hlt]at lp5;obtain⟨go,yd⟩:=y1 i xs[i] (List.getElem?_eq_getElem hlt);refine aZ (T.item (bU X scope cl HP.objs.size NC s₂ H2 pins fp) rfl rfl rfl hc i [] s4 σ' H' (fun _ _=>False) I5 stat st5 go) fun r s5 hq0=>?_;obtain⟨u,hr,h5⟩:=hq0;subst hr;refine aZ h5 fun _ s6 hq0=>?_;obtain⟨x,H6,I6,r6,yy,st6,fr6⟩:=hq0;have yy':=yd x H6 yy
   have e56:Ext X.K (bI Z s₂.heap.objs.size) m' H' m' H6:=ok5.ext yy'.same
   have rv:=yy'.rd (fun d v h=>Zn hD hkD eX h) ok5
   have hDy:=yy'.same _ _ hDy
   have racc:=RPs.ext e56 _ _ racc
   have eX:=xP eX hD hkD e56
   have rs5:=rs5.ext e56
   have ok5:=ok5.grow yy'.same
   have stat:∀ b∈fp,fY (bU X scope cl HP.objs.size NC s₂ H2 pins fp) [] H6 b:=fun b hb=>⟨fr6 b hb,(stat b hb).2⟩
   have I6':=I6.pinned stat (T.obj _ _ st6)
   -- what stands when a turn is over
   have over:∀ {s7:Shared} {σ7:L2.St} {H7:Hp} {ys7:List V} {acc7:List PyData} {d7:bZ} {m7:Mu},Inv (bU X scope cl HP.objs.size NC s₂ H2 pins fp) ([]++rF fp s6.heap) σ7 H7 s7->H7 s₂.heap.objs.size=some (.lst ys7)->RPs X.K (bI Z s₂.heap.objs.size) m7 H7 acc7 ys7 ->
     Ext X.K Z m1 H2 m7 H7->Ok X.K (bI Z s₂.heap.objs.size) m7 H7->RS X.K (bI Z s₂.heap.objs.size) m7 H7 d7 σ7->(dJ (iE g t fi2 (stepI g2 t2 f)) (xs.drop (i+1)) acc7 d7 m7 (fun ps _ m2=>RL ps m2)) ->
     ∃ n,n<xs.length-i/\∃ (i:Nat) (ys:List V) (acc:List PyData) (d':bZ) (m':Mu) (σ':L2.St) (H':Hp),n=xs.length-i/\i<=xs.length/\Inv (bU X scope cl HP.objs.size NC s₂ H2 pins fp) [] σ' H' s7/\tn i s7.heap/\(∀ b∈fp,H' b=none) /\
      H' s₂.heap.objs.size=some (.lst ys)/\RPs X.K (bI Z s₂.heap.objs.size) m' H' acc ys/\Ext X.K Z m1 H2 m' H'/\Ok X.K (bI Z s₂.heap.objs.size) m' H'/\RS X.K (bI Z s₂.heap.objs.size) m' H' d' σ' /\
      dJ (iE g t fi2 (stepI g2 t2 f)) (xs.drop i) acc d' m' (fun ps _ m2=>RL ps m2):=by
    intro s7 σ7 H7 ys7 acc7 d7 m7 I7 a1 a2 a3 a4 a5 a6;refine⟨xs.length-(i+1),by omega,i+1,ys7,acc7,d7,m7,σ7,H7,rfl,hlt,I7.unpinned,T.keep _ _ _ st6 fun b hb o e=>(I7.pin (b,o) (List.mem_append_right _ (List.mem_append_right _ (mY hb e)))).1,fun b hb=>?_,a1,a2,a3,a4,a5,a6⟩
    obtain⟨o,e,dd⟩:=T.obj _ _ st6 b hb;exact(I7.pin (b,o) (List.mem_append_right _ (List.mem_append_right _ (mY hb e)))).2.1
   refine aZ (hg cl _ s₂ H2 pins fp _ s6 σ' _ x u (fun σ7 H7=>∃ d7 m7,Ext X.K (bI Z s₂.heap.objs.size) m' H6 m7 H7/\Ok X.K (bI Z s₂.heap.objs.size) m7 H7/\RS X.K (bI Z s₂.heap.objs.size) m7 H7 d7 σ7 /\
    t d7 m7 fun b m2=>if b=true then fi2 d7 m2 fun zs m3=>dJ (stepI g2 t2 f) zs acc d7 m3 (fun acc' d' m'=>dJ (iE g t fi2 (stepI g2 t2 f)) (xs.drop (i+1)) acc' d' m' (fun ps _ m2=>RL ps m2)) else dJ (iE g t fi2 (stepI g2 t2 f)) (xs.drop (i+1)) acc d7 m2 (fun ps _ m2=>RL ps m2)) I6' r6
    ⟨_,xs[i],d',m',_,ok5,rs5,rv,lp5,fun d7 m7 σ7 H7 q7 e7 ok7 rs7=>⟨d7,m7,e7,ok7,rs7,q7⟩⟩) fun _ s7 hq0=>?_
   obtain⟨σ7,H7,I7,d7,m7,e7,ok7,rs7,q7⟩:=hq0;refine aZ (ht cl _ s₂ H2 pins fp _ s7 σ7 H7 (fun b H8=>∃ m8,Ext X.K (bI Z s₂.heap.objs.size) m7 H7 m8 H8/\Ok X.K (bI Z s₂.heap.objs.size) m8 H8 /\
    if b=true then fi2 d7 m8 fun zs m3=>dJ (stepI g2 t2 f) zs acc d7 m3 (fun acc' d' m'=>dJ (iE g t fi2 (stepI g2 t2 f)) (xs.drop (i+1)) acc' d' m' (fun ps _ m2=>RL ps m2)) else dJ (iE g t fi2 (stepI g2 t2 f)) (xs.drop (i+1)) acc d7 m8 (fun ps _ m2=>RL ps m2)) I7
    ⟨_,d7,m7,_,ok7,rs7,q7,fun b m8 H8 q8 e8 ok8=>⟨m8,e8,ok8,q8⟩⟩) fun b s8 hq0=>?_
   obtain⟨H8,I8,m8,e8,ok8,q8⟩:=hq0;have e68:=e7.trans e8
   have hD8:H8 s₂.heap.objs.size=some (.lst ys):=(e68.z _ (.inr rfl)).trans hDy
   cases b with
   | false =>
    rw[if_neg Bool.false_ne_true]at q8;exact over I8 hD8 (RPs.ext e68 _ _ racc) (xP eX hD hkD e68) ok8 (rs7.ext e8) q8
   | true =>
    rw[if_pos rfl]at q8;rw[if_pos rfl];have nz:¬ Z s₂.heap.objs.size:=fun z=>(ok1.z _ z).2 hD
    have ic:=UD (Y:=bU X scope cl HP.objs.size NC s₂ H2 pins fp) (tg:=tg) (iter:=iter) (ifs:=ifs) (scope:=scope) (pos:=pos) hc (fun _ _ z=>z) (hi2 cl _ s₂ H2 pins fp) (hg2 cl _ s₂ H2 pins fp) (ht2 cl _ s₂ H2 pins fp) (he cl _ s₂ H2 pins fp) I8 nz hD8 (RPs.ext e68 _ _ racc) ok8 (rs7.ext e8) q8
    refine aZ ic fun xv9 s9 h9=>aZ h9 fun it9 s10 h10=>codeAny_mono h10 ?_;rintro r s11 ⟨hr,σ',H',ys',acc',d',m',I11,hD11,racc11,e11,ok11,rs11,q11⟩;exact⟨hr,over I11 hD11 racc11 (P5 (xP eX hD hkD e68) hD hkD e11) ok11 rs11 q11⟩
  ·have e:i=xs.length:=by omega
   subst e;rw[List.drop_length]at lp5;refine aZ (T.done (bU X scope cl HP.objs.size NC s₂ H2 pins fp) rfl rfl rfl hc _ [] s4 σ' H' (fun _ _=>False) I5 stat st5 y2) fun r s5 hq0=>?_;obtain⟨hr,I6⟩:=hq0;subst hr;have IX:=Ti I2 f2 I6 leC (Heap.SameBut.refl _ _)
   have nz:¬ Z s₂.heap.objs.size:=fun z=>(ok1.z _ z).2 hD
   refine fin s5 HP.objs.size s₂.heap.objs.size H' m' acc lp5 (e1.trans eX) (Ze ok5) ?_ ⟨_,I6.loc.choose_spec.1⟩ IX ⟨I6.free,Nat.ne_of_gt (Nat.lt_of_lt_of_le I2.lt leC),Nat.le_trans I2.sz leC,fun x c e=>?_,fun p hp=>?_⟩
   ·simp only[RD,RP];exact⟨_,ys,rfl,⟨(ok5.z _ (.inr rfl)).1,nz⟩,.inl (.inl hDy),RPs.tr (fun _ _ q=>q) (fun a vs q1 q2=>⟨⟨q1.1,fun z=>q1.2 (.inl z)⟩,q2⟩) _ _ racc⟩
   ·obtain⟨v,q⟩:=I2.cell x c e;exact Nat.ne_of_lt (Nat.lt_of_lt_of_le q.lt leC)
   ·exact Nat.ne_of_lt (Nat.lt_of_lt_of_le (Heap.lt_size (I2.pin p hp).1) leC)
 exact codeAny_compStart_list (loop _ rfl) (T.self _ 0 _ _ _ st4 (loop _ rfl))
theorem IQ(src:List (Option Nat))(hc:X.calm=true)(hi:PI X tg iter (LI X.K fi))
  (hg:∀ cl C s2 H2 pins fp,PG (bU X scope cl C NC s2 H2 pins fp) tg (LG X.K g)) (ht:∀ cl C s2 H2 pins fp,PF (bU X scope cl C NC s2 H2 pins fp) ifs (LT X.K t)) (hi2:∀ cl C s2 H2 pins fp,PI (bU X scope cl C NC s2 H2 pins fp) tg2 iter2 (LI X.K fi2)) (hg2:∀ cl C s2 H2 pins fp,PG (bU X scope cl C NC s2 H2 pins fp) tg2 (LG X.K g2)) (ht2:∀ cl C s2 H2 pins fp,PF (bU X scope cl C NC s2 H2 pins fp) ifs2 (LT X.K t2))
  (he:∀ cl C s2 H2 pins fp,PE (bU X scope cl C NC s2 H2 pins fp) elt (LE X.K f)) (hs2:∀ cl C x,foldedSetIterable iter2 (compEnvC scope cl C X.env) x=pure x)
  (hkind:scope.kind=.function) (hcell:∀ y∈scope.names,y.2≠.cell) (hnames:∀ y∈scope.names,y.2=.local->scope.names.lookup y.1=some .local)
  (hfree:∀ x,(x,NameKind.free)∈scope.names->X.env.kindOf x=some .cell\/X.env.kindOf x=some .free) (hsrc:vO X scope NC src)
  (hs:∀ x,foldedSetIterable iter X.env x=pure x:=by intro _;rfl) :
  PE X (.ListComp elt [⟨tg,iter,ifs,0⟩,⟨tg2,iter2,ifs2,0⟩] scope pos) (LE X.K (Ci src fi g t fi2 g2 t2 f)):=by
 intro pins s σ H Q I h;obtain⟨Z,d,m,R,ok,rs,h,k⟩:=h;rw[eval_ListComp];refine AG src hc hi hg ht hi2 hg2 ht2 he hs2 hkind hcell hnames hfree hsrc hs (use:=none) (QQ:=EP X pins σ Q) (RL:=fun ps m2=>R (.dat (.list ps)) m2) I ok rs h ?_;intro s5 C D H' m' ps q e ok' rd ⟨mm,hns⟩ I5 off;exact⟨mm,hns,fun h' hs'=>⟨.ref D,H',off.inv I5 hs',rfl,k _ m' _ H' q e ok' rd⟩⟩
theorem j5(NC:List Str)(src:List (Option Nat))(hc:X.calm=true)(hi:PI X tg iter (LI X.K fi))
  (hg:∀ cl C s2 H2 pins fp,PG (bU X scope cl C NC s2 H2 pins fp) tg (LG X.K g)) (ht:∀ cl C s2 H2 pins fp,PF (bU X scope cl C NC s2 H2 pins fp) ifs (LT X.K t))
  (hi2:∀ cl C s2 H2 pins fp,PI (bU X scope cl C NC s2 H2 pins fp) tg2 iter2 (LI X.K fi2)) (hg2:∀ cl C s2 H2 pins fp,PG (bU X scope cl C NC s2 H2 pins fp) tg2 (LG X.K g2)) (ht2:∀ cl C s2 H2 pins fp,PF (bU X scope cl C NC s2 H2 pins fp) ifs2 (LT X.K t2))
  (he:∀ cl C s2 H2 pins fp,PE (bU X scope cl C NC s2 H2 pins fp) elt (LE X.K f))
  (hkind:scope.kind=.function:=by rfl) (hB:chkB scope X.env=true:=by rfl) (hS:chkS X.N scope X.env NC src=true:=by rfl)
  (hs2:∀ cl C x,foldedSetIterable iter2 (compEnvC scope cl C X.env) x=pure x:=by intro _ _ _;rfl)
  (hs:∀ x,foldedSetIterable iter X.env x=pure x:=by intro _;rfl):PE X (.ListComp elt [⟨tg,iter,ifs,0⟩,⟨tg2,iter2,ifs2,0⟩] scope pos) (LE X.K (Ci src fi g t fi2 g2 t2 f)) :=
 IQ (NC:=NC) src hc hi hg ht hi2 hg2 ht2 he hs2 hkind (chkB.ok hB).1 (chkB.ok hB).2.1 (chkB.ok hB).2.2 (chkS.ok hS) hs
end
section
variable {X:Cx}{pins:List (Addr×Obj)}{σ:L2.St}{H:Hp}{s:Shared}{h':Heap}
theorem QD{t':Nat}{ch:List Addr}(I:Inv X pins σ H s)(k:∀ b o,b∉ch->s.heap.get? b=some o->h'.get? b=some o)(hf:∀ b∈ch,fY X pins H b):Inv X pins σ H {s with heap:=h',toks:=t'}:=by
 have nit:∀ b u,H b=some u->b∉ch:=fun b u e z=>by rw[(hf b z).1]at e;cases e
 refine I.step (g':=s.gens) (d':=s.drawn) (ch:=ch) (fun b hb=>?_) (fun b o _ _ hc e _=>k b o hc e) (fun b o _ _ hc e _=>⟨o.slots,k b o hc e⟩) (fun _ _ _ _ n=>n) (fun b o hc e=>⟨o,k b o hc e⟩) (fun _ _ e=>e) (fun _ _ _ e=>e) (fun b ps e=>⟨#[],by rw[e];simp⟩) (fun m hm=>?_) (fun b u e=>?_) I.bare
 ·obtain⟨_,f1,_,f3,f4,f5⟩:=hf b hb;exact⟨f3,f1,f4,f5⟩
 ·obtain⟨o,es,ep,ho,r⟩:=hm;exact⟨o,es,ep,k _ o (fun z=>(hf _ z).2.1 rfl) ho,r⟩
 ·refine(I.hok b u e).stay (fun c v hc q=>k c v ?_ q) (fun _ q=>q) fun _ _ q=>q;rcases hc with z | z
  ·rw[z];exact nit b u e
  ·exact nit c _ z
end
section
variable {X:Cx}{a e o:Expr}{es:List Expr}{f g:DE}{ga:DA}{pos p p1 p2:Pos}
theorem Cz:∀ {zs:List Str} {us:List Value},Vals (zs.map V.str) us->StrsAre us zs
 | [],_,.nil=>.nil
 | z::zs,_,.cons ⟨t,e⟩ r=>by
  rw[e];exact .cons z t (Cz r)
theorem Ij:∀ {zs:List Str} {us:List Value},StrsAre us zs->Vals (zs.map V.str) us
 | _,_,.nil=>.nil
 | _,_,.cons z t r=>.cons ⟨t,rfl⟩ (Ij r)
theorem J2:bootBuiltins "sorted"=some (.builtin "sorted"):=by decide +kernel
@[simp] def Jy:DC
 | [.dat (.list ps)],m,Q=>∃ zs:List Str,ps=zs.map .str/\zs.length<64/\∀ ys:List Str,ys.Perm zs->PyProof.Rows.sortedS ys=true->Q (.dat (.list (ys.map .str))) m
 | _,_,_=>False
theorem IH:CallD X (.builtin "sorted") Jy:=by
 intro pins s σ H Z m xs ds us R Q I ok rv rd h k;unfold Jy at h
 split at h
 ·obtain⟨v,rfl,r1⟩:=rd.one;obtain⟨zs,rfl,hl,hh⟩:=h;simp only[RD,RP]at r1;obtain⟨a,vs,rfl,_,h1,h2⟩:=r1
  cases iK h2
  obtain⟨u,rfl,ru⟩:=fS rv
  cases ru
  obtain⟨its,r',pl,hz⟩:=I.list h1;have hlen:=r'.length
  rw[List.length_map]at hlen;refine sorted_strs pl.isList (Cz r') (by omega) fun out ys hS hp hs=>?_
  obtain⟨e',he⟩:=sortedAll_at s.heap its out;have hv:=Ij hS
  have hvl:=hv.length
  have hpl:=hp.length_eq
  rw[List.length_map]at hvl;have hle:s.heap.objs.size<=s.heap.objs.size+1:=Nat.le_succ _
  have I2:=I.laid (t':=s.toks) (a:=s.heap.objs.size+1) (o:=.lst (ys.map V.str)) (fun b u q=>sortedAll_old (out:=out) (vs:=its) q) hle ⟨by rw[List.length_map];have:=mV;rw[sizeLine_eq];omega,out.toList,e',hv,he⟩
  have hf:H (s.heap.objs.size+1)=none:=I.hok.fresh hle
  have sm:Same H (upd H (s.heap.objs.size+1) (.lst (ys.map V.str))):=dX hf
  refine⟨.ref _,_,I2,rfl,k _ m _ _ (hh ys hp hs) (ok.ext sm) (ok.grow sm) ?_⟩;simp only[RD,RP];exact⟨_,_,rfl,gU ok hf,.inl (.inl dR),zK ys⟩
 ·exact h.elim
def MW(K:PySem.W.Frag):V->List V->Hp->VK->Prop:=fun x xs H Q=>∃ (z:Str) (a:Addr) (zs:List Str),x=.str z/\xs=[.ref a]/\SqL K H a (zs.map V.str)/\z.length<=16/\(zs.map (·.length)).sum+zs.length<=1048576/\Q (.str (Txt.join z zs)) H
theorem CJ:MtR X "str.join" (MW X.K):=by
 intro pins s σ H x xs v us Q I rx rs ⟨z,a,zs,e1,e2,hq,h1,h2,q⟩;subst e1 e2;obtain⟨t,rfl⟩:=rx;obtain⟨u,rfl,ru⟩:=fS rs
 cases ru
 obtain⟨its,r',pl,hz⟩:=I.list hq;exact join_listW pl.isList (Cz r') h1 h2 fun t' k=>⟨.str _,H,I.tok _,⟨_,rfl⟩,q⟩
@[simp] def Me(z:Str)(g:DE):DE:=fun d m Q=>g d m fun y m1=>∃ zs:List Str,y=.dat (.list (zs.map .str))/\z.length<=16/\(zs.map (·.length)).sum+zs.length<=1048576/\Q (.dat (.str (Txt.join z zs))) m1
theorem BI{z:Str}{jc:Nat}{apos cpos:Pos}(he:PE X e (LE X.K g))
  (hbase:attributeBase (.Constant (.str z) jc p) "join" X.env (eval (.Constant (.str z) jc p) X.env)=eval (.Constant (.str z) jc p) X.env:=by rfl)
  (hfew:((backTo cpos (starEach [e] X.env)).all (fun x=>!x.1)&&(backToKw cpos (keywordEach [] X.env)).all (fun x=>x.1.isSome)&&decide ([e].length+([]:List Keyword).length+(if ([]:List Keyword).isEmpty then 0 else 1)<30))=true:=by rfl)
  (hline:(apos.endLine==cpos.line)=true:=by rfl) (hs:starEach [e] X.env=(false,eval e X.env)::starEach [] X.env:=by rfl):PE X (.Call (.Attribute (.Constant (.str z) jc p) "join" apos) [e] [] cpos) (LE X.K (Me z g)) :=
 PE.imp (Yo (T:="str") (id:="str.join") (name:="join") PySem.F.plainAttrs_str PySem.F.slot_str_join PySem.F.type_str_join CJ Uk (iV he lN hs) hbase hfew hline hs rfl) fun s H Q h=>by
  obtain⟨Z,d,m,R,ok,rs,h,k⟩:=h;refine⟨rfl,?_⟩;refine⟨Z,d,m,_,ok,rs,h,fun y m1 v H1 ⟨zs,ey,h1,h2,q⟩ e1 ok1 rd=>?_⟩;subst ey;simp only[RD,RP]at rd;obtain⟨a,vs,rfl,_,hq,hr⟩:=rd
  cases iK hr
  exact⟨z,a,zs,rfl,rfl,hq,h1,h2,k _ m1 _ H1 q e1 ok1 .ofStr⟩
theorem Hl:bootBuiltins "all"=some (.builtin "all"):=by decide +kernel
@[simp] def zX:DC
 | [.dat (.list ps)],m,Q=>∃ bs:List Bool,ps=bs.map .bool/\Q (.dat (.bool (bs.all id))) m
 | _,_,_=>False
theorem G8{K:PySem.W.Frag}{Z:Addr->Prop}{m:Mu}{H:Hp}:∀ {bs:List Bool} {vs:List V},RPs K Z m H (bs.map PyData.bool) vs->vs=bs.map V.bl
 | [],vs,h=>by simpa[RPs] using h
 | z::zs,vs,h=>by
  simp only[List.map_cons,RPs]at h;obtain⟨v,r,rfl,h1,h2⟩:=h;simp only[RP]at h1;subst h1;rw[G8 h2];rfl
theorem Yv:∀ {bs:List Bool} {us:List Value},Vals (bs.map V.bl) us->us=bs.map Value.bool
 | [],_,.nil=>rfl
 | b::bs,_,.cons r t=>by
  cases r
  rw[Yv t];rfl
theorem Q2(bs:List Bool):(List.range bs.length).all (fun i=>(bs[i]?).getD true)=bs.all id:=by
 rw[Bool.eq_iff_iff,List.all_eq_true,List.all_eq_true]
 constructor
 ·intro h b hb;obtain⟨i,hi,rfl⟩:=List.mem_iff_getElem.mp hb;have:=h i (List.mem_range.mpr hi)
  simpa[List.getElem?_eq_getElem hi] using this
 ·intro h i hi;have hi':=List.mem_range.mp hi
  rw[List.getElem?_eq_getElem hi'];exact h _ (List.getElem_mem hi')
theorem Oy(hc:X.calm=true):CallD X (.builtin "all") zX:=by
 intro pins s σ H Z m xs ds us R Q I ok rv rd h k;unfold zX at h
 split at h
 ·obtain⟨v,rfl,r1⟩:=rd.one;obtain⟨bs,rfl,hh⟩:=h;simp only[RD,RP]at r1;obtain⟨a,vs,rfl,_,h1,h2⟩:=r1
  cases G8 h2
  obtain⟨u,rfl,ru⟩:=fS rv
  cases ru
  obtain⟨its,r',pl,hz⟩:=I.list h1
  cases Yv r'
  have ne:a≠s.heap.objs.size:=by
   obtain⟨o,ho,_⟩:=pl.isList;exact Nat.ne_of_lt (Heap.lt_size ho)
  refine call_all_walk (wpAny_pyIter_list pl.isList ?_);refine⟨s.heap.objs.size,_,_,_,_,_,fun i=>(bs[i]?).getD true,rfl,Walks.list (A:=X.A.in1) (show X.A.in1.handled=none from I.ok.hd hc) s.heap.objs.size a ne (bs.map Value.bool).toArray,⟨⟨_,Heap.get?_push_size _ rfl,rfl,rfl⟩,pl.isList.at fun o e=>Heap.get?_push_of_some _ e⟩,?_,?_⟩
  ·intro i v s' Q' E' hv hQ;have hv':(bs.map Value.bool)[i]?=some v:=by simpa using hv
   rw[List.getElem?_map]at hv'
   cases eb:bs[i]? with
   | none=>rw[eb]at hv';cases hv'
   | some b =>
    have hQ':Q' ((bs[i]?).getD true) s':=hQ
    rw[eb]at hv' hQ'
    cases hv'
    exact wpAny_truthy_bool hQ'
  ·intro h' tk kp;have e:((bs.map Value.bool).toArray.size)=bs.length:=by simp
   rw[e,Q2];refine⟨.bl _,H,I.kept fun b o q=>kp b o ?_ (Heap.get?_push_of_some _ q),rfl,k _ m _ H hh Ext.refl ok .ofBl⟩;intro hb;have:b=s.heap.objs.size:=by simpa using hb
   exact absurd (Heap.lt_size q) (by rw[this];exact Nat.lt_irrefl _)
 ·exact h.elim
theorem RW(x:Str)(l u:Option (Int×Tok)):(slicePicked x l u none).length<=x.length:=by
 unfold slicePicked Builtin.Str.strSliceIndices sliceRange;simp only[List.length_map,List.length_range,Option.map_none,Option.getD_none];have h1:(1:Int) > 0:=by decide
 simp only[h1,if_true]
 cases l<;>cases u<;>simp only[Option.map_none,Option.map_some]<;>repeat' split<;>omega
theorem Od{α β:Type}(f:α->Option β):∀ xs:List α,(xs.filterMap f).length<=xs.length
 | []=>Nat.le_refl _
 | x::xs=>by
  rw[List.filterMap_cons];have:=Od f xs
  cases f x with
  | none=>exact Nat.le_succ_of_le this
  | some y=>exact Nat.succ_le_succ this
def KS:V->Option Int->Option Int->Hp->VK->Prop:=fun x lo hi H Q=>∃ z:Str,x=.str z/\z.length<=sizeLine/\∀ y:Str,y.length<=z.length->Q (.str y) H
theorem Rv{v:Value}{lo:Option Int}(h:IsPart v lo):∃ l,v=partValue l:=by
 cases h with
 | none=>exact⟨none,rfl⟩
 | int i t=>exact⟨some (i,t),rfl⟩
theorem VY:SlR X KS:=by
 intro pins s σ H x v vl vu lo hi sl Q I rx hs pl pu h;obtain⟨z,rfl,hz,q⟩:=h;obtain⟨t,rfl⟩:=rx;obtain⟨l,rfl⟩:=Rv pl;obtain⟨u,rfl⟩:=Rv pu;refine⟨"str",_,PySem.F.slot_str_getitem.lookup,typeIs_str s z t,?_⟩;refine wpAny_getItem_str_slice (l:=l) (u:=u) (st:=none) hs rfl ?_;unfold sliceMade
 split
 ·exact⟨.str z,H,I,⟨_,rfl⟩,q z (Nat.le_refl _)⟩
 ·have hl:(⟨((slicePicked z l u none).filterMap (z.cps[·]?)).toArray⟩:Str).length<=z.length:=by
   show((slicePicked z l u none).filterMap (z.cps[·]?)).toArray.size<=z.length
   rw[List.size_toArray];exact Nat.le_trans (Od _ _) (RW z l u)
  exact⟨Nat.le_trans hl hz,.str _,H,I.tok _,⟨_,rfl⟩,q _ hl⟩
@[simp] def kY(fo g:DE):DE:=fun d m Q=>fo d m fun o m1=>∃ c,o=.cel c/\(∃ ys,m1 c=some (.l ys))/\g d m1 fun x m2=>∃ xs p,x=.dat p/\m2 c=some (.l xs)/\xs.length<sizeLine/\Q (.dat .none) (cK m2 c (.l (xs++[p])))
theorem NA{apos cpos:Pos}(ho:PE X o (LE X.K f))(he:PE X e (LE X.K g))(hbase:attributeBase o "append" X.env (eval o X.env)=eval o X.env:=by rfl)
  (hfew:((backTo cpos (starEach [e] X.env)).all (fun x=>!x.1)&&(backToKw cpos (keywordEach [] X.env)).all (fun x=>x.1.isSome)&&decide ([e].length+([]:List Keyword).length+(if ([]:List Keyword).isEmpty then 0 else 1)<30))=true:=by rfl)
  (hline:(apos.endLine==cpos.line)=true:=by rfl) (hs:starEach [e] X.env=(false,eval e X.env)::starEach [] X.env:=by rfl):PE X (.Call (.Attribute o "append" apos) [e] [] cpos) (LE X.K (kY f g)) :=
 PE.imp (Yo (T:="list") (id:="list.append") (name:="append") PySem.F.plainAttrs_list PySem.F.slot_list_append PySem.F.type_list_append Pd ho (iV he lN hs) hbase hfew hline hs rfl) fun s H Q h=>by
  obtain⟨Z,d,m,R,ok,rs,h,k⟩:=h;refine⟨Z,d,m,_,ok,rs,h,fun x m1 v H1 ⟨c,ex,⟨xs0,hx0⟩,q⟩ e1 ok1 rd=>?_⟩;subst ex;obtain⟨rfl,hc⟩:=rd;obtain⟨vs0,g0,_⟩:=ok1.l hx0;refine⟨.inl ⟨rfl,vs0,.inl (.inl g0)⟩,Z,d,m1,_,ok1,rs.ext e1,q,fun y m2 w H2 ⟨xs,pp,ey,hm,hz,q2⟩ e2 ok2 rd2=>?_⟩;subst ey;obtain⟨vs,g1,g2⟩:=ok2.l hm;refine⟨c,vs,w,rfl,rfl,g1,by rw[g2.length];exact hz,?_⟩
  refine k _ _ _ _ q2 (e1.trans (e2.trans (Ext.put ok2 hm g1))) (ok2.put hm g1 (show RPs _ _ _ _ _ _ from g2.append ?_)) (by simp only[RD,RP])
  simp only[RPs];exact⟨w,[],rfl,rd2,rfl⟩
@[simp] def Gg(f:DE)(lo hi:DO):DE:=fun d m Q=>f d m fun x m1=>lo d m1 fun l m2=>hi d m2 fun u m3 =>
 (∃ xs,x=.dat (.tuple xs)/\Q (.dat (.tuple (bY xs l u))) m3)\/(∃ xs,x=.dat (.list xs)/\Q (.dat (.list (bY xs l u))) m3)\/(∃ z:Str,x=.dat (.str z)/\z.length<=sizeLine/\∀ y:Str,y.length<=z.length->Q (.dat (.str y)) m3)
theorem KK{lo hi:Option Expr}{tl th:DO}(ha:PE X a (LE X.K f))(hl:PO X lo (LO X.K tl))(hu:PO X hi (LO X.K th)):PE X (.Subscript a (.Slice lo hi none p2) pos) (LE X.K (Gg f tl th)) :=
 PE.imp (Rr (Xi.or (G2.or (M6.or VY))) ha hl hu) fun s H Q h=>by
  obtain⟨Z,d,m,R,ok,rs,h,k⟩:=h;refine⟨Z,d,m,_,ok,rs,h,fun x m1 v H1 q e1 ok1 rx=>⟨Z,d,m1,_,ok1,rs.ext e1,q,fun l m2 H2 q2 e2 ok2=>⟨Z,d,m2,_,ok2,(rs.ext e1).ext e2,q2,fun u m3 H3 q3 e3 ok3=>?_⟩⟩⟩;have e13:=e1.trans (e2.trans e3)
  have rx3:=rx.ext (e2.trans e3)
  rcases q3 with⟨xs,rfl,q4⟩ | ⟨xs,rfl,q4⟩ | ⟨z,rfl,hz,q4⟩
  ·simp only[RD,RP]at rx3;obtain⟨a,vs,rfl,h1,h2⟩:=rx3
   by_cases hw:HT.sIx vs.length 0 l=0/\HT.sIx vs.length vs.length u=vs.length
   ·refine .inr (.inl ⟨a,vs,rfl,h1,hw,k _ m3 _ H3 q4 e13 ok3 ?_⟩);rw[h2.length]at hw;rw[J6 xs hw];simp only[RD,RP];exact⟨a,vs,rfl,h1,h2⟩
   ·refine .inl ⟨a,vs,rfl,h1,hw,fun p hp=>?_⟩;have sm:Same H3 (upd H3 p (.tup (iD vs l u))):=dX hp
    refine k _ m3 _ _ q4 (e13.trans (ok3.ext sm)) (ok3.grow sm) ?_;simp only[RD,RP];exact⟨p,_,rfl,.inl (.inl dR),RPs.ext (ok3.ext sm) _ _ h2.cut⟩
  ·simp only[RD,RP]at rx3;obtain⟨a,vs,rfl,h0,h1,h2⟩:=rx3;refine .inr (.inr (.inl ⟨a,vs,rfl,h1,fun p hp=>?_⟩));have sm:Same H3 (upd H3 p (.lst (iD vs l u))):=dX hp
   refine k _ m3 _ _ q4 (e13.trans (ok3.ext sm)) (ok3.grow sm) ?_;simp only[RD,RP];exact⟨p,_,rfl,gU ok3 hp,.inl (.inl dR),RPs.ext (ok3.ext sm) _ _ h2.cut⟩
  ·cases rx3.str
   exact .inr (.inr (.inr ⟨z,rfl,hz,fun y hy=>k _ m3 _ H3 (q4 y hy) e13 ok3 .ofStr⟩))
end
def dZ{κ:Type}[DecidableEq κ](kvs:List (κ×PyData))(k:κ):Option PyData:=(kvs.find? fun kv=>decide (kv.1=k)).map (·.2)
def iI{κ:Type}[DecidableEq κ](kvs:List (κ×PyData))(k:κ)(p:PyData):List (κ×PyData) :=
 if (kvs.any fun kv=>decide (kv.1=k))=true then kvs.map (fun kv=>if kv.1=k then (kv.1,p) else kv) else kvs++[(k,p)]
section
variable {κ:Type}[DecidableEq κ]{K:PySem.W.Frag}{Z:Addr->Prop}{m:Mu}{H:Hp}
theorem RKV.length:∀ {kvs:List (κ×PyData)} {vs:List (κ×V)},RKV K Z m H kvs vs->vs.length=kvs.length
 | [],_,h=>by cases (show _=[] from h);rfl
 | _::_,_,⟨v,r,h1,_,h3⟩=>by subst h1;rw[List.length_cons,List.length_cons,RKV.length h3]
theorem RKV.val{k:κ}{p:PyData}:∀ {kvs:List (κ×PyData)} {vs:List (κ×V)},RKV K Z m H kvs vs->dZ kvs k=some p->∃ v,eC vs k=some v/\RP K Z m H p v
 | [],_,_,e=>by simp[dZ]at e
 | (j,q)::xs,_,⟨v,r,h1,h2,h3⟩,e=>by
  subst h1;unfold dZ at e;unfold eC
  by_cases c:j=k
  ·simp[List.find?_cons,c]at e ⊢;exact e▸h2
  ·simp[List.find?_cons,c]at e ⊢;have:=RKV.val (k:=k) (p:=p) h3 (by unfold dZ;simpa using e)
   unfold eC at this;simpa using this
theorem RKV.any{k:κ}:∀ {kvs:List (κ×PyData)} {vs:List (κ×V)},RKV K Z m H kvs vs->(vs.any fun kv=>decide (kv.1=k))=(kvs.any fun kv=>decide (kv.1=k))
 | [],_,h=>by cases (show _=[] from h);rfl
 | _::_,_,⟨v,r,h1,_,h3⟩=>by subst h1;rw[List.any_cons,List.any_cons,RKV.any h3]
theorem RKV.repl{k:κ}{p:PyData}{v:V}(hp:RP K Z m H p v):∀ {kvs:List (κ×PyData)} {vs:List (κ×V)},RKV K Z m H kvs vs->RKV K Z m H (kvs.map fun kv=>if kv.1=k then (kv.1,p) else kv) (vs.map fun kv=>if kv.1=k then (kv.1,v) else kv)
 | [],_,h=>by cases (show _=[] from h);exact(rfl:([]:List (κ×V))=[])
 | (j,q)::xs,_,⟨w,r,h1,h2,h3⟩=>by
  subst h1;rw[List.map_cons,List.map_cons]
  by_cases c:j=k
  ·rw[if_pos c,if_pos c];exact⟨v,_,rfl,hp,RKV.repl hp h3⟩
  ·rw[if_neg c,if_neg c];exact⟨w,_,rfl,h2,RKV.repl hp h3⟩
theorem RKV.snoc{k:κ}{p:PyData}{v:V}(hp:RP K Z m H p v):∀ {kvs:List (κ×PyData)} {vs:List (κ×V)},RKV K Z m H kvs vs->RKV K Z m H (kvs++[(k,p)]) (vs++[(k,v)])
 | [],_,h=>by cases (show _=[] from h);exact⟨v,[],rfl,hp,rfl⟩
 | _::_,_,⟨w,r,h1,h2,h3⟩=>by subst h1;exact⟨w,_,rfl,h2,RKV.snoc hp h3⟩
theorem RKV.put{k:κ}{p:PyData}{v:V}{kvs:List (κ×PyData)}{vs:List (κ×V)}(h:RKV K Z m H kvs vs)(hp:RP K Z m H p v):RKV K Z m H (iI kvs k p) (iG vs k v):=by
 unfold iI iG;rw[h.any]
 split
 ·exact h.repl hp
 ·exact h.snoc hp
end
@[simp] def mC:D->Option aU
 | .dat (.str z)=>some (.inr z)
 | .dat (.int i)=>some (.inl i)
 | _=>none
theorem RD.key{K:PySem.W.Frag}{Z:Addr->Prop}{m:Mu}{H:Hp}{x:D}{v:V}{k:aU}(h:RD K Z m H x v)(e:mC x=some k):v=kV k:=by
 unfold mC at e
 split at e
 ·cases e;cases h.str;rfl
 ·cases e;cases h.int;rfl
 ·cases e
section
variable {X:Cx}{o i e:Expr}{fo fi f:DE}{pos tpos:Pos}
@[simp] def vV(fo fi:DE):DE:=fun d m Q=>fo d m fun o m1=>fi d m1 fun y m2=>∃ c k kvs p,o=.cel c/\mC y=some k/\m2 c=some (.d kvs)/\dZ kvs k=some p/\Q (.dat p) m2
theorem HF(hu:X.A.units+100<cLine)(ho:PE X o (LE X.K fo))(hi:PE X i (LE X.K fi))(hs:vQ i:=by exact fun _ _=>rfl):PE X (.Subscript o i pos) (LE X.K (vV fo fi)) :=
 PE.imp (JC (by omega) ho hi hs) fun s H Q h=>by
  obtain⟨Z,d,m,R,ok,rs,h,k⟩:=h;refine⟨Z,d,m,_,ok,rs,h,fun o m1 v H1 q e1 ok1 r1=>⟨Z,d,m1,_,ok1,rs.ext e1,q,fun y m2 w H2 q2 e2 ok2 r2=>?_⟩⟩;obtain⟨c,ky,kvs,p,rfl,hk,hm,hv,q⟩:=q2
  cases r2.key hk
  obtain⟨rfl,_⟩:=r1.ext e2;obtain⟨vs,g1,g2⟩:=ok2.d hm;obtain⟨v,hv',rv⟩:=g2.val hv;exact⟨c,v,rfl,.inl ⟨vs,ky,.inl g1,rfl,hv'.symm⟩,k _ m2 _ H2 q (e1.trans e2) ok2 rv⟩
end
def KEnt(w:World):List DictEntry->List (Str×V)->Prop
 | [],[]=>True
 | e::es,(z,v)::kvs=>e.hash=PyData.keyHash w.params z/\(∃ t,e.key=.str z t)/\RelV v e.val/\KEnt w es kvs
 | _,_=>False
def KDt(K:PySem.W.Frag)(w:World)(a:Addr)(kvs:List (Str×V)):Prop :=
 ∃ (o:Obj) (es:Array DictEntry) (ep:Nat),K.lookup a=some o/\o.cls=.type "dict"/\o.dict=none/\o.slots=#[]/\o.data=.dict es ep/\KEnt w es.toList kvs/\(kvs.map (·.1)).Nodup/\(a==sysModules)=false
def KD(K:PySem.W.Frag)(w:World)(a:Addr)(kvs:List (Str×PyData)):Prop:=∃ vs:List (Str×V),KDt K w a vs/\∀ (Z:Addr->Prop) (m:Mu) (H:Hp),RKV K Z m H kvs vs
def nA{α:Type}(kvs:List (Str×α)):List (aU×α):=kvs.map fun kv=>(.inr kv.1,kv.2)
theorem KEnt.out{P:Program}{w:World}:∀ {es:List DictEntry} {kvs:List (Str×V)},KEnt w es kvs->∃ vs:List (Str×Value),KV (nA kvs) (nA vs)/\Pairs (dC P w) es (nA vs)/\(∀ e∈es,∃ k,(dC P w).is k e.key=true/\e.hash=(dC P w).hash k)/\vs.map (·.1)=kvs.map (·.1)
 | [],[],_=>⟨[],.nil,.nil,by simp,rfl⟩
 | e::es,(z,v)::kvs,⟨h1,⟨t,h2⟩,h3,h4⟩=>by
  obtain⟨vs,q1,q2,q3,q4⟩:=KEnt.out (P:=P) h4;have hk:(dC P w).is (.inr z) e.key=true:=by
   rw[h2];exact decide_eq_true (rfl:z=z)
  refine⟨(z,e.val)::vs,.cons ⟨rfl,h3⟩ q1,.cons hk rfl q2,fun x hx=>?_,by simp[q4]⟩
  rcases List.mem_cons.mp hx with rfl | hx
  ·exact⟨_,hk,h1⟩
  ·exact q3 x hx
 | [],_::_,h=>h.elim
 | _::_,[],h=>h.elim
theorem KDt.dictOf{K:PySem.W.Frag}{P:Program}{w:World}{a:Addr}{kvs:List (Str×V)}{h:Heap}(q:KDt K w a kvs)(hK:K.In h):∃ vs:List (aU×Value),KV (nA kvs) vs/\h.DictOf (dC P w) a vs:=by
 obtain⟨o,es,ep,h1,h2,h3,h4,h5,h6,h7,_⟩:=q;obtain⟨vs,q1,q2,q3,q4⟩:=KEnt.out (P:=P) h6;refine⟨_,q1,o,es,ep,hK _ _ h1,⟨h2,h3,h4⟩,h5,fun e he=>q3 e (by simpa using he),q2,?_⟩
 have e:(nA vs).map (·.1)=(kvs.map (·.1)).map Sum.inr:=by
  rw[<- q4];simp[nA,Function.comp_def]
 rw[e];exact List.Pairwise.map _ (fun a b hab h=>hab (Sum.inr.inj h)) h7
theorem Vj{z:Str}:∀ kvs:List (Str×V),eC (nA kvs) (.inr z)=eC kvs z
 | []=>rfl
 | (y,v)::kvs=>by
  have ih:=Vj (z:=z) kvs
  unfold eC nA at *
  by_cases c:y=z
  ·simp[List.find?_cons,c]
  ·simp only[List.map_cons,List.find?_cons,c,decide_false,Sum.inr.injEq];exact ih
theorem RKV.val_none{κ:Type}[DecidableEq κ]{K:PySem.W.Frag}{Z:Addr->Prop}{m:Mu}{H:Hp}{k:κ}:∀ {kvs:List (κ×PyData)} {vs:List (κ×V)},RKV K Z m H kvs vs->dZ kvs k=none->eC vs k=none
 | [],_,h,_=>by cases (show _=[] from h);rfl
 | (j,q)::xs,_,⟨v,r,h1,h2,h3⟩,e=>by
  subst h1;unfold dZ at e;unfold eC
  by_cases c:j=k
  ·simp[List.find?_cons,c]at e
  ·simp[List.find?_cons,c]at e ⊢;have:=RKV.val_none (k:=k) h3 (by unfold dZ;simpa using e)
   unfold eC at this;simpa using this
section
variable {X:Cx}{i e g:Expr}{fi f fg:DE}{p pos apos cpos:Pos}
@[simp] def Aq(kvs:List (Str×PyData))(fi:DE):DE:=fun d m Q=>fi d m fun y m1=>∃ (z:Str) (q:PyData),y=.dat (.str z)/\dZ kvs z=some q/\Q (.dat q) m1
theorem HU{x:Str}{c:Addr}{kvs:List (Str×PyData)}(hg:Gl X x)(hm:X.mg x=some (.ref c))(hk:KD X.K X.w c kvs)(hi:PE X i (LE X.K fi))(hd:(x==("__debug__" : Str))=false:=by decide)(hs:vQ i:=by exact fun _ _=>rfl) :
  PE X (.Subscript (.Name x p) i pos) (LE X.K (Aq kvs fi)):=by
 intro pins s σ H Q I h;obtain⟨Z,d,m,R,ok,rs,h,k⟩:=h;obtain⟨vs,kd,rk⟩:=hk;refine E5 PySem.F.slot_dict_getitem.lookup hs (aZ (yS (v:=.ref c) hg hm rfl hd pins s σ H (fun x H1=>x=.ref c/\H1=H) I ⟨rfl,rfl⟩) fun u s1 ⟨x,H1,I1,rx,ex,eH⟩=>?_);subst ex;subst eH;obtain rfl:u=Value.ref c:=rx;refine aZ (hi pins s1 σ _ (fun v H2=>∃ (z:Str) (w:V),v=.str z/\eC vs z=some w/\Q w H2) I1 ⟨Z,d,m,_,ok,rs,h,fun y m1 v H1 ⟨z,q,ey,hv,hq⟩ e1 ok1 r1=>?_⟩) fun iv s2 ⟨y,H2,I2,ry,z,w,ey,hw,q2⟩=>?_
 ·subst ey
  cases r1.str
  obtain⟨w,hw,rw'⟩:=(rk Z m1 H1).val hv;exact⟨z,w,rfl,hw,k _ m1 _ H1 hq e1 ok1 rw'⟩
 ·subst ey;obtain⟨ws,rel,dd⟩:=kd.dictOf (P:=X.prog) I2.kIn;obtain⟨w',hw',rw'⟩:=RelO.some_of (v:=w) (o:=valueAt ws (.inr z)) (by rw[<- hw,<- Vj];exact rel.val _)
  exact⟨dd.typeIs,wpAny_getItem_of (yT (k:=.inr z) ry) dd.mapOf hw' ⟨w,H2,I2.tok _,rw',q2⟩⟩
end
section
variable {X:Cx}{e g:Expr}{f fg:DE}{tg:Expr}{pos:Pos}
@[simp] def oM:D2
 | .dat p,.dat (.list ys),m,Q=>PyData.canLayAll0 ys=true/\p.canLay0=true/\p.depth<=50/\Q (.dat (.bool (ys.any fun y=>y.eqv p))) m
 | .dat p,.dat (.tuple ys),m,Q=>PyData.canLayAll0 ys=true/\p.canLay0=true/\p.depth<=50/\Q (.dat (.bool (ys.any fun y=>y.eqv p))) m
 | _,_,_,_=>False
theorem zJ(hu:X.A.units+100<cLine):dI X (compareOp .In) oM:=by
 intro pins s σ H Z m x y dx dy v u R Q I ok rx ry r1 r2 h k;unfold oM at h
 split at h
 ·rename_i p ys;obtain⟨h1,h2,h3,h4⟩:=h;obtain⟨as,ra⟩:=RP.reads I p x v r1 rx;obtain⟨bs,rb⟩:=RP.reads I _ y u r2 ry;exact SeqAt.in_list_reads rb ra h1 h2 (by omega) ⟨.bl _,H,I,rfl,k _ m _ H h4 Ext.refl ok .ofBl⟩
 ·rename_i p ys;obtain⟨h1,h2,h3,h4⟩:=h;obtain⟨as,ra⟩:=RP.reads I p x v r1 rx;obtain⟨bs,rb⟩:=RP.reads I _ y u r2 ry;exact SeqAt.in_tuple_reads rb ra h1 h2 (by omega) ⟨.bl _,H,I,rfl,k _ m _ H h4 Ext.refl ok .ofBl⟩
 ·exact h.elim
end
theorem R7:typeLookup (.type "tuple") "keys"=pure none:=by rw[typeLookup_type,builtinLookup_eq_fast];kernel_rfl
theorem Ba:plainId "dict.update.loop"=true:=by decide +kernel
theorem Zs:entryFor table "dict.update.loop"=some Builtin.«dict.update.loop»:=entryFor_of_fast (by kernel_rfl)
section
variable {prog:Program}{w:World}{A:Around}{E:Value->Shared->Prop}{s:Shared}
theorem IJ{a:Addr}{o:Obj}{xs:Array Value}{k:Nat}{Q:Option Value->Shared->Prop}
  (hx:s.heap.get? a=some o) (hc:o.cls=.type "tuple") (hdat:o.data=.seq xs k) (hd:o.dict=none) (hA:A.handled=none)
  (h:∀ h' tk,(∀ b ob,s.heap.get? b=some ob->h'.get? b=some ob)->Q none {s with heap:=h',toks:=tk}) :
  wpAny (model prog w) A (getAttr? (.ref a) "keys") Q E s:=by
 obtain⟨c,dct,dat,sl⟩:=o;simp only at hc hdat hd;subst hc hdat hd;obtain⟨hp,g,d,tk,os⟩:=s;have hT:∀ tk',(⟨hp,g,d,tk',os⟩:Shared).TypeIs (.ref a) "tuple":=fun _=>⟨_,hx,rfl⟩
 have f1:=sub_AttributeError
 have f3:=F.slot_tuple_getattribute.lookup
 have f4:=F.slot_tuple_getattribute.bind (.ref a)
 have f5:=am_tuple_getattr_none
 have hsz:(Str.ofString "keys").length+100<=sizeLine:=by rw[sizeLine_eq];decide
 have hname:(["__module__","__name__","__qualname__","__doc__","__annotations__"]:List Str).contains (Str.ofString "keys")=false:=by decide
 unfold getAttr? getAttrBy? getAttrBy
 repeat (any_goals (first | assumption | exact hT _ | ((with_reducible show wpAny _ _ (call (Value.builtin "tuple.__getattribute__") _ _) _ _ _);refine call_meets F.slot_tuple_getattribute (hT _) am_entry_tuple_getattribute (F.args_tuple_getattribute_2 _ _) (meets_getattribute_miss_tuple a xs k sl (Str.ofString "keys") _ R7 hname hsz) ⟨hx,hA,fun h' tk' e hx'=>?_⟩) | wp_step))
 obtain⟨t',u',he⟩:=hx'.there;show wpAny _ _ (getattributeRaised _ _ _ _ _ _ _) _ _ _
 unfold getattributeRaised
 repeat (any_goals (first | assumption | wp_step))
 exact h h' tk' hx'.keeps
end
section
variable {prog:Program}{w:World}{κ:Type}[DecidableEq κ]{knd:KeyKind prog w κ}{A:Around}{E:Value->Shared->Prop}{s:Shared}
def Ei(knd:KeyKind prog w κ)(h:Heap):List Value->List (κ×Value)->Prop
 | [],[]=>True
 | x::xs,(k,v)::r=>(∃ b key,x=.ref b/\h.IsTuple b #[key,v]/\knd.is k key=true)/\Ei knd h xs r
 | _,_=>False
def Cd(acc:List (κ×Value))(r:List (κ×Value)):List (κ×Value):=r.foldl (fun acc kv=>stored acc kv.1 kv.2) acc
theorem DR(acc:List (κ×Value))(k:κ)(v:Value):(stored acc k v).length<=acc.length+1:=by
 unfold stored
 split
 ·simp
 ·simp
theorem O4{R:Result->Shared->Prop}{hb:Heap}{d it tq:Addr}{items:Array Value}(hh:A.handled=none)(hd:hb.get? d=none)(hi:hb.get? it=none)(hne:d≠it)(ht:hb.IsTuple tq items) :
  ∀ (bC:List (κ×Value)) (i:Nat) (s:Shared) (acc:List (κ×Value)) (tk0:Tok),(∀ b o,hb.get? b=some o->s.heap.get? b=some o)->s.heap.IsTupleIter it tq i->s.heap.DictOf knd d acc->Ei knd hb (items.toList.drop i) bC->acc.length+bC.length<=sizeLine ->
  (∀ h' tk,(∀ b o,hb.get? b=some o->h'.get? b=some o)->h'.DictOf knd d (Cd acc bC)->R (.ok (.ret .none)) {s with heap:=h',toks:=tk}) ->
  codeAny (model prog w) A (.builtin "dict.update.loop" ⟨[.ref d,.ref it,.int i tk0,.none],[]⟩) R s
 | [],i,s,acc,tk0,keeps,hit,hdo,hp,hsz,hR=>by
  have hx:items[i]?=none:=by
   cases e:items.toList.drop i with
   | nil =>
    have:=List.drop_eq_nil_iff.mp e
    rw[Array.getElem?_eq_none_iff];simpa using this
   | cons x xs=>rw[e]at hp;exact hp.elim
  have ht':s.heap.IsTuple tq items:=by
   obtain⟨o,ho,r⟩:=ht;exact⟨o,keeps _ _ ho,r⟩
  refine codeAny_builtin Zs ?_;rw[Around.under_plainId Ba _];show wpAny _ A.in1 (pyNext (.ref it)>>=_) _ _ s
  refine wpAny_bind (wpAny_pyNext_tuple_end hh hit ht' hx fun h' hs=>?_);show wpAny _ A.in1 (Builtin.Dict.addKeywords d []>>=_) _ _ _
  refine wpAny_bind (wpAny_pure (wpAny_pure ?_));refine hR h' s.toks (fun b o e=>hs b o (fun q=>by rw[q,hi]at e;cases e) (keeps b o e)) (hdo.extBut hs hne)
 | (k,v)::bC,i,s,acc,tk0,keeps,hit,hdo,hp,hsz,hR=>by
  cases e:items.toList.drop i with
  | nil=>rw[e]at hp;exact hp.elim
  | cons x xs =>
   rw[e]at hp;obtain⟨⟨b,key,rfl,hb2,hk⟩,hp2⟩:=hp;have hx:items[i]?=some (.ref b):=by
    have:=congrArg List.head? e
    rw[List.head?_drop]at this;simpa using this
   have e2:items.toList.drop (i+1)=xs:=by
    have:=congrArg List.tail e
    rw[List.tail_drop]at this;simpa using this
   have ht':s.heap.IsTuple tq items:=by
    obtain⟨o,ho,r⟩:=ht;exact⟨o,keeps _ _ ho,r⟩
   refine codeAny_builtin Zs ?_;rw[Around.under_plainId Ba _];show wpAny _ A.in1 (pyNext (.ref it)>>=_) _ _ s
   refine wpAny_bind (wpAny_pyNext_tuple_item hit ht' hx fun h1 hit1 hs1=>?_);have k1:∀ b o,hb.get? b=some o->h1.get? b=some o:=fun b o e=>hs1.extBut b o (fun q=>by rw[q,hi]at e;cases e) (keeps b o e)
   have ht1:({s with heap:=h1}:Shared).heap.IsTuple b #[key,v]:=by
    obtain⟨o,ho,r⟩:=hb2;exact⟨o,k1 _ _ ho,r⟩
   have hdo1:({s with heap:=h1}:Shared).heap.DictOf knd d acc:=hdo.sameBut hs1 hne
   obtain⟨o,ho,hoc,no,hod⟩:=id ht1;refine wpAny_bind (wpAny_holding (wpAny_bind (wpAny_tryCatch ?_)));unfold Builtin.Dict.pairItems;refine wpAny_bind (wpAny_typeOf ht1.typeIs ?_);rw[if_pos (by decide)]
   refine wpAny_bind (wpAny_seqItems ho hod (wpAny_pure ?_));show wpAny _ A.in1 (holding [key,v] (dictSet d key v)) _ _ _
   refine wpAny_holding (wpAny_dictSet_pairs (hsz:=by simp at hsz;omega) hk hdo1 fun h2 hdo2 hs2=>?_)
   refine wpAny_pure ⟨plainId_quiet Ba _,?_⟩;have ih:=O4 (R:=R) hh hd hi hne ht bC (i+1) {s with heap:=h2,toks:=s.toks+1} (stored acc k v) 0
    (fun b o e=>hs2.extBut b o (fun q=>by rw[q,hd]at e;cases e) (k1 b o e)) (hit1.extBut hs2.extBut (Ne.symm hne)) hdo2 (by rw[e2];exact hp2)
    (by have:=DR acc k v;simp at hsz;omega) (fun h' tk q1 q2=>hR h' tk q1 q2)
   exact ih
theorem KY{Q:Value->Shared->Prop}{tq:Addr}{o:Obj}{items:Array Value}{n:Nat}{kvs:List (κ×Value)}(hh:A.handled=none)(ho:s.heap.get? tq=some o)(hc:o.cls=.type "tuple")(hdn:o.dict=none)(hdat:o.data=.seq items n)
  (hp:Ei knd s.heap items.toList kvs) (hsz:kvs.length<=sizeLine)
  (hQ:∀ h' tk,(∀ b o,s.heap.get? b=some o->h'.get? b=some o)->h'.DictOf knd s.heap.objs.size (Cd [] kvs)->Q (.ref s.heap.objs.size) {s with heap:=h',toks:=tk}) :
  wpAny (model prog w) A (call (.type "dict") [.ref tq]) Q E s:=by
 refine callType_codes (Q₁:=fun obj s₁=>obj=.ref s.heap.objs.size/\s₁={s with heap:=s.heap.push {cls:=.type "dict",data:=.dict #[]}}) F.kt_called_dict (F.kt_typeCall_dict_1 _) F.entry_dict_init (kt_code_dict_new _ ⟨rfl,rfl⟩) ?_;rintro obj s₁ ⟨rfl,rfl⟩;have hnew:(s.heap.push {cls:=.type "dict",data:=.dict #[]}).DictOf knd s.heap.objs.size []:=Heap.DictOf.new s.heap
 refine⟨hnew.typeIs,F.args_dict_init_2 _ _,?_⟩;unfold Builtin.«dict.__init__»;refine wpAny_bind ?_;unfold Builtin.Dict.selfAndRest;refine wpAny_bind (wpAny_notOrdered_dict hnew.typeIs ?_);show wpAny _ _ (pure (s.heap.objs.size,[Value.ref tq])) _ _ _
 refine wpAny_pure ?_;show wpAny _ _ (Builtin.Dict.updateFrom "dict.__init__" s.heap.objs.size (.ref tq) [] .none) _ _ _
 unfold Builtin.Dict.updateFrom;have ho1:(s.heap.push {cls:=.type "dict",data:=.dict #[]}).get? tq=some o:=Heap.get?_push_of_some _ ho
 refine wpAny_bind (wpAny_typeOf (T:="tuple") ⟨_,ho1,hc⟩ ?_);rw[if_pos (by decide)]
 refine wpAny_bind (IJ ho1 hc hdat hdn hh fun h1 tk1 k1=>?_);rw[if_pos (show(none:Option Value).isNone=true from rfl)]
 have g0:s.heap.get? s.heap.objs.size=none:=by
  cases e:s.heap.get? s.heap.objs.size with
  | none=>rfl
  | some ob=>exact absurd (Heap.lt_size e) (Nat.lt_irrefl _)
 have g1:s.heap.get? h1.objs.size=none:=by
  cases e:s.heap.get? h1.objs.size with
  | none=>rfl
  | some ob=>exact absurd (Heap.lt_size (k1 _ _ (Heap.get?_push_of_some _ e))) (Nat.lt_irrefl _)
 have hd1:h1.DictOf knd s.heap.objs.size []:=by
  obtain⟨ob,es,ep,q,r⟩:=hnew;exact⟨ob,es,ep,k1 _ _ q,r⟩
 have hne:s.heap.objs.size≠h1.objs.size:=by
  obtain⟨ob,es,ep,q,r⟩:=hd1;exact Nat.ne_of_lt (Heap.lt_size q)
 have ht:s.heap.IsTuple tq items:=⟨o,ho,hc,n,hdat⟩
 refine wpAny_bind (wpAny_rule (wpAny_bind (wpAny_pyIter_tuple (t:=tq) (items:=items) ⟨o,k1 _ _ ho1,hc,n,hdat⟩ ?_)));refine wpAny_pure ⟨plainId_quiet Ba _,?_⟩;refine O4 (A:=A.in1) (knd:=knd) (hb:=s.heap) (show A.in1.handled=none from hh) g0 g1 hne ht kvs 0 {s with heap:=h1.push {cls:=.type "tuple_iterator",data:=.fields #[.ref tq,.int 0 0]},toks:=tk1} [] 0 (fun b ob e=>Heap.get?_push_of_some _ (k1 _ _ (Heap.get?_push_of_some _ e))) ⟨_,Heap.get?_push_size _ rfl,rfl,rfl⟩ (hd1.push _) (by simpa using hp) (by simpa using hsz) fun h' tk q1 q2=>?_
 exact⟨rfl,hQ h' tk q1 q2⟩
end
@[simp] def Bj:List D->Option (List aU)
 | []=>some []
 | x::xs=>match mC x,Bj xs with
  | some k,some ks=>some (k::ks)
  | _,_=>none
theorem RDs.keys{K:PySem.W.Frag}{Z:Addr->Prop}{m:Mu}{H:Hp}:∀ {xs:List D} {vs:List V} {ks:List aU},RDs K Z m H xs vs->Bj xs=some ks->vs=ks.map kV
 | [],vs,ks,h,e=>by
  cases e
  exact h
 | x::xs,vs,ks,h,e=>by
  obtain⟨v,r,rfl,h1,h2⟩:=h;unfold Bj at e
  cases e1:mC x with
  | none=>rw[e1]at e;cases e
  | some k =>
   cases e2:Bj xs with
   | none=>rw[e1,e2]at e;cases e
   | some ks' =>
    rw[e1,e2]at e
    cases e
    rw[h1.key e1,RDs.keys h2 e2];rfl
def qU:aU->PyData
 | .inl i=>.int i
 | .inr z=>.str z
theorem Inv.noD{X:Cx}{pins:List (Addr×Obj)}{σ:L2.St}{H:Hp}{s:Shared}{a:Addr}{xs:List V}(I:Inv X pins σ H s)(h:SqT X.K H a xs):NoD s.heap a:=by
 rcases h with h | ⟨o,its,n,hk,hc,hs,hz,r⟩
 ·obtain⟨z,its,r,p⟩:=h.ok I.hok;exact z.2
 ·exact⟨o,I.kIn a o hk,hc.2⟩
theorem K8{X:Cx}{pins:List (Addr×Obj)}{σ:L2.St}{H:Hp}{s:Shared}{Z:Addr->Prop}{m:Mu}(I:Inv X pins σ H s):∀ {kvs:List (aU×PyData)} {vs:List V} {us:List Value},RPs X.K Z m H (kvs.map fun kv=>PyData.tuple [qU kv.1,kv.2]) vs->Vals vs us ->
  ∃ ws:List (aU×V),∃ xs:List (aU×Value),RKV X.K Z m H kvs ws/\KV ws xs/\Ei (dC X.prog X.w) s.heap us xs/\xs.length=kvs.length
 | [],vs,us,h,r=>by
  simp only[List.map_nil,RPs]at h;subst h
  cases r
  exact⟨[],[],rfl,.nil,trivial,rfl⟩
 | (k,p)::kvs,vs,us,h,r=>by
  simp only[List.map_cons,RPs]at h;obtain⟨v,vs',rfl,h1,h2⟩:=h
  cases r with
  | cons r1 r2 =>
   obtain⟨ws,xs,q1,q2,q3,q4⟩:=K8 I h2 r2;simp only[RP]at h1;obtain⟨a,ps,rfl,hs,hp⟩:=h1;obtain⟨its,rv,it,_⟩:=I.tuple hs;simp only[RPs]at hp;obtain⟨v1,r',rfl,g1,v2,r'',rfl,g2,rfl⟩:=hp
   cases rv with
   | cons w1 rv =>
    cases rv with
    | cons w2 rv =>
     cases rv
     have ev:v1=kV k:=by
      cases k with
      | inl i =>
       simp only[qU,RP]at g1;exact g1
      | inr z =>
       simp only[qU,RP]at g1;exact g1
     subst ev;refine⟨(k,v2)::ws,(k,_)::xs,⟨_,_,rfl,g2,q1⟩,.cons ⟨rfl,w2⟩ q2,⟨⟨a,_,r1,it,yT w1⟩,q3⟩,by simp[q4]⟩
def fI(acc:List (aU×PyData))(r:List (aU×PyData)):List (aU×PyData):=r.foldl (fun acc kv=>iI acc kv.1 kv.2) acc
def uG(acc:List (aU×V))(r:List (aU×V)):List (aU×V):=r.foldl (fun acc kv=>iG acc kv.1 kv.2) acc
theorem RKV.puts{K:PySem.W.Frag}{Z:Addr->Prop}{m:Mu}{H:Hp}:∀ {r:List (aU×PyData)} {ws:List (aU×V)} {acc:List (aU×PyData)} {aw:List (aU×V)},RKV K Z m H acc aw->RKV K Z m H r ws->RKV K Z m H (fI acc r) (uG aw ws)
 | [],ws,acc,aw,ha,hr=>by
  cases (show ws=[] from hr)
  exact ha
 | (k,p)::r,vs,acc,aw,ha,h=>by
  obtain⟨v,ws,rfl,h1,h2⟩:=h;exact RKV.puts (r:=r) (ws:=ws) (acc:=iI acc k p) (aw:=iG aw k v) (ha.put h1) h2
theorem KV.puts{ws:List (aU×V)}{xs:List (aU×Value)}(t:KV ws xs):∀ {aw:List (aU×V)} {ax:List (aU×Value)},KV aw ax->KV (uG aw ws) (Cd ax xs):=by
 unfold KV at t
 induction t with
 | nil=>exact fun ha=>ha
 | @cons p q ps qs h t ih =>
  intro aw ax ha;obtain⟨e,h⟩:=h;have:=ih (KV.put ha p.1 h)
  show KV (uG (iG aw p.1 p.2) ps) (Cd (stored ax q.1 q.2) qs)
  rw[<- e];exact this
theorem Sg:∀ (r acc:List (aU×PyData)),(fI acc r).length<=acc.length+r.length
 | [],acc=>by simp[fI]
 | kv::r,acc=>by
  have:=Sg r (iI acc kv.1 kv.2)
  have h2:(iI acc kv.1 kv.2).length<=acc.length+1:=by
   unfold iI
   split
   ·rw[List.length_map];omega
   ·simp
  unfold fI at *;simp only[List.foldl_cons,List.length_cons];omega
section
variable {X:Cx}{e:Expr}{f:DE}{pos p:Pos}
@[simp] def Et(f:DE):DE:=fun d m Q=>f d m fun x m1=>∃ kvs:List (aU×PyData),x=.dat (.tuple (kvs.map fun kv=>.tuple [qU kv.1,kv.2]))/\kvs.length<=sizeLine/\∀ a,m1 a=none->Q (.cel a) (cK m1 a (.d (fI [] kvs)))
theorem Z6(hc:X.calm=true)(hg:Gl X "dict")(hm:X.mg "dict"=none)(he:PE X e (LE X.K f))(hs:starEach [e] X.env=[(false,eval e X.env)]:=by rfl):PE X (.Call (.Name "dict" p) [e] [] pos) (LE X.K (Et f)):=by
 intro pins s σ H Q I h;obtain⟨Z,d,m,R,ok,rs,h,k⟩:=h;have hA:=iV (X:=X) he lN (by rw[hs];rfl) pos pins s σ H (fun vs H1=>∃ (v:V) (kvs:List (aU×PyData)) (m1:Mu),vs=[v]/\RD X.K Z m1 H1 (.dat (.tuple (kvs.map fun kv=>.tuple [qU kv.1,kv.2]))) v/\kvs.length<=sizeLine/\(∀ a,m1 a=none->R (.cel a) (cK m1 a (.d (fI [] kvs))))/\Ext X.K Z m H m1 H1/\Ok X.K Z m1 H1) I ⟨Z,d,m,_,ok,rs,h,fun x m1 v H1 ⟨kvs,ex,hn,q⟩ e1 ok1 rd=>by
  subst ex;exact⟨v,kvs,m1,rfl,rd,hn,q,e1,ok1⟩⟩
 refine Call_ (qI I hg hm boot_dict (PyProof.Rows.callWith_type1 (aZ hA fun us s1 ⟨vs,H1,I1,r1,q1⟩=>?_) hs rfl));obtain⟨v,kvs,m1,ev,rd,hn,q,e1,ok1⟩:=q1;subst ev;simp only[RD,RP]at rd;obtain⟨a,ps,rfl,hsq,hp⟩:=rd;obtain⟨u,rfl,hu⟩:=fS r1
 cases (show u=Value.ref a from hu)
 obtain⟨its,rv,⟨o,ho,hoc,n,hod⟩,_⟩:=I1.tuple hsq;obtain⟨o',ho',hdn⟩:=Inv.noD I1 hsq;rw[ho]at ho'
 cases ho'
 obtain⟨ws,xs,q1,q2,q3,q4⟩:=K8 (Z:=Z) (m:=m1) I1 hp rv;have hp0:H1 s1.heap.objs.size=none:=I1.hok.fresh (Nat.le_refl _)
 have hk0:X.K.lookup s1.heap.objs.size=none:=by
  cases e:X.K.lookup s1.heap.objs.size with
  | none=>rfl
  | some o=>exact absurd (Heap.lt_size (I1.kIn _ o e)) (Nat.lt_irrefl _)
 refine KY (knd:=dC X.prog X.w) (I1.ok.hd hc) ho hoc hdn hod (by simpa using q3) (by rw[q4];exact hn) fun h' tk kp dd=>?_
 have rk:RKV X.K Z m1 H1 (fI [] kvs) (uG [] ws):=RKV.puts (show RKV _ _ _ _ _ _ from rfl) q1
 have ob:ObjOk X.prog X.w (upd H1 s1.heap.objs.size (.dK (uG [] ws))) h' s1.heap.objs.size (.dK (uG [] ws)):=by
  refine⟨?_,beq_eq_false_iff_ne.mpr (Ne.symm (Nat.ne_of_lt I1.big)),_,KV.puts q2 .nil,dd⟩;rw[rk.length];exact Nat.le_trans (Sg kvs []) (by simpa using hn)
 exact⟨.ref s1.heap.objs.size,_,I1.laid (t':=tk) kp (Nat.le_refl _) ob,rfl,k _ _ _ _ (q _ (gU ok1 hp0).1) (e1.trans (Ext.cell ok1 hp0 hk0)) (ok1.cell hp0 hk0 (show RKV _ _ _ _ _ _ from rk)) ⟨rfl,by rw[eI];rfl⟩⟩
end
def KTEnt(K:PySem.W.Frag)(w:World):List DictEntry->List (List Str×Addr×V)->Prop
 | [],[]=>True
 | e::es,(zs,a,v)::xs=>e.hash=reduceHash (Builtin.Tuple.tupleHashOf (zs.map (PyData.keyHash w.params)))/\e.key=.ref a/\RelV v e.val/\KT K a zs/\KTEnt K w es xs
 | _,_=>False
def KTDt(K:PySem.W.Frag)(w:World)(c:Addr)(xs:List (List Str×Addr×V)):Prop :=
 ∃ (o:Obj) (es:Array DictEntry) (ep:Nat),K.lookup c=some o/\o.cls=.type "dict"/\o.dict=none/\o.slots=#[]/\o.data=.dict es ep/\KTEnt K w es.toList xs/\(xs.map (·.1)).Nodup/\(c==sysModules)=false
def Dl(K:PySem.W.Frag)(w:World)(c:Addr)(kvs:List (List Str×PyData)):Prop:=∃ xs:List (List Str×Addr×V),KTDt K w c xs/\∀ (Z:Addr->Prop) (m:Mu) (H:Hp),RKV K Z m H kvs (xs.map fun x=>(x.1,x.2.2))
theorem BR(zs:List Str):(zs.map (Sum.inr:Str->aU)).map kV=zs.map V.str:=by
 rw[List.map_map];rfl
section
variable {X:Cx}{pins:List (Addr×Obj)}{σ:L2.St}{H:Hp}{s:Shared}
theorem Zj{a:Addr}{zs:List Str}(I:Inv X pins σ H s)(h:SqT X.K H a (zs.map V.str)):(tupleKind (dC X.prog X.w)).is s.heap (zs.map Sum.inr) a:=by
 obtain⟨its,r,⟨o,h1,h2,n,h3⟩,_⟩:=I.tuple h;rw[<- BR]at r;exact⟨o,its.toArray,n,h1,h2,h3,by simpa using Qp r⟩
theorem KTEnt.out(I:Inv X pins σ H s):∀ {es:List DictEntry} {xs:List (List Str×Addr×V)},KTEnt X.K X.w es xs->∃ ys:List (List aU×Addr×Value),es=ys.map (entryOfKey (tupleKind (dC X.prog X.w)))/\(∀ y∈ys,(tupleKind (dC X.prog X.w)).is s.heap y.1 y.2.1)/\ys.map (·.1)=xs.map (fun x=>x.1.map Sum.inr) /\
  ∀ zs:List Str,RelO (eC (xs.map fun x=>(x.1,x.2.2)) zs) ((atKey ys (zs.map Sum.inr)).map (·.2))
 | [],[],_=>⟨[],rfl,by simp,rfl,fun _=>True.intro⟩
 | e::es,(zs,a,v)::xs,⟨h1,h2,h3,h4,h5⟩=>by
  obtain⟨ys,q1,q2,q3,q4⟩:=KTEnt.out I h5;refine⟨(zs.map Sum.inr,a,e.val)::ys,?_,fun y hy=>?_,by simp[q3],fun z=>?_⟩
  ·rw[List.map_cons,<- q1]
   congr 1
   obtain⟨eh,ek,ev⟩:=e;simp only at h1 h2;subst h1 h2;unfold entryOfKey
   congr 1
   show _=reduceHash (Builtin.Tuple.tupleHashOf ((zs.map Sum.inr).map (dC X.prog X.w).hash))
   rw[List.map_map];rfl
  ·rcases List.mem_cons.mp hy with rfl | hy
   ·exact Zj I h4.sq
   ·exact q2 y hy
  ·by_cases c:zs=z
   ·subst c;unfold eC atKey;simp only[List.map_cons,List.find?_cons,decide_true,Option.map_some];exact h3
   ·have c':¬ zs.map (Sum.inr:Str->aU)=z.map Sum.inr:=fun h=>c ((List.map_inj_right (fun _ _ q=>Sum.inr.inj q)).mp h)
    have:=q4 z
    unfold eC atKey at this ⊢;simp only[List.map_cons,List.find?_cons,decide_eq_false c,decide_eq_false c'];exact this
 | [],_::_,h=>h.elim
 | _::_,[],h=>h.elim
theorem KTDt.out{c:Addr}{xs:List (List Str×Addr×V)}(I:Inv X pins σ H s)(q:KTDt X.K X.w c xs):(c==sysModules)=false/\∃ ys:List (List aU×Addr×Value),s.heap.DictOfH (tupleKind (dC X.prog X.w)) c ys /\
  ∀ zs:List Str,RelO (eC (xs.map fun x=>(x.1,x.2.2)) zs) ((atKey ys (zs.map Sum.inr)).map (·.2)):=by
 obtain⟨o,es,ep,h1,h2,h3,h4,h5,h6,h7,h8⟩:=q;obtain⟨ys,q1,q2,q3,q4⟩:=KTEnt.out I h6;refine⟨h8,ys,⟨o,es,ep,I.kIn _ _ h1,⟨h2,h3,h4⟩,h5,q1,q2,?_⟩,q4⟩;rw[q3];have e:xs.map (fun x=>x.1.map (Sum.inr:Str->aU))=(xs.map (·.1)).map (fun z=>z.map Sum.inr):=by simp
 rw[e];exact List.Pairwise.map _ (fun a b hab h=>hab ((List.map_inj_right (fun _ _ q=>Sum.inr.inj q)).mp h)) h7
end
theorem KT.rp{K:PySem.W.Frag}{a:Addr}{zs:List Str}{Z:Addr->Prop}{m:Mu}{H:Hp}(h:KT K a zs):RP K Z m H (.tuple (zs.map PyData.str)) (.ref a):=by
 simp only[RP];exact⟨a,_,rfl,h.sq,zK zs⟩
section
variable {X:Cx}{e g:Expr}{fi fg:DE}{p apos cpos:Pos}
@[simp] def Bm(kvs:List (List Str×PyData))(fi fg:DE):DE:=fun d m Q=>fi d m fun y m1=>∃ zs:List Str,y=.dat (.tuple (zs.map .str))/\fg d m1 fun x m2=>Q (match dZ kvs zs with | some q=>.dat q | none=>x) m2
theorem HW{x:Str}{c:Addr}{kvs:List (List Str×PyData)}(hu:X.A.units+100<cLine)(hg:Gl X x)(hm:X.mg x=some (.ref c))(hk:Dl X.K X.w c kvs)(he:PE X e (LE X.K fi))(hf:PE X g (LE X.K fg))(hd:(x==("__debug__" : Str))=false:=by decide)
  (hbase:attributeBase (.Name x p) "get" X.env (eval (.Name x p) X.env)=eval (.Name x p) X.env:=by rfl)
  (hfew:((backTo cpos (starEach [e,g] X.env)).all (fun x=>!x.1)&&(backToKw cpos (keywordEach [] X.env)).all (fun x=>x.1.isSome)&&decide (([e,g]:List Expr).length+([]:List Keyword).length+(if ([]:List Keyword).isEmpty then 0 else 1)<30))=true:=by rfl)
  (hline:(apos.endLine==cpos.line)=true:=by rfl) (hs:backTo cpos (starEach [e,g] X.env)=[(false,eval e X.env),(false,eval g X.env)]:=by rfl) :
  PE X (.Call (.Attribute (.Name x p) "get" apos) [e,g] [] cpos) (LE X.K (Bm kvs fi fg)):=by
 intro pins s σ H Q I h;obtain⟨Z,d,m,R,ok,rs,h,k⟩:=h;obtain⟨xs,kd,rk⟩:=hk;refine wpAny_Call_method hbase hfew hline PySem.F.plainAttrs_dict PySem.F.slot_dict_get PySem.F.type_dict_get (aZ (yS (v:=.ref c) hg hm rfl hd pins s σ H (fun x H1=>x=.ref c/\H1=H) I ⟨rfl,rfl⟩) fun u s1 ⟨x,H1,I1,rx,ex,eH⟩=>?_);subst ex;subst eH;obtain rfl:u=Value.ref c:=rx;obtain⟨_,ws1,dd1,_⟩:=kd.out I1;refine⟨dd1.typeIs,fun b q=>?_,?_⟩
 ·cases q
  obtain⟨ob,_,_,h1,h2,_⟩:=dd1;exact⟨ob,h1,h2.2.1⟩
 rw[hs];refine Calls.callWith_builtin rfl (Calls.evalArgs_plain (Calls.spliced_cons (aZ (he pins s1 σ _ (fun v H2=>∃ (zs:List Str) (b:Addr),v=.ref b/\LE X.K fg σ H2 fun v2 H3=>SqT X.K H3 b (zs.map V.str)/\Q ((eC (xs.map fun x=>(x.1,x.2.2)) zs).getD v2) H3) I1 ⟨Z,d,m,_,ok,rs,h,fun y m1 v H1 ⟨zs,ey,hq⟩ e1 ok1 r1=>?_⟩) fun iv s2 ⟨y,H2,I2,ry,zs,b,ey,q2⟩ =>
  Calls.spliced_cons (aZ (hf pins s2 σ H2 _ I2 q2) fun fv s3 ⟨v2,H3,I3,rz,sq,q3⟩=>Calls.spliced_nil ?_))))
 ·subst ey;have r1':=r1
  simp only[RD,RP]at r1';obtain⟨b,vs,rfl,_,_⟩:=r1';refine⟨zs,b,rfl,Z,d,m1,_,ok1,rs.ext e1,hq,fun x m2 v2 H2 hq2 e2 ok2 r2=>⟨?_,?_⟩⟩
  ·have r3:=r1.ext e2
   simp only[RD,RP]at r3;obtain⟨b',vs',e',h1,h2⟩:=r3
   cases e'
   cases iK h2
   exact h1
  ·cases hv:dZ kvs zs with
   | none =>
    rw[hv]at hq2;rw[(rk Z m2 H2).val_none hv];exact k _ m2 _ H2 hq2 (e1.trans e2) ok2 r2
   | some q =>
    rw[hv]at hq2;obtain⟨w,hw,rw'⟩:=(rk Z m2 H2).val hv;rw[hw];exact k _ m2 _ H2 hq2 (e1.trans e2) ok2 rw'
 ·subst ey
  cases (show iv=Value.ref b from ry)
  obtain⟨sy,ys,dd,rel⟩:=kd.out I3;exact call_meetsIn PySem.F.slot_dict_get dd.typeIs PySem.F.entry_dict_get (PySem.F.args_dict_get_3 _ _ _) (meetsH_dict_get_default (tupleKind (dC X.prog X.w)) c b sy fv) ⟨tupleKind_room_in1 (by omega),zs.map Sum.inr,ys,Zj I3 sq,dd,⟨_,H3,I3.tok _,(rel zs).getD rz,q3⟩⟩
end
section
variable {X:Cx}{o e:Expr}{f g:DE}{apos cpos:Pos}
@[simp] def Ug:D2
 | .dat p,.dat (.list ys),m,Q=>PyData.canLayAll0 ys=true/\p.canLay0=true/\p.depth<=50/\Q (.dat (.bool (!ys.any fun y=>y.eqv p))) m
 | .dat p,.dat (.tuple ys),m,Q=>PyData.canLayAll0 ys=true/\p.canLay0=true/\p.depth<=50/\Q (.dat (.bool (!ys.any fun y=>y.eqv p))) m
 | _,_,_,_=>False
theorem OF(hu:X.A.units+100<cLine):dI X (compareOp .NotIn) Ug:=by
 intro pins s σ H Z m x y dx dy v u R Q I ok rx ry r1 r2 h k;unfold Ug at h
 split at h
 ·rename_i p ys;obtain⟨h1,h2,h3,h4⟩:=h;obtain⟨as,ra⟩:=RP.reads I p x v r1 rx;obtain⟨bs,rb⟩:=RP.reads I _ y u r2 ry;exact SeqAt.notIn_list_reads rb ra h1 h2 (by omega) ⟨.bl _,H,I,rfl,k _ m _ H h4 Ext.refl ok .ofBl⟩
 ·rename_i p ys;obtain⟨h1,h2,h3,h4⟩:=h;obtain⟨as,ra⟩:=RP.reads I p x v r1 rx;obtain⟨bs,rb⟩:=RP.reads I _ y u r2 ry;exact SeqAt.notIn_tuple_reads rb ra h1 h2 (by omega) ⟨.bl _,H,I,rfl,k _ m _ H h4 Ext.refl ok .ofBl⟩
 ·exact h.elim
@[simp] def Dg:D2
 | .dat (.str x),.dat (.tuple ys),m,Q=>∃ zs:List Str,ys=zs.map .str/\Q (.dat (.bool (!decide (x∈zs)))) m
 | .dat p,.dat (.tuple ys),m,Q=>PyData.canLayAll0 ys=true/\p.canLay0=true/\p.depth<=50/\Q (.dat (.bool (!ys.any fun y=>y.eqv p))) m
 | _,_,_,_=>False
theorem y9(hu:X.A.units+100<cLine):dI X (compareOp .NotIn) Dg:=by
 intro pins s σ H Z m x y dx dy v u R Q I ok rx ry r1 r2 h k;unfold Dg at h
 split at h
 ·exact Ar pins s σ H Z m x y _ _ v u R Q I ok rx ry r1 r2 h k
 ·exact OF hu pins s σ H Z m x y _ _ v u R Q I ok rx ry r1 r2 h k
 ·exact h.elim
def LV(K:PySem.W.Frag):V->List V->Hp->VK->Prop:=fun x xs H Q=>∃ (a:Addr) (y:Str) (zs:List Str),x=.ref a/\xs=[.str y]/\SqL K H a (zs.map V.str)/\y∈zs/\Q (.int (zs.idxOf y:Nat)) H
theorem NY:MtR X "list.index" (LV X.K):=by
 intro pins s σ H x xs v us Q I rx rs ⟨a,y,zs,e1,e2,hq,hk,q⟩;subst e1 e2
 cases rx
 obtain⟨u,rfl,ru⟩:=fS rs;obtain⟨tk,rfl⟩:=id ru;obtain⟨its,rv,p,hz⟩:=I.list hq;have hl:=rv.length
 rw[List.length_map]at hl hz;have hj:zs.idxOf y<zs.length:=List.idxOf_lt_length_iff.mpr hk
 have hsz:(zs.length:Int)<=1000000000:=by
  rw[sizeLine_eq]at hz;omega
 have hit:∀ m (hm:m<its.toArray.size) (hm2:m<zs.length),fD (.str y) its.toArray[m]=(zs[m]==y):=fun m hm hm2=>by
  obtain⟨t,e⟩:=Qv rv m (by simpa using hm) hm2
  have e':its.toArray[m]=.str zs[m] t:=by simpa using e
  rw[e'];rfl
 have hfl:(zs.map V.str).all iL=true:=by
  rw[List.all_eq_true];intro v hv;obtain⟨z,_,rfl⟩:=List.mem_map.mp hv;rfl
 obtain⟨⟨cl,dd,dt,sl⟩,n,p1,p2,p3,p4⟩:=id p;simp only at p2 p4;subst p2 p4;refine call_meets PySem.F.slot_list_index p.isList.typeIs PySem.F.entry_list_index (PySem.F.args_list_index_2 _ _) (SeqAt.list_indexAt a its.toArray n dd sl (.str y tk) (fD (.str y)) (zs.idxOf y) (by rw[List.size_toArray];omega) (by omega) ?_ ?_) ⟨p1,?_,?_⟩
 ·rw[hit _ _ hj,List.getElem_idxOf hj];simp
 ·intro m hm hlt;have hm2:m<zs.length:=by omega
  rw[hit m hm hm2];simp only[beq_eq_false_iff_ne];exact Ju _ _ hm2 hlt
 ·exact fun w hw=>pH (x:=.str y) ⟨tk,rfl⟩ rfl rv hfl w (by simpa using hw)
 ·exact⟨.int _,H,I.tok _,⟨_,rfl⟩,q⟩
def Sr(t:Bool)(K:PySem.W.Frag)(H:Hp)(a:Addr)(zs:List Str):Prop:=if t then SqT K H a (zs.map V.str) else SqL K H a (zs.map V.str)
@[simp] def Dr(f g:DE):DE:=fun d m Q=>f d m fun x m1=>∃ zs:List Str,(x=.dat (.tuple (zs.map .str))\/x=.dat (.list (zs.map .str)))/\g d m1 fun y m2=>∃ z:Str,y=.dat (.str z)/\z∈zs/\Q (.dat (.int (zs.idxOf z:Nat))) m2
theorem OQ(ho:PE X o (LE X.K f))(he:PE X e (LE X.K g))(hbase:attributeBase o "index" X.env (eval o X.env)=eval o X.env:=by rfl)
  (hfew:((backTo cpos (starEach [e] X.env)).all (fun x=>!x.1)&&(backToKw cpos (keywordEach [] X.env)).all (fun x=>x.1.isSome)&&decide ([e].length+([]:List Keyword).length+(if ([]:List Keyword).isEmpty then 0 else 1)<30))=true:=by rfl)
  (hline:(apos.endLine==cpos.line)=true:=by rfl) (hs:backTo cpos (starEach [e] X.env)=[(false,eval e X.env)]:=by rfl):PE X (.Call (.Attribute o "index" apos) [e] [] cpos) (LE X.K (Dr f g)):=by
 intro pins s σ H Q I h;obtain⟨Z,d,m,R,ok,rs,h,k⟩:=h;refine wpAny_Call_method_late hbase hfew hline rfl (aZ (ho pins s σ H (fun v H1=>∃ (t:Bool) (a:Addr) (zs:List Str),v=.ref a/\Sr t X.K H1 a zs/\LE X.K g σ H1 fun v2 H2=>∃ z:Str,v2=.str z/\z∈zs/\Sr t X.K H2 a zs/\Q (.int (zs.idxOf z:Nat)) H2) I ⟨Z,d,m,_,ok,rs,h,fun x m1 v H1 ⟨zs,ex,hq⟩ e1 ok1 r1=>?_⟩) fun v s1 ⟨x,H1,I1,rx,t,a,zs,ex,sq,q1⟩=>?_)
 ·rcases ex with rfl | rfl
  ·have r1':=r1
   simp only[RD,RP]at r1';obtain⟨a,vs,rfl,h1,h2⟩:=r1'
   cases iK h2
   refine⟨true,a,zs,rfl,h1,Z,d,m1,_,ok1,rs.ext e1,hq,fun y m2 v2 H2 ⟨z,ey,hz,q⟩ e2 ok2 r2=>?_⟩;subst ey
   cases r2.str
   have r3:=r1.ext e2
   simp only[RD,RP]at r3;obtain⟨a',vs',e',h1',h2'⟩:=r3
   cases e'
   cases iK h2'
   exact⟨z,rfl,hz,h1',k _ m2 _ H2 q (e1.trans e2) ok2 .ofInt⟩
  ·have r1':=r1
   simp only[RD,RP]at r1';obtain⟨a,vs,rfl,_,h1,h2⟩:=r1'
   cases iK h2
   refine⟨false,a,zs,rfl,h1,Z,d,m1,_,ok1,rs.ext e1,hq,fun y m2 v2 H2 ⟨z,ey,hz,q⟩ e2 ok2 r2=>?_⟩;subst ey
   cases r2.str
   have r3:=r1.ext e2
   simp only[RD,RP]at r3;obtain⟨a',vs',e',_,h1',h2'⟩:=r3
   cases e'
   cases iK h2'
   exact⟨z,rfl,hz,h1',k _ m2 _ H2 q (e1.trans e2) ok2 .ofInt⟩
 ·subst ex;obtain rfl:v=Value.ref a:=rx
  cases t with
  | true =>
   obtain⟨its,_,p,_⟩:=I1.tuple (show SqT _ _ _ _ from sq)
   refine⟨"tuple","tuple.index",PySem.F.plainAttrs_tuple,PySem.F.slot_tuple_index,PySem.F.type_tuple_index,p.typeIs,fun b e=>by cases e;exact Inv.noD I1 (show SqT _ _ _ _ from sq),?_⟩
   rw[hs];refine Calls.callWith_builtin rfl (Calls.evalArgs_plain (Calls.spliced_cons (aZ (he pins s1 σ H1 _ I1 q1) fun iv s2 ⟨v2,H2,I2,ry,z,ez,hz,sq2,q2⟩=>Calls.spliced_nil ?_)));subst ez;exact p0 pins s2 σ H2 (.ref a) [.str z] _ [iv] Q I2 rfl (.cons ry .nil) ⟨a,z,zs,rfl,rfl,sq2,hz,q2⟩
  | false =>
   obtain⟨its,_,p,_⟩:=I1.list (show SqL _ _ _ _ from sq)
   refine⟨"list","list.index",PySem.F.plainAttrs_list,PySem.F.slot_list_index,PySem.F.type_list_index,p.isList.typeIs,fun b e=>by cases e;obtain⟨ob,n,e,c,hd,_⟩:=p;exact⟨ob,e,hd⟩,?_⟩
   rw[hs];refine Calls.callWith_builtin rfl (Calls.evalArgs_plain (Calls.spliced_cons (aZ (he pins s1 σ H1 _ I1 q1) fun iv s2 ⟨v2,H2,I2,ry,z,ez,hz,sq2,q2⟩=>Calls.spliced_nil ?_)));subst ez;exact NY pins s2 σ H2 (.ref a) [.str z] _ [iv] Q I2 rfl (.cons ry .nil) ⟨a,z,zs,rfl,rfl,sq2,hz,q2⟩
end
section
variable {X:Cx}{a:Expr}{f:DE}{pos p2:Pos}
theorem Ui{v:Value}{lo:Option Int}(h:IsPart v lo):∃ l:Option (Int×Tok),v=partValue l/\lo=l.map (·.1):=by
 cases h with
 | none=>exact⟨none,rfl,rfl⟩
 | int i t=>exact⟨some (i,t),rfl,rfl⟩
theorem Ds(z:Str)(lo hi:Option Int):(Txt.slice z lo hi).length<=z.length:=by
 unfold Txt.slice
 split
 ·exact Nat.le_refl _
 ·show((Builtin.Str.strSliceIndices lo hi 1 z.length).filterMap (z.cps[·]?)).toArray.size<=z.length
  rw[List.size_toArray];exact Nat.le_trans (Od _ _) (sliceIndices_le lo hi z.length)
def U8:V->Option Int->Option Int->Hp->VK->Prop:=fun x lo hi H Q=>∃ z:Str,x=.str z/\z.length<=sizeLine/\Q (.str (Txt.slice z lo hi)) H
theorem Sb:SlR X U8:=by
 intro pins s σ H x v vl vu lo hi sl Q I rx hs pl pu h;obtain⟨z,rfl,hz,q⟩:=h;obtain⟨t,rfl⟩:=rx;obtain⟨l,rfl,rfl⟩:=Ui pl;obtain⟨u,rfl,rfl⟩:=Ui pu;refine⟨"str",_,PySem.F.slot_str_getitem.lookup,typeIs_str s z t,?_⟩;refine wpAny_getItem_str_slice (l:=l) (u:=u) (st:=none) hs rfl ?_;have hl:=Ds z (l.map (·.1)) (u.map (·.1))
 unfold Txt.slice at q hl;unfold sliceMade
 split
 ·rename_i c;have c2:((1:Int)==1&&(Builtin.Str.strSliceIndices (l.map (·.1)) (u.map (·.1)) 1 z.length).length==z.length)=true:=c
  rw[if_pos c2]at q;exact⟨.str z,H,I,⟨_,rfl⟩,q⟩
 ·rename_i c;have c2:¬ ((1:Int)==1&&(Builtin.Str.strSliceIndices (l.map (·.1)) (u.map (·.1)) 1 z.length).length==z.length)=true:=c
  rw[if_neg c2]at q hl;exact⟨Nat.le_trans hl hz,.str _,H,I.tok _,⟨_,rfl⟩,q⟩
@[simp] def Bn(f:DE)(lo hi:DO):DE:=fun d m Q=>f d m fun x m1=>lo d m1 fun l m2=>hi d m2 fun u m3=>∃ z:Str,x=.dat (.str z)/\z.length<=sizeLine/\Q (.dat (.str (Txt.slice z l u))) m3
theorem FG{lo hi:Option Expr}{tl th:DO}(ha:PE X a (LE X.K f))(hl:PO X lo (LO X.K tl))(hu:PO X hi (LO X.K th)):PE X (.Subscript a (.Slice lo hi none p2) pos) (LE X.K (Bn f tl th)) :=
 PE.imp (Rr Sb ha hl hu) fun s H Q h=>by
  obtain⟨Z,d,m,R,ok,rs,h,k⟩:=h;refine⟨Z,d,m,_,ok,rs,h,fun x m1 v H1 q e1 ok1 rx=>⟨Z,d,m1,_,ok1,rs.ext e1,q,fun l m2 H2 q2 e2 ok2=>⟨Z,d,m2,_,ok2,(rs.ext e1).ext e2,q2,fun u m3 H3 q3 e3 ok3=>?_⟩⟩⟩;obtain⟨z,rfl,hz,q4⟩:=q3
  cases (rx.ext (e2.trans e3)).str
  exact⟨z,rfl,hz,k _ m3 _ H3 q4 (e1.trans (e2.trans e3)) ok3 .ofStr⟩
end
def Bk(K:PySem.W.Frag)(t1 t2:Addr)(n:Nat):It :=
 ⟨fun i H=>i<n/\∃ xs ys,SqL K H t1 xs/\SqT K H t2 ys/\n=min xs.length ys.length,fun i H v H'=>∃ p x y,v=.ref p/\H p=none/\H'=upd H p (.tup [x,y])/\∀ xs ys,SqL K H t1 xs->SqT K H t2 ys->xs[i]?=some x/\ys[i]?=some y,
  fun i H=>i=n/\∃ xs ys,SqL K H t1 xs/\SqT K H t2 ys/\n=min xs.length ys.length⟩
section
variable {K:PySem.W.Frag}{Z:Addr->Prop}{m m':Mu}{H:Hp}
def jW(m:Mu)(a:Addr):Mu:=fun b=>if b=a then none else m b
theorem Gb{a b:Addr}(h:m b=none):jW m a b=none:=by unfold jW;split<;>first | rfl | exact h
theorem W8{a:Addr}{xs:List PyData}{v:V}(ok:Ok K Z m H)(hm:m a=some (.l xs))(r:RD K Z m H (.cel a) v):RP K Z (jW m a) H (.list xs) v:=by
 obtain⟨rfl,_⟩:=r;obtain⟨vs,h1,h2⟩:=ok.l hm;simp only[RP];refine⟨a,vs,rfl,⟨by unfold jW;rw[if_pos rfl],fun z=>by have:=(ok.z a z).1;rw[hm]at this;cases this⟩,.inl (.inl h1),RPs.tr (fun _ _ q=>q) (fun b ws q1 q2=>⟨⟨Gb q1.1,q1.2⟩,q2⟩) _ _ h2⟩
end
section
variable {X:Cx}{a:Expr}{f:DE}{pos p2:Pos}
@[simp] def eA(f:DE)(lo hi:DO):DE:=fun d m Q=>f d m fun x m1=>lo d m1 fun l m2=>hi d m2 fun u m3 =>
 (∃ xs,x=.dat (.tuple xs)/\Q (.dat (.tuple (bY xs l u))) m3)\/(∃ xs,x=.dat (.list xs)/\Q (.dat (.list (bY xs l u))) m3)\/(∃ z:Str,x=.dat (.str z)/\z.length<=sizeLine/\Q (.dat (.str (Txt.slice z l u))) m3) \/
 (∃ c xs,x=.cel c/\m3 c=some (.l xs)/\Q (.dat (.list (bY xs l u))) m3)
theorem JX{lo hi:Option Expr}{tl th:DO}(ha:PE X a (LE X.K f))(hl:PO X lo (LO X.K tl))(hu:PO X hi (LO X.K th)):PE X (.Subscript a (.Slice lo hi none p2) pos) (LE X.K (eA f tl th)) :=
 PE.imp (Rr (Xi.or (G2.or (M6.or Sb))) ha hl hu) fun s H Q h=>by
  obtain⟨Z,d,m,R,ok,rs,h,k⟩:=h;refine⟨Z,d,m,_,ok,rs,h,fun x m1 v H1 q e1 ok1 rx=>⟨Z,d,m1,_,ok1,rs.ext e1,q,fun l m2 H2 q2 e2 ok2=>⟨Z,d,m2,_,ok2,(rs.ext e1).ext e2,q2,fun u m3 H3 q3 e3 ok3=>?_⟩⟩⟩;have e13:=e1.trans (e2.trans e3)
  have rx3:=rx.ext (e2.trans e3)
  rcases q3 with⟨xs,rfl,q4⟩ | ⟨xs,rfl,q4⟩ | ⟨z,rfl,hz,q4⟩ | ⟨c,xs,rfl,hm,q4⟩
  ·simp only[RD,RP]at rx3;obtain⟨a,vs,rfl,h1,h2⟩:=rx3
   by_cases hw:HT.sIx vs.length 0 l=0/\HT.sIx vs.length vs.length u=vs.length
   ·refine .inr (.inl ⟨a,vs,rfl,h1,hw,k _ m3 _ H3 q4 e13 ok3 ?_⟩);rw[h2.length]at hw;rw[J6 xs hw];simp only[RD,RP];exact⟨a,vs,rfl,h1,h2⟩
   ·refine .inl ⟨a,vs,rfl,h1,hw,fun p hp=>?_⟩;have sm:Same H3 (upd H3 p (.tup (iD vs l u))):=dX hp
    refine k _ m3 _ _ q4 (e13.trans (ok3.ext sm)) (ok3.grow sm) ?_;simp only[RD,RP];exact⟨p,_,rfl,.inl (.inl dR),RPs.ext (ok3.ext sm) _ _ h2.cut⟩
  ·simp only[RD,RP]at rx3;obtain⟨a,vs,rfl,h0,h1,h2⟩:=rx3;refine .inr (.inr (.inl ⟨a,vs,rfl,h1,fun p hp=>?_⟩));have sm:Same H3 (upd H3 p (.lst (iD vs l u))):=dX hp
   refine k _ m3 _ _ q4 (e13.trans (ok3.ext sm)) (ok3.grow sm) ?_;simp only[RD,RP];exact⟨p,_,rfl,gU ok3 hp,.inl (.inl dR),RPs.ext (ok3.ext sm) _ _ h2.cut⟩
  ·cases rx3.str
   exact .inr (.inr (.inr ⟨z,rfl,hz,k _ m3 _ H3 q4 e13 ok3 .ofStr⟩))
  ·obtain⟨rfl,_⟩:=rx3;obtain⟨vs,h1,h2⟩:=ok3.l hm;refine .inr (.inr (.inl ⟨c,vs,rfl,.inl (.inl h1),fun p hp=>?_⟩));have sm:Same H3 (upd H3 p (.lst (iD vs l u))):=dX hp
   refine k _ m3 _ _ q4 (e13.trans (ok3.ext sm)) (ok3.grow sm) ?_;simp only[RD,RP];exact⟨p,_,rfl,gU ok3 hp,.inl (.inl dR),RPs.ext (ok3.ext sm) _ _ h2.cut⟩
end
section
variable {X:Cx}{pins:List (Addr×Obj)}{σ:L2.St}
def PairsH(H:Hp)(xs ys:List V)(ps:List Addr):Prop:=∀ (j:Nat) (p:Addr),ps[j]?=some p->∃ x y,xs[j]?=some x/\ys[j]?=some y/\H p=some (.tup [x,y])
theorem PairsH.same{H H':Hp}{xs ys:List V}{ps:List Addr}(h:PairsH H xs ys ps)(e:Same H H'):PairsH H' xs ys ps:=fun j p q=>let ⟨x,y,h1,h2,h3⟩:=h j p q;⟨x,y,h1,h2,e _ _ h3⟩
theorem PairsH.snoc{H:Hp}{xs ys:List V}{ps:List Addr}{a:Addr}{x y:V}(h:PairsH H xs ys ps)(hx:xs[ps.length]?=some x)(hy:ys[ps.length]?=some y)(ha:H a=some (.tup [x,y])):PairsH H xs ys (ps++[a]):=fun j p q=>by
 rcases Nat.lt_or_ge j ps.length with c | c
 ·rw[List.getElem?_append_left c]at q;exact h j p q
 ·rw[List.getElem?_append_right c]at q;have:j-ps.length=0:=by
   rcases Nat.eq_zero_or_pos (j-ps.length) with z | z
   ·exact z
   ·rw[List.getElem?_eq_none (by simp;omega)]at q;cases q
  rw[this]at q
  cases q
  have e:j=ps.length:=by omega
  subst e;exact⟨x,y,hx,hy,ha⟩
end
section
variable {X:Cx}{o e:Expr}{f g:DE}
theorem RPs.eraseIdx{K:PySem.W.Frag}{Z:Addr->Prop}{m:Mu}{H:Hp}{xs:List PyData}{vs:List V}(h:RPs K Z m H xs vs)(i:Nat):RPs K Z m H (xs.eraseIdx i) (vs.eraseIdx i):=by
 rw[List.eraseIdx_eq_take_drop_succ,List.eraseIdx_eq_take_drop_succ];exact(h.take _).append (h.drop _)
end
section
variable {K:PySem.W.Frag}{Z:Addr->Prop}{m m1:Mu}{H H1:Hp}
theorem Ok.off{a:Addr}(ok:Ok K Z m H):Ok K Z (jW m a) H :=
 ⟨fun b c h=>by
  unfold jW at h
  split at h
  ·cases h
  ·obtain⟨o,h1,h2⟩:=ok.g b c h;exact⟨o,h1,h2.lift fun p v q=>RP.tr (fun _ _ q=>q) (fun b ws q1 q2=>⟨⟨Gb q1.1,q1.2⟩,q2⟩) p v q⟩,fun b hz=>⟨Gb (ok.z b hz).1,(ok.z b hz).2⟩⟩
theorem Ext.off{a:Addr}(e:Ext K Z m H m1 H1)(h:m a=none):Ext K Z m H (jW m1 a) H1 :=
 ⟨e.t,fun b vs h1 h2=>let ⟨q1,q2⟩:=e.l b vs h1 h2;⟨Gb q1,q2⟩,e.z,fun b hb=>by
  unfold jW
  split
  ·rename_i q;rw[q,h]at hb;cases hb
  ·exact e.c b hb,e.fz,fun b hb=>by
  unfold jW
  split
  ·rename_i q;rw[q,h]at hb;cases hb
  ·exact e.fm b hb⟩
end
section
variable {X:Cx}{e:Expr}{f:DE}
@[simp] def Kw(f:DE):DE:=fun d m Q=>f d m fun x m1=>∃ c xs,x=.cel c/\m c=none/\m1 c=some (.l xs)/\Q (.dat (.list xs)) (jW m1 c)
theorem KJ(he:PE X e (LE X.K f)):PE X e (LE X.K (Kw f)):=PE.imp he fun s H Q h=>by
 obtain⟨Z,d,m,R,ok,rs,h,k⟩:=h;refine⟨Z,d,m,_,ok,rs,h,fun x m1 v H1 q e1 ok1 rd=>?_⟩;obtain⟨c,xs,rfl,hc,hm,q⟩:=q;exact k _ _ v H1 q (e1.off hc) ok1.off (W8 ok1 hm rd)
end
section
variable {X:Cx}{pos:Pos}
@[simp] def Ez:D2
 | x,.cel c,m,Q=>∃ k kvs,mC x=some k/\m c=some (.d kvs)/\Q (.dat (.bool (!(dZ kvs k).isSome))) m
 | _,_,_,_=>False
theorem XN{K:PySem.W.Frag}{Z:Addr->Prop}{m:Mu}{H:Hp}{k:aU}{kvs:List (aU×PyData)}{vs:List (aU×V)}(h:RKV K Z m H kvs vs):(eC vs k).isSome=(dZ kvs k).isSome:=by
 cases e:dZ kvs k with
 | none=>rw[h.val_none e];rfl
 | some p =>
  obtain⟨v,hv,_⟩:=h.val e;rw[hv];rfl
theorem Yh(hu:X.A.units+100<cLine):dI X (compareOp .NotIn) Ez:=by
 intro pins s σ H Z m x y dx dy v u R Q I ok rx ry r1 r2 h k;unfold Ez at h
 split at h
 ·obtain⟨ky,kvs,hk,hm,q⟩:=h
  cases r1.key hk
  obtain⟨rfl,_⟩:=r2;obtain⟨vs,g1,g2⟩:=ok.d hm;obtain rfl:=(show u=Value.ref _ from ry)
  refine W5 (by omega) I (.inl ⟨vs,ky,.inl g1,rfl,rfl⟩) rx fun s3 I3=>⟨.bl (!(eC vs ky).isSome),H,I3,rfl,?_⟩
  rw[XN g2];exact k _ m _ H q Ext.refl ok .ofBl
 ·exact h.elim
variable {o e:Expr}{f g:DE}
end
section
variable {X:Cx}{a b c:Expr}{f g h:DE}{pos:Pos}
@[simp] def vE(r r':D2)(f g h:DE):DE:=fun d m Q=>f d m fun x m1=>g d m1 fun y m2=>r x y m2 fun z m3=>∃ k,z=.dat (.bool k)/\(if k=true then h d m3 fun w m4=>r' y w m4 Q else Q (.dat (.bool false)) m3)
theorem Tn{op op':CmpOp}{r r':D2}(ho:dI X (compareOp op) r)(ho':dI X (compareOp op') r')(ha:PE X a (LE X.K f))(hb:PE X b (LE X.K g))(hc:PE X c (LE X.K h))
  (hm:lastMarks [op,op'] [b,c]=false:=by with_unfolding_all rfl):PT X (.Compare a [op,op'] [b,c] pos) (LT X.K (aP (vE r r' f g h))):=by
 intro pins s σ H Q I hh;obtain⟨Z,d,m,R,ok,rs,hf,k⟩:=hh.le;refine isTrue_chain (aZ (ha pins s σ H (fun x H1=>∃ (dx:D) (m1:Mu),RD X.K Z m1 H1 dx x/\(g d m1 fun y m2=>r dx y m2 fun z m3=>∃ k,z=.dat (.bool k)/\(if k=true then h d m3 fun w m4=>r' y w m4 R else R (.dat (.bool false)) m3))/\Ext X.K Z m H m1 H1/\Ok X.K Z m1 H1) I
  ⟨Z,d,m,_,ok,rs,hf,fun x m1 v H1 q e1 ok1 rd=>⟨x,m1,rd,q,e1,ok1⟩⟩) fun v s1 ⟨x,H1,I1,r1,dx,m1,rd,q,e1,ok1⟩=>test_link (aZ (hb pins s1 σ H1 (fun y H2=>∃ (dy:D) (m2:Mu),RD X.K Z m2 H2 dy y/\(r dx dy m2 fun z m3=>∃ k,z=.dat (.bool k)/\(if k=true then h d m3 fun w m4=>r' dy w m4 R else R (.dat (.bool false)) m3))/\Ext X.K Z m1 H1 m2 H2/\Ok X.K Z m2 H2) I1
  ⟨Z,d,m1,_,ok1,rs.ext e1,q,fun y m2 w H2 q2 e2 ok2 rd2=>⟨y,m2,rd2,q2,e2,ok2⟩⟩) fun u s2 ⟨y,H2,I2,r2,dy,m2,rd2,q2,e2,ok2⟩ =>
  aZ (ho pins s2 σ H2 Z m2 x y dx dy v u _ (fun z H3=>∃ (kk:Bool) (m3:Mu),z=.bl kk/\(if kk=true then h d m3 fun w m4=>r' dy w m4 R else R (.dat (.bool false)) m3)/\Ext X.K Z m2 H2 m3 H3/\Ok X.K Z m3 H3) I2 ok2 r1 r2 (rd.ext e2) rd2 q2 (fun z m3 v3 H3 ⟨kk,ez,q3⟩ e3 ok3 rd3=>by subst ez;exact⟨kk,m3,by simpa only[RD,RP] using rd3,q3,e3,ok3⟩))
   fun cv s3 ⟨z,H3,I3,r3,kk,m3,ez,q3,e3,ok3⟩=>?_)) hm
 subst ez
 cases r3
 refine wpAny_truthy_bool ?_
 cases kk with
 | false =>
  obtain⟨k',e',q'⟩:=k (.dat (.bool false)) m3 (.bl false) H3 (by simpa using q3) (e1.trans (e2.trans e3)) ok3 .ofBl
  cases e'
  exact ite_ff ⟨H3,I3,q'⟩
 | true =>
  refine ite_tt (test_last (aZ (hc pins s3 σ H3 (fun w H4=>∃ (dw:D) (m4:Mu),RD X.K Z m4 H4 dw w/\r' dy dw m4 R/\Ext X.K Z m3 H3 m4 H4/\Ok X.K Z m4 H4) I3 ⟨Z,d,m3,_,ok3,((rs.ext e1).ext e2).ext e3,by simpa using q3,fun w m4 v4 H4 q4 e4 ok4 rd4=>⟨w,m4,rd4,q4,e4,ok4⟩⟩)
   fun w' s4 ⟨z',H4,I4,r4,dw,m4,rd4,q4,e4,ok4⟩=>?_))
  refine aZ (ho' pins s4 σ H4 Z m4 y z' dy dw u w' R (fun x H'=>∃ k,x=.bl k/\Q k H') I4 ok4 r2 r4 (rd2.ext (e3.trans e4)) rd4 q4 fun d' m' v' H' h1 h2 h3 h4=>k d' m' v' H' h1 (e1.trans (e2.trans (e3.trans (e4.trans h2)))) h3 h4) fun d' s5 ⟨z2,H5,I5,r5,k2,e5,q5⟩=>?_;subst e5
  cases r5
  exact wpAny_truthy_bool ⟨H5,I5,q5⟩
@[simp] def Fk:D2
 | .dat (.str x),.dat (.str y),m,Q=>Q (.dat (.bool (Txt.contains y x))) m
 | _,_,_,_=>False
theorem G1:dI X (compareOp .In) Fk:=by
 intro pins s σ H Z m x y dx dy v u R Q I ok rx ry r1 r2 h k;unfold Fk at h
 split at h
 ·cases r1.str
  cases r2.str
  obtain⟨t,rfl⟩:=rx;obtain⟨t',rfl⟩:=ry;exact PySem.SB.contains (h:=⟨.bl _,H,I,rfl,k _ m _ H h Ext.refl ok .ofBl⟩)
 ·exact h.elim
theorem DJ{x:Str}{i:Int}{t:Tok}(hg:Gl X x)(hm:X.mg x=some (.int i t))(hd:(x==("__debug__" : Str))=false:=by decide):PE X (.Name x pos) (LE X.K (aE (.int i))) :=
 PE.imp (yS (v:=.int i) hg hm ⟨t,rfl⟩ hd) fun s H Q h=>by
  obtain⟨Z,d,m,R,ok,rs,h,k⟩:=h;exact k _ m _ H h Ext.refl ok (by simp only[RD,RP])
theorem WV{x:Str}{z:Str}{t:Tok}(hg:Gl X x)(hm:X.mg x=some (.str z t))(hd:(x==("__debug__" : Str))=false:=by decide):PE X (.Name x pos) (LE X.K (aE (.str z))) :=
 PE.imp (yS (v:=.str z) hg hm ⟨t,rfl⟩ hd) fun s H Q h=>by
  obtain⟨Z,d,m,R,ok,rs,h,k⟩:=h;exact k _ m _ H h Ext.refl ok (by simp only[RD,RP])
end
theorem Paired.at{α β:Type}{r:α->β->Prop}:∀ {xs:List α} {ys:List β} {i:Nat} {x:α},Paired r xs ys->xs[i]?=some x->∃ y,ys[i]?=some y/\r x y
 | _,_,_,_,.nil,e=>by simp at e
 | _,_,0,x,.cons h _,e=>by
  simp at e;subst e;exact⟨_,rfl,h⟩
 | _,_,i+1,x,.cons _ h,e=>by
  obtain⟨y,h1,h2⟩:=Paired.at (i:=i) h (by simpa using e)
  exact⟨y,by simpa using h1,h2⟩
theorem Paired.len{α β:Type}{r:α->β->Prop}:∀ {xs:List α} {ys:List β},Paired r xs ys->xs.length=ys.length
 | _,_,.nil=>rfl
 | _,_,.cons _ h=>by rw[List.length_cons,List.length_cons,Paired.len h]
section
variable {X:Cx}{o:Expr}{es:List Expr}{fo:DE}{fa:DA}{pos ipos:Pos}{j:Nat}
theorem Ok.ft{K:PySem.W.Frag}{Z:Addr->Prop}{m:Mu}{H:Hp}{a:Addr}{xs:List (List aU×PyData)}(ok:Ok K Z m H)(h:m a=some (.ft xs)):∃ ob vs,H a=some (.frz ob (.dT vs))/\RKV K Z m H xs vs:=by
 obtain⟨o,h1,h2⟩:=ok.g a _ h
 cases o with
 | frz ob u=>cases u<;>first | exact⟨_,_,h1,h2⟩ | exact h2.elim
 | _=>exact h2.elim
end
def Yn(kas:List (aU×Addr)):List (aU×V):=kas.map fun x=>(x.1,V.ref x.2)
theorem Ok.dl{K:PySem.W.Frag}{Z:Addr->Prop}{m:Mu}{H:Hp}{a:Addr}{kas:List (aU×Addr)}(ok:Ok K Z m H)(h:m a=some (.dl kas)):H a=some (.dK (Yn kas)):=by
 obtain⟨o,h1,h2⟩:=ok.g a _ h
 cases o<;>first | (cases (show _=Yn kas from h2);exact h1) | exact h2.elim
def jJ(n lo st:Nat):Nat:=if lo<n then (n-lo-1) / st+1 else 0
def iJ(n lo st:Nat):List Nat:=(List.range (jJ n lo st)).map fun k=>lo+k*st
theorem Vals.at{xs:List V}{us:List Value}:∀ {i:Nat} {x:V},Vals xs us->xs[i]?=some x->∃ u,us[i]?=some u/\RelV x u:=fun h e=>h.get e
theorem PN(t:SetTable)(n:Nat):(t.orStandIn n).led=t.led:=by
 unfold SetTable.orStandIn
 split<;>rfl
theorem XC(t:SetTable)(es:Array (Int×Value))(h:Int)(x:Value):(layNew t es h x).2.1.led=t.led:=by
 unfold layNew
 split
 ·exact PN _ _
 ·rfl
theorem IK(t:SetTable)(es:Array (Int×Value))(n:Nat):(relayAll t es n).2.1.led=t.led/\(t.plain=false->(relayAll t es n).2.1.plain=false):=by
 unfold relayAll
 split
 ·rename_i t' order e;unfold SetTable.relaid SetTable.laid at e
  cases q:SetTable.layClean (SetTable.sizeAbove n-1) (es.map (·.1)) with
  | none=>rw[q]at e;cases e
  | some owner =>
   rw[q]at e;have e:=Option.some.inj e
   have e1:=congrArg Prod.fst e
   dsimp only at e1;dsimp only
   split
   ·exact⟨by rw[<- e1],fun hp=>by rw[<- e1];exact hp⟩
   ·exact⟨rfl,fun _=>rfl⟩
 ·exact⟨rfl,fun _=>rfl⟩
def TSet(P:Program)(w:World)(h:Heap)(a:Addr)(zs:List Str):Prop :=
 ∃ o es ep t,h.get? a=some o/\o.ExactSet/\o.data=.set es ep t/\ElemsOf (dC P w) es.toList/\(∃ vs,StrsAre (es.toList.map (·.2)) vs/\vs.Perm zs)/\zs.Nodup/\es.size<scanBound/\t.fits es.size=true/\t.led=!w.params.followText "set-order"/\(zs≠[]->t.plain=false)
theorem Nq{l l':List Value}(p:l'.Perm l):∀ {vs:List Str},StrsAre l vs->∃ vs',StrsAre l' vs'/\vs'.Perm vs:=fun {vs} h=>by
 have all:∀ v,v∈l'->∃ x t,v=.str x t:=fun v hv=>h.all v (p.mem_iff.mp hv)
 refine⟨l'.map strOf,strsAre_map l' all,?_⟩;rw[<- h.strs];exact p.map strOf
theorem StrsAre.snoc:∀ {l:List Value} {vs:List Str} (z:Str) (tk:Tok),StrsAre l vs->StrsAre (l++[.str z tk]) (vs++[z])
 | _,_,z,tk,.nil=>.cons z tk .nil
 | _,_,z,tk,.cons x t h=>.cons x t (StrsAre.snoc z tk h)
section
variable {P:Program}{w:World}{A:Around}{E:Value->Shared->Prop}{s:Shared}{a:Addr}{zs:List Str}{z:Str}{tk:Tok}
theorem Kv(z:Str)(tk:Tok):(dC P w).is (.inr z) (.str z tk)=true:=O5 z tk
theorem TSet.len{h:Heap}(T:TSet P w h a zs):∃ o es ep t,h.get? a=some o/\o.data=.set es ep t/\es.size=zs.length:=by
 obtain⟨o,es,ep,t,h1,_,h3,_,⟨vs,h5,h6⟩,_⟩:=T;refine⟨o,es,ep,t,h1,h3,?_⟩;have q1:=congrArg List.length h5.strs
 have q2:=h6.length_eq
 simp at q1;omega
theorem Uq{es1:Array (Int×Value)}{t2:SetTable}{o:Obj}{es:Array (Int×Value)}{ep:Nat}{t:SetTable}{zs':List Str}{wasDummy:Bool}{R:Option Bool->Shared->Prop}{g:Bool->Sem Unit}(hg:∀ (b:Bool) (s₁:Shared) (Q':Unit->Shared->Prop),Q' () s₁->wpAny (model P w) A (g b) Q' E s₁)
  (ho:s.heap.get? a=some o) (hex:o.ExactSet) (hd:o.data=.set es ep t) (hel:ElemsOf (dC P w) es1.toList) (hvs:∃ vs,StrsAre (es1.toList.map (·.2)) vs/\vs.Perm zs') (nd:zs'.Nodup) (hb:es1.size<scanBound) (hf:t2.fits es1.size=true) (hl:t2.led=!w.params.followText "set-order") (hp:t2.plain=false)
  (h:∀ h',Heap.SameBut a s.heap h'->TSet P w h' a zs'->R (some true) {s with heap:=h'}) :
  wpAny (model P w) A (do
    storeSet a es1 t2
    if (!wasDummy&&t2.tooFull)=true then do
      g (relayAll t2 es1 (SetTable.grown es1.size)).2.2
      storeSet a (relayAll t2 es1 (SetTable.grown es1.size)).1 (relayAll t2 es1 (SetTable.grown es1.size)).2.1
      pure (some true)
     else pure (some true)) R E s:=by
 have put:∀ (hh:Heap) (o:Obj) (es:Array (Int×Value)) (ep:Nat) (t:SetTable) (es':Array (Int×Value)) (t':SetTable),hh.get? a=some o->o.data=.set es ep t->(hh.update a (Obj.putSet es' t')).get? a=some {o with data:=.set es' (ep+1) t'}:=fun hh o es ep t es' t' e1 e2=>by
  have:=Heap.get?_update_self (Obj.putSet es' t') e1 (by rw[putSet_of es' t' e2];rfl)
  rw[putSet_of es' t' e2]at this;exact this
 refine wpAny_bind (wpAny_storeSet_of ho hd ?_ (fits_of_scanBound hb));have o1:=put s.heap o es ep t es1 t2 ho hd
 have sb1:=Heap.SameBut.update s.heap a (Obj.putSet es1 t2)
 split
 ·have rp:=relayAll_perm t2 es1 (SetTable.grown es1.size)
  have rf:=relayAll_fits t2 es1 (SetTable.grown es1.size)
  obtain⟨rl,rq⟩:=IK t2 es1 (SetTable.grown es1.size)
  generalize relayAll t2 es1 (SetTable.grown es1.size)=Rl at rp rf rl rq ⊢
  obtain⟨es2,t3,gv⟩:=Rl;dsimp only at rp rf rl rq ⊢;have sz2:es2.size=es1.size:=by rw[<- Array.length_toList,rp.length_eq,Array.length_toList]
  refine wpAny_bind (hg _ _ _ (wpAny_bind (wpAny_storeSet_of o1 rfl ?_ (fits_of_scanBound (by rw[sz2];exact hb)))))
  obtain⟨vs,v1,v2⟩:=hvs;obtain⟨vs',v3,v4⟩:=Nq (rp.map (·.2)) v1;exact wpAny_pure (h _ (sb1.trans (Heap.SameBut.update _ a _)) ⟨_,es2,_,t3,put _ _ _ _ _ es2 t3 o1 rfl,hex,rfl,hel.perm rp,⟨vs',v3,v4.trans v2⟩,nd,by rw[sz2];exact hb,rf,by rw[rl];exact hl,fun _=>rq hp⟩)
 ·exact wpAny_pure (h _ sb1 ⟨_,es1,_,t2,o1,hex,rfl,hel,hvs,nd,hb,hf,hl,fun _=>hp⟩)
theorem Q3{es:Array (Int×Value)}{vs zs:List Str}(hv:StrsAre (es.toList.map (·.2)) vs)(hp:vs.Perm zs):(∃ e∈es.toList,(dC P w).is (.inr z) e.2=true)↔z∈zs:=by
 rw[<- hp.mem_iff,<- hv.strs,List.map_map]
 constructor
 ·rintro⟨e,he,q⟩;obtain⟨x,t,ex⟩:=hv.all e.2 (List.mem_map.mpr ⟨e,he,rfl⟩);rw[ex]at q;have q:oG (.inr z) (.str x t)=true:=q
  rcases kH q with⟨i,t',e1,_⟩ | ⟨y,t',e1,e2⟩
  ·cases e1
  ·cases e1
   cases e2
   exact List.mem_map.mpr ⟨e,he,by show strOf e.2=_;rw[ex];rfl⟩
 ·intro h;obtain⟨e,he,q⟩:=List.mem_map.mp h;obtain⟨x,t,ex⟩:=hv.all e.2 (List.mem_map.mpr ⟨e,he,rfl⟩);refine⟨e,he,?_⟩;have q:strOf e.2=z:=q
  rw[ex]at q ⊢;have q:x=z:=q
  subst q;exact Kv x t
theorem b5{Q:Bool->Shared->Prop}(T:TSet P w s.heap a zs)(hroom:zs.length+1<scanBound)
  (h:∀ b h',Heap.SameBut a s.heap h'->TSet P w h' a (if z∈zs then zs else zs++[z])->Q b {s with heap:=h'}) :
  wpAny (model P w) A (setAddHashed a (.str z tk) ((dC P w).hash (.inr z))) Q E s:=by
 have T0:=T
 obtain⟨o,es,ep,t,ho,hex,hd,hel,⟨vs,hv,hp⟩,nd,hb,hf,hl,hpl⟩:=T;have sz0:es.size=zs.length:=by
  have q1:=congrArg List.length hv.strs
  have q2:=hp.length_eq
  simp at q1;omega
 have hkey:=Kv (P:=P) (w:=w) z tk
 have mem:=Q3 (P:=P) (w:=w) (z:=z) hv hp
 unfold setAddHashed setAddHashedIn;refine wpAny_holding (wpAny_bind (wpAny_setState_of ho hd hf ?_));dsimp only;rw[byScan_of (x:=.str z tk) rfl hb hel,if_pos rfl];unfold setAddByScan;refine wpAny_bind (wpAny_bind (wpAny_rule (wpAny_bind (wpAny_setScan_of hkey ho hd hf hel ?_))))
 cases hr:List.findIdx? (fun e=>(dC P w).is (.inr z) e.2) es.toList with
 | some j =>
  obtain⟨hj,hpj,_⟩:=List.findIdx?_eq_some_iff_getElem.mp hr;have hz:z∈zs:=mem.mp ⟨_,List.getElem_mem hj,hpj⟩
  have q:=h false s.heap (Heap.SameBut.refl a s.heap) (by rw[if_pos hz];exact T0)
  exact wpAny_pure (wpAny_pure q)
 | none =>
  have hz:z∉zs:=fun hz=>by
   obtain⟨e,he,q⟩:=mem.mpr hz;have:=List.findIdx?_eq_none_iff.mp hr e he
   rw[q]at this
   cases this
  dsimp only;have lp:=layNew_perm t es ((dC P w).hash (.inr z)) (.str z tk)
  have lf:=layNew_fits t es ((dC P w).hash (.inr z)) (.str z tk)
  have ll:=XC t es ((dC P w).hash (.inr z)) (.str z tk)
  generalize layNew t es ((dC P w).hash (.inr z)) (.str z tk)=L at lp lf ll ⊢
  obtain⟨es1,t1,wasDummy,gave⟩:=L;dsimp only at lp lf ll ⊢;rw[Array.toList_push]at lp;have hel1:ElemsOf (dC P w) es1.toList:=(hel.push hkey rfl).perm lp
  have hb1:es1.size<scanBound:=by
   rw[<- Array.length_toList,lp.length_eq,List.length_append,Array.length_toList,sz0];exact hroom
  have hvs:∃ vs',StrsAre (es1.toList.map (·.2)) vs'/\vs'.Perm (zs++[z]):=by
   have q:=lp.map (·.2)
   rw[List.map_append]at q;obtain⟨vs',v3,v4⟩:=Nq q (StrsAre.snoc z tk hv);exact⟨vs',v3,v4.trans (hp.append_right [z])⟩
  have nd1:(zs++[z]).Nodup:=by
   rw[List.nodup_append];refine⟨nd,by simp,fun x hx y hy=>?_⟩
   rw[List.mem_singleton.mp hy];rintro rfl;exact hz hx
  have fin:∀ h',Heap.SameBut a s.heap h'->TSet P w h' a (zs++[z])->Q true {s with heap:=h'}:=fun h' q1 q2=>h true h' q1 (by rw[if_neg hz];exact q2)
  have gw:∀ (b:Bool) (s₁:Shared) (Q':Unit->Shared->Prop),Q' () s₁->wpAny (model P w) A (match b with | true=>rule "set.scan.the-table-gave-way" | false=>pure ()) Q' E s₁ :=
   fun b s₁ Q' hq=>by cases b<;>first | exact wpAny_pure hq | exact wpAny_rule hq
  refine wpAny_bind (gw _ _ _ ?_)
  cases c:t1.plain with
  | true =>
   rw[if_pos rfl];refine wpAny_bind ?_;rw[hashByValue_scannable 8 (x:=.str z tk) rfl];refine wpAny_pure ?_;refine Uq (t2:={t1 with plain:=false}) (fun b s₁ Q' hq=>gw b s₁ Q' hq) ho hex hd hel1 hvs nd1 hb1 (SetTable.fits_plain_off lf) (by show t1.led=_;rw[ll];exact hl) rfl fun h' q1 q2=>?_
   exact wpAny_pure (fin h' q1 q2)
  | false =>
   rw[if_neg Bool.false_ne_true];refine wpAny_bind (wpAny_pure ?_);refine Uq (t2:=t1) (fun b s₁ Q' hq=>gw b s₁ Q' hq) ho hex hd hel1 hvs nd1 hb1 lf (by rw[ll];exact hl) c fun h' q1 q2=>?_
   exact wpAny_pure (fin h' q1 q2)
end
def gV(zs:List Str)(z:Str):List Str:=if z∈zs then zs else zs++[z]
def gO(val:Nat->Str)(i:Nat):List Str:=((List.range i).map val).foldl gV []
theorem Tt(val:Nat->Str)(i:Nat):gO val (i+1)=gV (gO val i) (val i):=by
 unfold gO;rw[List.range_succ,List.map_append,List.foldl_append];rfl
theorem Wg(val:Nat->Str):∀ i,(gO val i).length<=i
 | 0=>Nat.le_refl _
 | i+1=>by
  have ih:=Wg val i
  rw[Tt];unfold gV
  split
  ·omega
  ·rw[List.length_append,List.length_singleton];omega
section
variable {P:Program}{w:World}{A:Around}{R:Result->Shared->Prop}{I:Addr}{fp wr:List Addr}{G:Array GenState->Array GenState->Prop}{n:Nat}{Pv:Nat->Value->Prop}{St:Nat->Shared->Prop}
theorem TSet.at{h h':Heap}{a:Addr}{zs:List Str}(T:TSet P w h a zs)(k:∀ o,h.get? a=some o->h'.get? a=some o):TSet P w h' a zs:=by
 obtain⟨o,es,ep,t,ho,bC⟩:=T;exact⟨o,es,ep,t,k o ho,bC⟩
theorem Z4(W:WalksS P w A.in1 I fp wr G n Pv St)(S:Addr)(hSf:S∉fp)(val:Nat->Str)(hval:∀ i v,Pv i v->∃ t,v=.str (val i) t)(hb:n+1<scanBound) :
  ∀ (k i:Nat) (s:Shared),n-i=k->i<=n->St i s->TSet P w s.heap S (gO val i)->(∀ s',Moved (S::wr) G s s'->TSet P w s'.heap S (gO val n)->R (.ok (.ret .none)) s') ->
   codeAny (model P w) A (.builtin "set.update.loop" ⟨[.ref S,.ref I],[]⟩) R s:=by
 have nw:S∉wr:=fun z=>hSf (W.sub _ z)
 have sub:∀ b∈wr,b∈S::wr:=fun b hb=>List.mem_cons_of_mem _ hb
 intro k
 induction k with
 | zero =>
  intro i s hk hi hst T hR;obtain rfl:i=n:=by omega
  refine codeAny_builtin F.entry_set_update_loop ?_;rw[Around.under_plainId F.plain_set_update_loop _];show wpAny _ A.in1 (pyNext (.ref I)>>=_) _ _ s
  refine wpAny_bind (W.done s _ _ hst fun s' hm=>?_);show wpAny _ A.in1 (ret Value.none) _ _ s'
  exact wpAny_pure (hR s' (hm.mono sub) (T.at fun o e=>hm.heap S _ nw e))
 | succ k ih =>
  intro i s hk hi hst T hR;refine codeAny_builtin F.entry_set_update_loop ?_;rw[Around.under_plainId F.plain_set_update_loop _];show wpAny _ A.in1 (pyNext (.ref I)>>=_) _ _ s
  refine wpAny_bind (W.item i s _ _ (by omega) hst fun v s' hP hst' hm=>?_)
  obtain⟨t,rfl⟩:=hval i v hP;have T':TSet P w s'.heap S (gO val i):=T.at fun o e=>hm.heap S _ nw e
  show wpAny _ A.in1 (holding [Value.str (val i) t] (setAdd S (.str (val i) t))>>=_) _ _ s'
  refine wpAny_bind (wpAny_holding ?_);unfold setAdd;refine wpAny_holding (wpAny_bind ((dC P w).pyHash (k:=.inr (val i)) (Kv _ _) ?_));have room:(gO val i).length+1<scanBound:=by have:=Wg val i;omega
  refine b5 (s:={s' with toks:=s'.toks+1}) (z:=val i) T' room fun b h' sb T2=>?_;have T3:TSet P w h' S (gO val (i+1)):=by rw[Tt];exact T2
  refine wpAny_pure ⟨plainId_quiet F.plain_set_update_loop _,ih (i+1) _ (by omega) (by omega) (W.frame _ s' _ _ hst' (Nat.le_succ _) fun b hb o e=>?_) T3 fun s'' hm'' T4=>?_⟩
  ·rw[sb.2 b (by rintro rfl;exact hSf hb)]
   exact e
  ·refine hR s'' (Moved.trans W.gtrans ((hm.mono sub).then_heap (Nat.le_succ _) fun b o hb e=>?_) hm'') T4;rw[sb.2 b (by rintro rfl;exact hb List.mem_cons_self)]
   exact e
end
abbrev jO(w:World):Obj:={cls:=.type "set",dict:=none,data:=.set #[] 0 (.fresh 0 0 (!w.params.followText "set-order"))}
section
variable {P:Program}{w:World}{A:Around}{E:Value->Shared->Prop}{s:Shared}
theorem g6{h:Heap}{a:Addr}(e:h.get? a=some (jO w)):TSet P w h a [] :=
 ⟨_,#[],0,_,e,⟨rfl,rfl,rfl⟩,rfl,fun x hx=>by simp at hx,⟨[],.nil,List.Perm.refl _⟩,List.nodup_nil,by decide,by rfl,rfl,fun q=>absurd rfl q⟩
theorem V4(a:Value){Q₁:Value->Shared->Prop}(h:Q₁ (.ref s.heap.objs.size) {s with heap:=s.heap.push (jO w)}):codeAny (model P w) A (.call (.builtin "set.__new__") ⟨[.type "set",a],[]⟩) (wants Q₁ E) s:=by
 refine codeAny_of_tree ?_;show wpAny _ A.in1 (do checkBuiltinCall "set.__new__" ⟨[.type "set",a],[]⟩;again (.builtin "set.__new__" ⟨[.type "set",a],[]⟩)) _ _ s
 refine wpAny_bind (wpAny_of_eq (PySem.F.newCall_set_1 a) (wpAny_pure ⟨plainId_quiet F.plain_set_new _,codeAny_builtin F.entry_set_new ?_⟩));rw[Around.under_plainId F.plain_set_new _];unfold Builtin.«set.__new__» Builtin.Frozenset.newClass;have hsub:=sub_set_self
 obtain⟨hp,g,d,tk,os⟩:=s;dsimp only
 wp_walk
 refine wpAny_askSetting (wpAny_pure ?_);dsimp only;simp only[newObj];exact wpAny_bind (wpAny_alloc (wpAny_pure (wpAny_pure h)))
theorem FY{l:Addr}{items:Array Value}{zs:List Str}{Q:Value->Shared->Prop}(hh:A.handled=none)(hl:s.heap.IsList l items)(hi:StrsAre items.toList zs)(hb:items.size+1<scanBound)
  (h:∀ (h':Heap) (tk:Nat),TSet P w h' s.heap.objs.size (gO (fun i=>zs.getD i "") items.size)->(∀ b o,b<s.heap.objs.size->s.heap.get? b=some o->h'.get? b=some o)->Q (.ref s.heap.objs.size) {s with heap:=h',toks:=tk}) :
  wpAny (model P w) A (call (.type "set") [.ref l]) Q E s:=by
 obtain⟨c,tl,hmro⟩:=F.called_set.mro;have hmade:=F.called_set.made
 have hsub:=F.called_set.sub
 refine wpAny_call (codeAny_of_tree ?_);show wpAny _ _ (callAny (.type "set") _) _ _ _
 refine wpAny_pure ⟨Code.quiet_builtin _ (by decide +kernel),codeAny_builtin F.entry_type_call ?_⟩
 rw[Around.under_plain (weight_type_call_type "set" [.ref l] []) rfl];have h1:=F.called_set.notType
 have h2:=F.called_set.canCreate
 have hct:=PySem.F.typeCall_set_1 (.ref l)
 repeat (any_goals (first | assumption | wp_step))
 refine codeAny_mono (V4 (.ref l) (E:=E) (Q₁:=fun obj s₁=>obj=.ref s.heap.objs.size/\s₁={s with heap:=s.heap.push (jO w)}) ⟨rfl,rfl⟩) fun r s₁ hr=>?_
 cases r with
 | error e=>exact hr
 | ok fl =>
  cases fl with
  | ret obj =>
   obtain⟨rfl,rfl⟩:=hr;have hS:(s.heap.push (jO w)).get? s.heap.objs.size=some (jO w):=Heap.get?_push_size _ rfl
   have hT:Shared.TypeIs {s with heap:=s.heap.push (jO w)} (.ref s.heap.objs.size) "set":=⟨_,hS,rfl⟩
   have hli:=F.called_set.init.lookup
   have hbi:=F.called_set.init.bind (.ref s.heap.objs.size)
   repeat (any_goals (first | assumption | wp_step))
   refine codeAny_mono (codeAny_call_builtin (R:=wants (fun r s₂=>r=.none/\∃ h' tk,s₂={s with heap:=h',toks:=tk}/\TSet P w h' s.heap.objs.size (gO (fun i=>zs.getD i "") items.size) /\
     (∀ b o,b<s.heap.objs.size->s.heap.get? b=some o->h'.get? b=some o)) E) F.called_set.init.plain F.entry_set_init (check_set_init_1 hT ?_)) fun r₂ s₂ hr₂=>?_
   ·obtain⟨ol,hol,hcl,nl,hdl⟩:=hl;obtain⟨ocls,odict,odata,oslots⟩:=ol;simp only at hcl hdl;subst hcl;subst hdl;have hol':(s.heap.push (jO w)).get? l=some {cls:=.type "list",dict:=odict,data:=.seq items nl,slots:=oslots}:=Heap.get?_push_of_some _ hol
    have hsls:=PySem.F.sub_list_set
    have hslf:=PySem.F.sub_list_frozenset
    have hne:(Value.type "list" == Value.type "dict")=false:=by decide
    have hl1:(s.heap.push (jO w)).IsList l items:=⟨_,hol',rfl,nl,rfl⟩
    unfold Builtin.«set.__init__» noKeywords Builtin.Frozenset.updateFrom
    generalize hPI:pyIter=PI
    wp_walk
    subst hPI;refine wpAny_pyIter_list hl1 (wpAny_bind (wpAny_runValue ?_));have ltl:l<s.heap.objs.size:=Heap.lt_size hol
    have hh3:A.in1.in1.in1.handled=none:=by simp[hh]
    have nI:l≠(s.heap.push (jO w)).objs.size:=by rw[Heap.size_push];exact Nat.ne_of_lt (Nat.lt_succ_of_lt ltl)
    have hSf:s.heap.objs.size∉[(s.heap.push (jO w)).objs.size,l]:=by
     rw[Heap.size_push];simp only[List.mem_cons,List.mem_singleton,List.not_mem_nil,or_false,not_or];exact⟨Nat.ne_of_lt (Nat.lt_succ_self _),Nat.ne_of_gt ltl⟩
    have hval:∀ (i:Nat) (v:Value),items[i]?=some v->∃ t,v=.str ((fun i=>zs.getD i "") i) t:=fun i v hv=>by
     have hv:items.toList[i]?=some v:=by rw[Array.getElem?_toList];exact hv
     have hm:v∈items.toList:=List.mem_of_getElem? hv
     obtain⟨x,t,rfl⟩:=hi.all v hm;refine⟨t,?_⟩;have:zs[i]?=some x:=by rw[<- hi.strs,List.getElem?_map,hv];rfl
     show _=Value.str (zs.getD i "") t
     rw[List.getD_eq_getElem?_getD,this];rfl
    refine Z4 ((Walks.list hh3 _ l nI items).toS) s.heap.objs.size hSf (fun i=>zs.getD i "") hval hb (items.size-0) 0 _ (by omega) (Nat.zero_le _) ⟨⟨_,Heap.get?_push_size _ rfl,rfl,rfl⟩,(hl1.push _)⟩ ?hS0 ?hR
    case hS0=>exact g6 (Heap.get?_push_of_some _ hS)
    case hR =>
     intro s' hm T;obtain⟨h',g',d',tk',os'⟩:=s';have eg:g'=s.gens:=hm.gens
     have ed:d'=s.drawn:=hm.drawn
     have eo:os'=s.os:=hm.os
     subst eg;subst ed;subst eo;show wpAny _ _ _ _ _ _
     refine wpAny_pure ?_;show wpAny _ _ (ret Value.none) _ _ _
     refine wpAny_pure ⟨rfl,h',tk',rfl,T,fun b o hb e=>?_⟩;have n1:b≠s.heap.objs.size:=Nat.ne_of_lt hb
     have n2:b≠(s.heap.push (jO w)).objs.size:=by rw[Heap.size_push];exact Nat.ne_of_lt (Nat.lt_succ_of_lt hb)
     exact hm.heap b o (by simp only[List.mem_cons,List.mem_singleton,List.not_mem_nil,or_false,not_or];exact⟨n1,n2⟩) (Heap.get?_push_of_some _ (Heap.get?_push_of_some _ e))
   ·cases r₂ with
    | error e=>exact hr₂
    | ok fl₂ =>
     cases fl₂ with
     | ret r =>
      obtain⟨rfl,h',tk,rfl,T,hk'⟩:=hr₂
      repeat (any_goals (first | assumption | wp_step))
      exact h _ _ T hk'
     | _=>exact hr₂.elim
  | _=>exact hr.elim
end
theorem Tf:Manifest.owners.lookup (String.ofList "rotareti_tes".toList.reverse)=some Manifest.sig_set_iterator:=by kernel_rfl
theorem iA:Slot "set_iterator" "__next__" "set_iterator.__next__":=.of (owner:="set_iterator") (n:="__next__") (by rw[typeLookup_type,builtinLookup_eq_fast];kernel_rfl) (by decide +kernel) (by decide +kernel) (by decide +kernel) (by first | exact .inl (by decide +kernel) | exact .inr (by decide +kernel)) (by rw[isSubtype_type];kernel_rfl)
theorem An:entryFor table "set_iterator.__next__"=some Builtin.«set_iterator.__next__»:=entryFor_of_tree (by kernel_rfl)
theorem yM(a:Value):argsOk "set_iterator.__next__" ⟨[a],[]⟩:=by
 unfold argsOk;rw[signature?_of (id:="set_iterator.__next__") (n:="__txen__".toList) (o:="rotareti_tes".toList) (by kernel_rfl) Tf]
 kernel_rfl
theorem K1:Slot "set_iterator" "__iter__" "set_iterator.__iter__":=.of (owner:="set_iterator") (n:="__iter__") (by rw[typeLookup_type,builtinLookup_eq_fast];kernel_rfl) (by decide +kernel) (by decide +kernel) (by decide +kernel) (by first | exact .inl (by decide +kernel) | exact .inr (by decide +kernel)) (by rw[isSubtype_type];kernel_rfl)
theorem MA(a:Value):argsOk "set_iterator.__iter__" ⟨[a],[]⟩:=by
 unfold argsOk;rw[signature?_of (id:="set_iterator.__iter__") (n:="__reti__".toList) (o:="rotareti_tes".toList) (by kernel_rfl) Tf]
 kernel_rfl
theorem i9:entryFor table "set_iterator.__iter__"=some Builtin.«dict_keyiterator.__iter__»:=entryFor_alias (id':="dict_keyiterator.__iter__") (by kernel_rfl) (by first | rfl | decide +kernel | (unfold String.splitOn;simp +decide [String.splitOnAux])) (by decide +kernel) (by kernel_rfl)
theorem SA:entryFor table "set.__iter__"=some Builtin.«frozenset.__iter__»:=entryFor_alias (id':="frozenset.__iter__") (by kernel_rfl) rfl (by decide +kernel) (by kernel_rfl)
abbrev fW(first:Value)(i:Nat)(S:Addr)(n ep:Nat):Obj:={cls:=.type "set_iterator",dict:=none,data:=.fields #[first,.int i 0,.ref S,.int n 0,.int ep 0],slots:=#[]}
section
variable {P:Program}{w:World}{A:Around}{E:Value->Shared->Prop}{s:Shared}{I S T:Addr}{o:Obj}{es:Array (Int×Value)}{ep i:Nat}{t:SetTable}{iJ:Array Value}
theorem mU{first:Value}{n:Nat}(h:s.heap.get? I=some (fW first i S n ep)):s.TypeIs (.ref I) "set_iterator":=⟨_,h,rfl⟩
theorem WC{Q:Option Value->Shared->Prop}{p:Nat}{tk:Tok}{x:Int×Value}(hI:s.heap.get? I=some (fW (.ref T) i S es.size ep))(hT:IsTup s.heap T iJ)(hS:s.heap.get? S=some o)(hd:o.data=.set es ep t)(hf:t.fits es.size=true)
  (hp:iJ[i]?=some (.int p tk)) (hx:es[p]?=some x) (hQ:∀ h',h'.get? I=some (fW (.ref T) (i+1) S es.size ep)->Heap.SameBut I s.heap h'->Q (some x.2) {s with heap:=h'}):wpAny (model P w) A (pyNext (.ref I)) Q E s:=by
 have ty:=mU hI
 unfold pyNext;refine wpAny_bind (wpAny_attempt (wpAny_callSpecial?_slot (name:=Str.ofString "__next__") ty iA (wpAny_call_entry iA ty An ?_ (yM _))));unfold Builtin.«set_iterator.__next__»;refine wpAny_bind (wpAny_pure ?_);refine wpAny_bind (wpAny_fieldsOf hI rfl ?_);show wpAny _ _ (setEntries S>>=_) _ _ s
 refine wpAny_bind (wpAny_setEntries_of hS hd hf ?_);rw[if_neg (by simp)]
 show wpAny _ _ (seqItems? (.ref T)>>=_) _ _ s
 refine wpAny_bind ?_;obtain⟨ot,ht1,ht2,nt,ht3⟩:=id hT;unfold seqItems?;refine wpAny_bind (wpAny_load ht1 ?_);rw[ht3];refine wpAny_pure ?_;dsimp only;rw[Int.toNat_natCast,hp];dsimp only;rw[Int.toNat_natCast,Int.toNat_natCast];refine wpAny_bind ?_;unfold setNextDrawn;refine wpAny_bind (wpAny_setState_of hS hd hf ?_);dsimp only;rw[if_neg (by simp)]
 rw[hx];refine wpAny_pure ?_;refine wpAny_bind (wpAny_setField_rec hI (by simp) fun h' e sb=>?_)
 exact wpAny_pure ⟨_,rfl,wpAny_pure (hQ h' e sb)⟩
theorem Ol{X:Fin->Shared->Prop}{Q:Option Value->Shared->Prop}(hh:A.handled=none)(h:∀ h',(∀ b ob,s.heap.get? b=some ob->h'.get? b=some ob)->Q none {s with heap:=h'}) :
  wpAny (model P w) A.in1 (newExc (.type "StopIteration") []>>=fun e=>raiseNew e) X (fun e s'=>wpAny (model P w) A (isInstance e (.type "StopIteration")>>=fun b=>if b=true then pure none else throw e) Q E s') s:=by
 refine wpAny_bind ?_;simp only[newExc,newTuple];refine wpAny_bind (wpAny_newObj_type ?_ (by size_fits))
 refine wpAny_bind (m:=firstArgMember _ _) (wpAny_of_eq (a:=Value.none) (by first | rfl | (simp only[firstArgMember];rfl)) (wpAny_newObj_type ?_ (by size_fits)))
 simp only[raiseNew];refine wpAny_bind (wpAny_handled ?_);rw[show A.in1.handled=none from hh]
 refine wpAny_bind (wpAny_pure (wpAny_throw ?_));refine wpAny_bind (wpAny_isInstance (T:="StopIteration") (b:=true) ⟨_,Heap.get?_push_size _ rfl,rfl⟩ isSubtype_stop (wpAny_pure (h _ fun b ob e=>?_)));exact Heap.get?_push_of_some _ (Heap.get?_push_of_some _ e)
theorem AW{Q:Option Value->Shared->Prop}(hh:A.handled=none)(hI:s.heap.get? I=some (fW (.ref T) i S es.size ep))(hT:IsTup s.heap T iJ)(hS:s.heap.get? S=some o)(hd:o.data=.set es ep t)(hf:t.fits es.size=true)
  (hp:iJ[i]?=none) (hQ:∀ h',(∀ b ob,b≠I->s.heap.get? b=some ob->h'.get? b=some ob)->Q none {s with heap:=h'}):wpAny (model P w) A (pyNext (.ref I)) Q E s:=by
 have ty:=mU hI
 unfold pyNext;refine wpAny_bind (wpAny_attempt (wpAny_callSpecial?_slot (name:=Str.ofString "__next__") ty iA (wpAny_call_entry iA ty An ?_ (yM _))));unfold Builtin.«set_iterator.__next__»;refine wpAny_bind (wpAny_pure (wpAny_bind (wpAny_fieldsOf hI rfl ?_)));show wpAny _ _ (setEntries S>>=_) _ _ s
 refine wpAny_bind (wpAny_setEntries_of hS hd hf ?_);rw[if_neg (by simp)]
 show wpAny _ _ (seqItems? (.ref T)>>=_) _ _ s
 refine wpAny_bind ?_;obtain⟨ot,ht1,ht2,nt,ht3⟩:=id hT;unfold seqItems?;refine wpAny_bind (wpAny_load ht1 ?_);rw[ht3];refine wpAny_pure ?_;dsimp only;rw[Int.toNat_natCast,hp];refine wpAny_bind (wpAny_setField_rec hI (by simp) fun h1 e1 sb1=>?_)
 refine wpAny_bind (wpAny_setField_rec (s:={s with heap:=h1}) e1 (by simp) fun h2 e2 sb2=>?_)
 refine Ol (s:={s with heap:=h2}) hh fun h' k=>hQ h' fun b ob hb e=>k b ob ?_;rw[sb2.2 b hb];show h1.get? b=_
 rw[sb1.2 b hb];exact e
theorem X1{Q:Option Value->Shared->Prop}{x:Int×Value}(bt:w.params.followText "set-order"=true)(hI:s.heap.get? I=some (fW (.int 0 0) i S es.size ep))(hS:s.heap.get? S=some o)(hd:o.data=.set es ep t)(hf:t.fits es.size=true)
  (hx:(pickOrder (w.params.setOrder S ep) es)[i]?=some x) (hQ:∀ h',h'.get? I=some (fW (.int 0 0) (i+1) S es.size ep)->Heap.SameBut I s.heap h'->Q (some x.2) {s with heap:=h'}):wpAny (model P w) A (pyNext (.ref I)) Q E s:=by
 have ty:=mU hI
 unfold pyNext;refine wpAny_bind (wpAny_attempt (wpAny_callSpecial?_slot (name:=Str.ofString "__next__") ty iA (wpAny_call_entry iA ty An ?_ (yM _))));unfold Builtin.«set_iterator.__next__»;refine wpAny_bind (wpAny_pure (wpAny_bind (wpAny_fieldsOf hI rfl ?_)));show wpAny _ _ (setEntries S>>=_) _ _ s
 refine wpAny_bind (wpAny_setEntries_of hS hd hf ?_);rw[if_neg (by simp)]
 show wpAny _ _ (setNext S 0 i ep>>=_) _ _ s
 refine wpAny_bind ?_;unfold setNext;refine wpAny_bind (wpAny_setState_of hS hd hf ?_);dsimp only;unfold setsByText;refine wpAny_bind (wpAny_bind (wpAny_askSetting (wpAny_pure ?_)));show wpAny _ _ (if w.params.followText "set-order"=true then _ else _) _ _ s
 rw[if_pos bt,if_neg (by simp)]
 refine wpAny_bind ?_;unfold setWalk;refine wpAny_bind (wpAny_setState_of hS hd hf ?_);dsimp only;unfold setsByText;refine wpAny_bind (wpAny_bind (wpAny_askSetting (wpAny_pure ?_)));show wpAny _ _ (if w.params.followText "set-order"=true then _ else _) _ _ s
 rw[if_pos bt];refine wpAny_bind (wpAny_askSetting (wpAny_pure (wpAny_pure ?_)));show wpAny _ _ (match ((pickOrder (w.params.setOrder S ep) es)[i]?).map fun e=>(e.2,0) with | some (x,next)=>_ | none=>_) _ _ s
 rw[hx];refine wpAny_bind (wpAny_setField_rec hI (by simp) fun h1 e1 sb1=>?_)
 refine wpAny_bind (wpAny_setField_rec (s:={s with heap:=h1}) e1 (by simp) fun h2 e2 sb2=>?_)
 exact wpAny_pure ⟨_,rfl,wpAny_pure (hQ h2 e2 (sb1.trans sb2))⟩
theorem UK{Q:Option Value->Shared->Prop}(hh:A.handled=none)(bt:w.params.followText "set-order"=true)(hI:s.heap.get? I=some (fW (.int 0 0) i S es.size ep))(hS:s.heap.get? S=some o)(hd:o.data=.set es ep t)(hf:t.fits es.size=true)
  (hx:(pickOrder (w.params.setOrder S ep) es)[i]?=none) (hQ:∀ h',(∀ b ob,b≠I->s.heap.get? b=some ob->h'.get? b=some ob)->Q none {s with heap:=h'}):wpAny (model P w) A (pyNext (.ref I)) Q E s:=by
 have ty:=mU hI
 unfold pyNext;refine wpAny_bind (wpAny_attempt (wpAny_callSpecial?_slot (name:=Str.ofString "__next__") ty iA (wpAny_call_entry iA ty An ?_ (yM _))));unfold Builtin.«set_iterator.__next__»;refine wpAny_bind (wpAny_pure (wpAny_bind (wpAny_fieldsOf hI rfl ?_)));show wpAny _ _ (setEntries S>>=_) _ _ s
 refine wpAny_bind (wpAny_setEntries_of hS hd hf ?_);rw[if_neg (by simp)]
 show wpAny _ _ (setNext S 0 i ep>>=_) _ _ s
 refine wpAny_bind ?_;unfold setNext;refine wpAny_bind (wpAny_setState_of hS hd hf ?_);dsimp only;unfold setsByText;refine wpAny_bind (wpAny_bind (wpAny_askSetting (wpAny_pure ?_)));show wpAny _ _ (if w.params.followText "set-order"=true then _ else _) _ _ s
 rw[if_pos bt,if_neg (by simp)]
 refine wpAny_bind ?_;unfold setWalk;refine wpAny_bind (wpAny_setState_of hS hd hf ?_);dsimp only;unfold setsByText;refine wpAny_bind (wpAny_bind (wpAny_askSetting (wpAny_pure ?_)));show wpAny _ _ (if w.params.followText "set-order"=true then _ else _) _ _ s
 rw[if_pos bt];refine wpAny_bind (wpAny_askSetting (wpAny_pure (wpAny_pure ?_)));show wpAny _ _ (match ((pickOrder (w.params.setOrder S ep) es)[i]?).map fun e=>(e.2,0) with | some (x,next)=>_ | none=>_) _ _ s
 rw[hx];refine wpAny_bind (wpAny_setField_rec hI (by simp) fun h1 e1 sb1=>?_)
 refine Ol (s:={s with heap:=h1}) hh fun h' k=>hQ h' fun b ob hb e=>k b ob ?_;rw[sb1.2 b hb];exact e
end
theorem GA(j:Nat):SetTable.below #[j] 0=0:=by simp[SetTable.below,SetTable.below.go]
theorem WE(j:Nat):SetTable.below #[j] (j+1)=1:=by simp[SetTable.below,SetTable.below.go]
theorem UB(slot:Nat):SetTable.below #[] slot=0:=by simp[SetTable.below,SetTable.below.go]
section
variable {P:Program}{w:World}{A:Around}{E:Value->Shared->Prop}{s:Shared}{I S T:Addr}{o:Obj}{es:Array (Int×Value)}{ep i slot:Nat}{t:SetTable}
theorem Xo{Q:Option Value->Shared->Prop}(hh:A.handled=none)(bt:w.params.followText "set-order"=false)(hI:s.heap.get? I=some (fW (.int slot 0) i S es.size ep))(hS:s.heap.get? S=some o)(hd:o.data=.set es ep t)(hf:t.fits es.size=true)(hl:t.led=true)(h1:es.size<=1)
  (hsome:∀ x j h',es[SetTable.below t.place slot]?=some x->t.place[SetTable.below t.place slot]?=some j->h'.get? I=some (fW (.int ((j+1:Nat):Int) 0) (i+1) S es.size ep)->Heap.SameBut I s.heap h'->Q (some x.2) {s with heap:=h'})
  (hnone:∀ h',es[SetTable.below t.place slot]?=none->(∀ b ob,b≠I->s.heap.get? b=some ob->h'.get? b=some ob)->Q none {s with heap:=h'}):wpAny (model P w) A (pyNext (.ref I)) Q E s:=by
 have ty:=mU hI
 have hpl:t.place.size=es.size:=by
  simp only[SetTable.fits,Bool.and_eq_true,beq_iff_eq]at hf;exact hf.1
 unfold pyNext;refine wpAny_bind (wpAny_attempt (wpAny_callSpecial?_slot (name:=Str.ofString "__next__") ty iA (wpAny_call_entry iA ty An ?_ (yM _))));unfold Builtin.«set_iterator.__next__»;refine wpAny_bind (wpAny_pure (wpAny_bind (wpAny_fieldsOf hI rfl ?_)));show wpAny _ _ (setEntries S>>=_) _ _ s
 refine wpAny_bind (wpAny_setEntries_of hS hd hf ?_);rw[if_neg (by simp)]
 show wpAny _ _ (setNext S slot i ep>>=_) _ _ s
 refine wpAny_bind ?_;unfold setNext;refine wpAny_bind (wpAny_setState_of hS hd hf ?_);dsimp only;unfold setsByText;refine wpAny_bind (wpAny_bind (wpAny_askSetting (wpAny_pure ?_)));show wpAny _ _ (if w.params.followText "set-order"=true then _ else _) _ _ s
 rw[bt,if_neg Bool.false_ne_true];show wpAny _ _ (if (!t.plain&&decide (es.size > 1))=true then _ else _) _ _ s
 rw[if_neg (by rw[Bool.and_eq_true];intro q;have:=of_decide_eq_true q.2;omega)]
 refine wpAny_bind ?_;show wpAny _ _ (if (!t.led && !es.isEmpty)=true then _ else _) _ _ s
 rw[hl,if_neg (by simp)]
 refine wpAny_pure (wpAny_pure ?_)
 cases e1:es[SetTable.below t.place slot]? with
 | none =>
  dsimp only;refine wpAny_bind (wpAny_setField_rec hI (by simp) fun h1 e1' sb1=>?_)
  refine Ol (s:={s with heap:=h1}) hh fun h' k=>hnone h' e1 fun b ob hb e=>k b ob ?_;rw[sb1.2 b hb];exact e
 | some x =>
  have lt:SetTable.below t.place slot<es.size:=(Array.getElem?_eq_some_iff.mp e1).1
  have e2:t.place[SetTable.below t.place slot]?=some (t.place[SetTable.below t.place slot]'(by omega)):=Array.getElem?_eq_getElem (by omega)
  rw[e2];dsimp only;refine wpAny_bind (wpAny_setField_rec hI (by simp) fun h1 e1' sb1=>?_)
  refine wpAny_bind (wpAny_setField_rec (s:={s with heap:=h1}) e1' (by simp) fun h2 e2' sb2=>?_)
  exact wpAny_pure ⟨_,rfl,wpAny_pure (hsome x _ h2 e1 e2 e2' (sb1.trans sb2))⟩
theorem Kb{first:Value}{n:Nat}{Q:Value->Shared->Prop}(hI:s.heap.get? I=some (fW first i S n ep))(h:Q (.ref I) s):wpAny (model P w) A (pyIter (.ref I)) Q E s:=by
 refine wpAny_pyIter_slot (mU hI) K1 (wpAny_call_entry K1 (mU hI) i9 ?_ (MA _));show wpAny _ _ (ret (.ref I)) _ _ s
 exact wpAny_pure ⟨_,rfl,"set_iterator",_,mU hI,iA.lookup,h⟩
theorem t8(hh:A.handled=none)(iJ:Array Value)(qs:List Nat)(ne1:S≠I)(ne2:T≠I)(hd:o.data=.set es ep t)(hf:t.fits es.size=true)(hpl:iJ.toList=qs.map fun q:Nat=>Value.int q 0)(hq:∀ q∈qs,q<es.size)(hn:qs.length=es.size) :
  Walks P w A I [I,S,T] [I] es.size (fun i v=>∃ q x,qs[i]?=some q/\es[q]?=some x/\v=x.2) (fun i h=>h.get? I=some (fW (.ref T) i S es.size ep)/\h.get? S=some o/\h.get? T=some {cls:=.type "tuple",data:=.seq iJ}) where
 sub:=fun b hb=>by simp at hb;simp[hb]
 frame:=fun _ _ _ st hk=>⟨hk I (by simp) _ st.1,hk S (by simp) _ st.2.1,hk T (by simp) _ st.2.2⟩
 item:=fun i s Q E hi st hQ=>by
  have lt:i<qs.length:=by omega
  have e1:qs[i]?=some qs[i]:=List.getElem?_eq_getElem lt
  have lq:=hq _ (List.getElem_mem lt)
  have e2:es[qs[i]]?=some es[qs[i]]:=Array.getElem?_eq_getElem lq
  have e3:iJ[i]?=some (.int (qs[i]:Nat) 0):=by rw[<- Array.getElem?_toList,hpl,List.getElem?_map,e1];rfl
  refine WC st.1 (iJ:=iJ) ⟨_,st.2.2,rfl,0,rfl⟩ st.2.1 hd hf e3 e2 fun h' g sb=>?_;exact hQ _ h' s.toks ⟨_,_,e1,e2,rfl⟩ ⟨g,(sb.2 S ne1).trans st.2.1,(sb.2 T ne2).trans st.2.2⟩ fun b ob hb e=>(sb.2 b (by simpa using hb)).trans e
 done:=fun s Q E st hQ=>by
  refine AW hh st.1 (iJ:=iJ) ⟨_,st.2.2,rfl,0,rfl⟩ st.2.1 hd hf ?_ fun h' k=>hQ h' s.toks fun b ob hb e=>k b ob (by simpa using hb) e
  rw[<- Array.getElem?_toList,hpl,List.getElem?_map,List.getElem?_eq_none (by omega)]
  rfl
 self:=fun _ _ _ _ st hQ=>Kb st.1 hQ
theorem NG(hh:A.handled=none)(bt:w.params.followText "set-order"=true)(ne1:S≠I)(hd:o.data=.set es ep t)(hf:t.fits es.size=true)(hn:(pickOrder (w.params.setOrder S ep) es).size=es.size) :
  Walks P w A I [I,S] [I] es.size (fun i v=>∃ x,(pickOrder (w.params.setOrder S ep) es)[i]?=some x/\v=x.2) (fun i h=>h.get? I=some (fW (.int 0 0) i S es.size ep)/\h.get? S=some o) where
 sub:=fun b hb=>by simp at hb;simp[hb]
 frame:=fun _ _ _ st hk=>⟨hk I (by simp) _ st.1,hk S (by simp) _ st.2⟩
 item:=fun i s Q E hi st hQ=>by
  have e1:(pickOrder (w.params.setOrder S ep) es)[i]?=some ((pickOrder (w.params.setOrder S ep) es)[i]'(by omega)):=Array.getElem?_eq_getElem (by omega)
  refine X1 bt st.1 st.2 hd hf e1 fun h' g sb=>?_;exact hQ _ h' s.toks ⟨_,e1,rfl⟩ ⟨g,(sb.2 S ne1).trans st.2⟩ fun b ob hb e=>(sb.2 b (by simpa using hb)).trans e
 done:=fun s Q E st hQ=>UK hh bt st.1 st.2 hd hf (Array.getElem?_eq_none (by omega)) fun h' k=>hQ h' s.toks fun b ob hb e=>k b ob (by simpa using hb) e
 self:=fun _ _ _ _ st hQ=>Kb st.1 hQ
theorem LZ(hh:A.handled=none)(bt:w.params.followText "set-order"=false)(ne1:S≠I)(hd:o.data=.set es ep t)(hf:t.fits es.size=true)(hl:t.led=true)(h1:es.size<=1) :
  Walks P w A I [I,S] [I] es.size (fun i v=>∃ x,es[i]?=some x/\v=x.2) (fun i h=>(∃ slot:Nat,h.get? I=some (fW (.int (slot:Int) 0) i S es.size ep)/\SetTable.below t.place slot=i)/\h.get? S=some o) where
 sub:=fun b hb=>by simp at hb;simp[hb]
 frame:=fun _ _ _ st hk=>⟨let ⟨slot,e,q⟩:=st.1;⟨slot,hk I (by simp) _ e,q⟩,hk S (by simp) _ st.2⟩
 item:=fun i s Q E hi st hQ=>by
  obtain⟨⟨slot,e,q⟩,hS⟩:=st;have hpl:t.place.size=es.size:=by
   simp only[SetTable.fits,Bool.and_eq_true,beq_iff_eq]at hf;exact hf.1
  refine Xo hh bt e hS hd hf hl h1 (fun x j h' g1 g2 g3 sb=>?_) fun h' g _=>?_
  ·rw[q]at g1 g2;refine hQ _ h' s.toks ⟨x,g1,rfl⟩ ⟨⟨j+1,g3,?_⟩,(sb.2 S ne1).trans hS⟩ fun b ob hb e=>(sb.2 b (by simpa using hb)).trans e
   obtain rfl:i=0:=by omega
   have:t.place=#[j]:=by
    have l1:t.place.size=1:=by omega
    apply Array.ext
    ·simpa using l1
    ·intro k k1 k2;obtain rfl:k=0:=by simp at k2;omega
     have:=Array.getElem?_eq_getElem k1
     rw[g2]at this;simpa using (Option.some.inj this).symm
   rw[this,WE]
  ·rw[q,Array.getElem?_eq_getElem hi]at g
   cases g
 done:=fun s Q E st hQ=>by
  obtain⟨⟨slot,e,q⟩,hS⟩:=st;refine Xo hh bt e hS hd hf hl h1 (fun x j h' g1 g2 g3 sb=>?_) fun h' g k=>hQ h' s.toks fun b ob hb e=>k b ob (by simpa using hb) e
  rw[q,Array.getElem?_eq_none (Nat.le_refl _)]at g1
  cases g1
 self:=fun _ _ _ _ st hQ=>let ⟨⟨_,e,_⟩,_⟩:=st;Kb e hQ
end
theorem Rh{α:Type}:∀ {l:List α} {n:Nat} (h:n<l.length),(l[n]::l.eraseIdx n).Perm l
 | x::l,0,h=>List.Perm.refl _
 | x::l,n+1,h=>by
  have ih:=Rh (l:=l) (n:=n) (by simpa using h)
  rw[List.eraseIdx_cons_succ];exact(List.Perm.swap _ _ _).trans (ih.cons x)
theorem D8{α:Type}(next:Nat->Nat):∀ (fuel k:Nat) (left:List α) (out:Array α),left.length=fuel->(pickOrder.go next fuel k left out).toList.Perm (out.toList++left)
 | 0,k,left,out,h=>by
  have:left=[]:=List.length_eq_zero_iff.mp h
  subst this;simp[pickOrder.go]
 | fuel+1,k,left,out,h=>by
  have lt:next k%left.length<left.length:=Nat.mod_lt _ (by omega)
  unfold pickOrder.go;rw[List.getElem?_eq_getElem lt];dsimp only;refine(D8 next fuel (k+1) _ _ (by rw[List.length_eraseIdx_of_lt lt];omega)).trans ?_
  rw[Array.toList_push,List.append_assoc];exact List.Perm.append_left _ (Rh lt)
theorem V7{α:Type}(next:Nat->Nat)(xs:Array α):(pickOrder next xs).toList.Perm xs.toList:=by
 unfold pickOrder;have:=D8 next xs.size 0 xs.toList #[] (by simp)
 simpa using this
section
variable {P:Program}{w:World}{A:Around}{E:Value->Shared->Prop}{s:Shared}{I S T:Addr}{o:Obj}{es:Array (Int×Value)}{ep i slot:Nat}{t:SetTable}
theorem XB{src:Source}{n:Nat}{Q:Nat->Shared->Prop}(hn:n≠0)(h:∀ i d',i<n->Q i {s with drawn:=d'}):wpAny (model P w) A (choose src n) Q E s:=fun Γ p hΓ=>by
 unfold choose;rw[Sem.wp_choose];refine⟨hn,?_⟩;rw[Sem.wp_pure];exact h _ _ (Nat.mod_lt _ (by omega))
theorem Sf{α:Type}:∀ (n:Nat) (xs:List α) (s:Shared) (Q:List α->Shared->Prop),xs.length=n->(∀ ys d',ys.Perm xs->Q ys {s with drawn:=d'})->wpAny (model P w) A (drawOrder n xs) Q E s
 | 0,xs,s,Q,hl,h=>by
  have:xs=[]:=List.length_eq_zero_iff.mp hl
  subst this;unfold drawOrder;exact wpAny_pure (h [] s.drawn (List.Perm.refl _))
 | n+1,[],s,Q,hl,h=>by cases hl
 | n+1,x::xs,s,Q,hl,h=>by
  unfold drawOrder;refine wpAny_bind (XB (by simp) fun i d' hi=>?_)
  rw[List.getElem?_eq_getElem hi];dsimp only;refine wpAny_bind (Sf n ((x::xs).eraseIdx i) _ _ (by rw[List.length_eraseIdx_of_lt hi];simp at hl ⊢;omega) fun ys d'' hp=>?_)
  refine wpAny_pure (h _ d'' ?_);exact(List.Perm.cons _ hp).trans (Rh hi)
theorem TU{Q:Value->Shared->Prop}(hS:s.heap.get? S=some o)(hx:o.ExactSet)(hd:o.data=.set es ep t)(hf:t.fits es.size=true)(hz:es.size<=60)
  (hA:w.params.followText "set-order"=false->t.plain=false->1<es.size->∀ (ys:List Nat) (d':Drawn),ys.Perm (List.range es.size)->Q (.ref (s.heap.objs.size+1)) {s with drawn:=d',heap:=(s.heap.push {cls:=.type "tuple",data:=.seq (ys.map fun q:Nat=>Value.int q 0).toArray}).push (fW (.ref s.heap.objs.size) 0 S es.size ep)})
  (hB:w.params.followText "set-order"=true\/t.plain=true\/es.size<=1->Q (.ref s.heap.objs.size) {s with heap:=s.heap.push (fW (.int 0 0) 0 S es.size ep)}):wpAny (model P w) A (pyIter (.ref S)) Q E s:=by
 have hT:s.TypeIs (.ref S) "set":=⟨o,hS,hx.1⟩
 refine wpAny_pyIter_slot hT PySem.F.slot_set_iter (wpAny_call_entry PySem.F.slot_set_iter hT SA ?_ (PySem.F.args_set_iter_1 _));unfold Builtin.«frozenset.__iter__» Builtin.Frozenset.slot0 slotArgs;simp only[List.isEmpty_nil,Bool.not_true,Bool.false_eq_true,↓reduceIte,bind_assoc,List.length_nil,bne_self_eq_false];unfold Builtin.Frozenset.addrOf Builtin.Frozenset.sizeOf;refine wpAny_bind (wpAny_pure ?_)
 try dsimp only
 refine wpAny_bind (wpAny_pure ?_);refine wpAny_bind (wpAny_bind (wpAny_setEntries_of hS hd hf (wpAny_pure ?_)));refine wpAny_bind ?_;unfold setDrawn setsByText;refine wpAny_bind (wpAny_setState_of hS hd hf ?_);dsimp only;refine wpAny_bind (wpAny_bind (wpAny_askSetting (wpAny_pure (wpAny_pure ?_))));show wpAny _ _ (if (!w.params.followText "set-order" && (!t.plain&&decide (es.size > 1)))=true then _ else _) _ _ s
 by_cases c:(!w.params.followText "set-order" && (!t.plain&&decide (es.size > 1)))=true
 ·rw[if_pos c];simp only[Bool.and_eq_true,Bool.not_eq_true',decide_eq_true_eq]at c;refine wpAny_bind (Sf _ _ _ _ (by simp) fun ys d' hp=>?_)
  have yl:ys.length=es.size:=by rw[hp.length_eq,List.length_range]
  refine wpAny_bind ?_;unfold newTuple;refine wpAny_newObj_type ?_ ?_
  ·refine wpAny_bind (wpAny_setEpoch_of (s:={s with drawn:=d',heap:=_}) (Heap.get?_push_of_some _ hS) hd hf ?_);refine wpAny_bind ?_;unfold newFields;refine wpAny_newObj_type (wpAny_pure ⟨_,rfl,"set_iterator",_,⟨_,Heap.get?_push_size _ rfl,rfl⟩,iA.lookup,?_⟩) ?_
   ·have:=hA c.1 c.2.1 c.2.2 ys d' hp
    rw[show s.heap.objs.size+1=(s.heap.push {cls:=.type "tuple",data:=.seq (ys.map fun q:Nat=>Value.int q 0).toArray}).objs.size by rw[Heap.size_push]]at this
    exact this
   ·size_fits
  ·show((ys.map fun i:Nat=>rawInt i).toArray).size<=sizeLine
   rw[List.size_toArray,List.length_map,yl,sizeLine_eq];omega
 ·rw[if_neg c];refine wpAny_bind (wpAny_pure (wpAny_bind (wpAny_setEpoch_of hS hd hf (wpAny_bind ?_))));unfold newFields;refine wpAny_newObj_type (wpAny_pure ⟨_,rfl,"set_iterator",_,⟨_,Heap.get?_push_size _ rfl,rfl⟩,iA.lookup,?_⟩) ?_
  ·refine hB ?_
   cases b1:w.params.followText "set-order" with
   | true=>exact .inl rfl
   | false =>
    cases b2:t.plain with
    | true=>exact .inr (.inl rfl)
    | false =>
     rw[b1,b2]at c;simp at c;exact .inr (.inr c)
  ·size_fits
theorem BF{Q:Bool->Shared->Prop}(hT:s.TypeIs (.ref S) "set")(h:Q false s):wpAny (model P w) A (Builtin.List.listLengthHint (.ref S)) Q E s:=by
 unfold Builtin.List.listLengthHint;refine wpAny_bind (wpAny_specialOf hT PySem.F.slot_set_len.lookup ?_);dsimp only;rw[show splitId "set.__len__"=some ("set","__len__") by decide +kernel]
 dsimp only;refine wpAny_bind (wpAny_isInstance (b:=true) hT sub_set_self ?_);rw[if_neg (by simp),if_pos (by decide +kernel)]
 refine wpAny_bind (wpAny_typeOf hT ?_);exact wpAny_pure h
theorem Oj{Pv:Nat->Value->Prop}{acc:Array Value}{n:Nat}{L:List Value}(h:ItemsOf Pv acc n)(hL:L.length=n)(hP:∀ j v,Pv j v->L[j]?=some v):acc.toList=L:=by
 refine List.ext_getElem? fun j=>?_;rw[Array.getElem?_toList]
 cases e:acc[j]? with
 | some v=>exact(hP j v (h.2 j v e)).symm
 | none =>
  have:=Array.getElem?_eq_none_iff.mp e
  rw[List.getElem?_eq_none (by rw[hL,<- h.1];exact this)]
structure WalkOk (P:Program) (w:World) (s s2:Shared) (S I:Addr) (zs:List Str) (fp:List Addr) (n:Nat) (Pv:Nat->Value->Prop) (St:Nat->Heap->Prop):Prop where
 walk:∀ B:Around,B.handled=none->Walks P w B I fp [I] n Pv St
 st:St 0 s2.heap
 fps:∀ b∈fp,b=S\/s.heap.objs.size<=b
 lt:∀ b∈fp,b<s2.heap.objs.size
 ext:∀ b ob,s.heap.get? b=some ob->s2.heap.get? b=some ob
 gens:s2.gens=s.gens
 os:s2.os=s.os
 n60:n<=60
 new:s.heap.objs.size<=I
 all:∀ acc,ItemsOf Pv acc n->∃ ss,StrsAre acc.toList ss/\ss.Perm zs
theorem BD{es:Array (Int×Value)}:((List.range es.size).filterMap fun q=>(es[q]?).map (·.2))=es.toList.map (·.2):=by
 rw[<- filterMap_getElem?_range es,List.map_filterMap]
theorem GO{zs:List Str}{Q:Value->Shared->Prop}(hh:True)(TS:TSet P w s.heap S zs)(hz:zs.length<=60)(h:∀ I s2 fp n Pv St,WalkOk P w s s2 S I zs fp n Pv St->Q (.ref I) s2):wpAny (model P w) A (pyIter (.ref S)) Q E s:=by
 obtain⟨o,es,ep,t,ho,hex,hd,hel,⟨vs,hv,hp⟩,nd,hb,hf,hl,hpl⟩:=TS;have sz0:es.size=zs.length:=by
  have q1:=congrArg List.length hv.strs
  have q2:=hp.length_eq
  simp at q1;omega
 have ltS:S<s.heap.objs.size:=Heap.lt_size ho
 have fin:∀ acc:Array Value,acc.toList.Perm (es.toList.map (·.2))->∃ ss,StrsAre acc.toList ss/\ss.Perm zs:=fun acc q=>by
  obtain⟨ss,s1,s2⟩:=Nq q hv;exact⟨ss,s1,s2.trans hp⟩
 refine TU ho hex hd hf (by omega) (fun b1 b2 b3 ys d' yp=>?_) fun c=>?_
 ·have yl:ys.length=es.size:=by rw[yp.length_eq,List.length_range]
  have yq:∀ q∈ys,q<es.size:=fun q hq=>List.mem_range.mp (yp.mem_iff.mp hq)
  refine h _ _ [s.heap.objs.size+1,S,s.heap.objs.size] es.size _ _ ⟨fun B hB=>t8 hB _ ys (Nat.ne_of_lt (Nat.lt_succ_of_lt ltS)) (Nat.ne_of_lt (Nat.lt_succ_self _)) hd hf rfl yq yl,⟨?_,?_,?_⟩,?_,?_,?_,rfl,rfl,by omega,Nat.le_succ _,fun acc ha=>?_⟩
  ·have:s.heap.objs.size+1=(s.heap.push {cls:=.type "tuple",data:=.seq (ys.map fun q:Nat=>Value.int q 0).toArray}).objs.size:=by rw[Heap.size_push]
   rw[this];exact Heap.get?_push_size _ rfl
  ·exact Heap.get?_push_of_some _ (Heap.get?_push_of_some _ ho)
  ·exact Heap.get?_push_of_some _ (Heap.get?_push_size _ rfl)
  ·intro b hb;simp at hb;rcases hb with rfl | rfl | rfl
   ·exact .inr (Nat.le_succ _)
   ·exact .inl rfl
   ·exact .inr (Nat.le_refl _)
  ·intro b hb;simp at hb;show b<(Heap.push _ _).objs.size
   rw[Heap.size_push,Heap.size_push];rcases hb with rfl | rfl | rfl
   ·exact Nat.lt_succ_self _
   ·exact Nat.lt_succ_of_lt (Nat.lt_succ_of_lt ltS)
   ·exact Nat.lt_succ_of_lt (Nat.lt_succ_self _)
  ·exact fun b ob e=>Heap.get?_push_of_some _ (Heap.get?_push_of_some _ e)
  ·have e:acc.toList=ys.filterMap fun q=>(es[q]?).map (·.2):=by
    have ey:(ys.filterMap fun q=>(es[q]?).map (·.2))=ys.map fun q=>(es.getD q (0,.none)).2:=by
     clear ha yp yl
     induction ys with
     | nil=>rfl
     | cons y ys ih =>
      have ly:=yq y List.mem_cons_self
      rw[List.filterMap_cons,List.map_cons,ih fun q hq=>yq q (List.mem_cons_of_mem _ hq),Array.getElem?_eq_getElem ly];simp[Array.getD,ly]
    rw[ey];refine Oj ha (by rw[List.length_map,yl]) fun j v ⟨q,x,e1,e2,e3⟩=>?_
    rw[List.getElem?_map,e1,e3];obtain⟨l1,l2⟩:=Array.getElem?_eq_some_iff.mp e2;simp[Array.getD,l1,l2]
   refine fin acc ?_;rw[e,<- BD];exact yp.filterMap _
 ·by_cases bt:w.params.followText "set-order"=true
  ·have pp:=V7 (w.params.setOrder S ep) es
   have ps:(pickOrder (w.params.setOrder S ep) es).size=es.size:=by rw[<- Array.length_toList,pp.length_eq,Array.length_toList]
   refine h _ _ [s.heap.objs.size,S] es.size _ _ ⟨fun B hB=>NG hB bt (Nat.ne_of_lt ltS) hd hf ps,⟨Heap.get?_push_size _ rfl,Heap.get?_push_of_some _ ho⟩,?_,?_,fun b ob e=>Heap.get?_push_of_some _ e,rfl,rfl,by omega,Nat.le_refl _,fun acc ha=>?_⟩
   ·intro b hb;simp at hb;rcases hb with rfl | rfl
    ·exact .inr (Nat.le_refl _)
    ·exact .inl rfl
   ·intro b hb;simp at hb;show b<(Heap.push _ _).objs.size
    rw[Heap.size_push];rcases hb with rfl | rfl
    ·exact Nat.lt_succ_self _
    ·exact Nat.lt_succ_of_lt ltS
   ·have e:acc.toList=(pickOrder (w.params.setOrder S ep) es).toList.map (·.2):=by
     refine Oj ha (by rw[List.length_map,Array.length_toList,ps]) fun j v ⟨x,e1,e2⟩=>?_
     rw[List.getElem?_map,Array.getElem?_toList,e1,e2];rfl
    refine fin acc ?_;rw[e];exact pp.map _
  ·have bf:w.params.followText "set-order"=false:=by simpa using bt
   have e1:es.size<=1:=by
    rcases c with c | c | c
    ·exact absurd c bt
    ·by_cases q:zs=[]
     ·subst q;have:es.size=0:=sz0
      omega
     ·rw[hpl q]at c
      cases c
    ·exact c
   have lt:t.led=true:=by rw[hl,bf];rfl
   have b0:SetTable.below t.place 0=0:=by
    have hps:t.place.size=es.size:=by
     simp only[SetTable.fits,Bool.and_eq_true,beq_iff_eq]at hf;exact hf.1
    match hpq:t.place,hps with
    | ⟨[]⟩,_=>exact UB 0
    | ⟨[j]⟩,_=>exact GA j
    | ⟨_::_::_⟩,q=>simp at q;omega
   refine h _ _ [s.heap.objs.size,S] es.size _ _ ⟨fun B hB=>LZ hB bf (Nat.ne_of_lt ltS) hd hf lt e1,⟨⟨0,Heap.get?_push_size _ rfl,b0⟩,Heap.get?_push_of_some _ ho⟩,?_,?_,fun b ob e=>Heap.get?_push_of_some _ e,rfl,rfl,by omega,Nat.le_refl _,fun acc ha=>?_⟩
   ·intro b hb;simp at hb;rcases hb with rfl | rfl
    ·exact .inr (Nat.le_refl _)
    ·exact .inl rfl
   ·intro b hb;simp at hb;show b<(Heap.push _ _).objs.size
    rw[Heap.size_push];rcases hb with rfl | rfl
    ·exact Nat.lt_succ_self _
    ·exact Nat.lt_succ_of_lt ltS
   ·have e:acc.toList=es.toList.map (·.2):=by
     refine Oj ha (by rw[List.length_map,Array.length_toList]) fun j v ⟨x,e1,e2⟩=>?_
     rw[List.getElem?_map,Array.getElem?_toList,e1,e2];rfl
    refine fin acc ?_;rw[e]
end
section
variable {P:Program}{w:World}{A:Around}{E:Value->Shared->Prop}{s:Shared}{S:Addr}{zs:List Str}
theorem TSet.type{h:Heap}(T:TSet P w h S zs):∃ o,h.get? S=some o/\o.cls=.type "set":=let ⟨o,_,_,_,ho,hx,_⟩:=T;⟨o,ho,hx.1⟩
theorem LD{Q:List Value->Shared->Prop}(hh:A.handled=none)(T:TSet P w s.heap S zs)(hz:zs.length<=60)
  (h:∀ s' vs ss,StrsAre vs ss->ss.Perm zs->(∀ b ob,s.heap.get? b=some ob->s'.heap.get? b=some ob)->s'.gens=s.gens->s'.os=s.os->Q vs s'):wpAny (model P w) A (collect (.ref S)) Q E s:=by
 obtain⟨oS,hoS,hcS⟩:=T.type;have ltS:S<s.heap.objs.size:=Heap.lt_size hoS
 have neL:s.heap.objs.size≠S:=Nat.ne_of_gt ltS
 unfold collect;refine wpAny_bind (wpAny_runValue (codeAny_builtin PySem.F.entry_proto_collect ?_));rw[Around.under_plainId PySem.F.plain_proto_collect _];show wpAny _ A.in1 (newList []>>=fun l=>again (.builtin "list.__iadd__" ⟨[l,.ref S],[]⟩)) _ _ s
 refine wpAny_bind (wpAny_newObj_type ?_);refine wpAny_pure ⟨plainId_quiet PySem.F.plain_list_iadd _,codeAny_builtin PySem.F.entry_list_iadd ?_⟩;rw[Around.under_plainId PySem.F.plain_list_iadd _];obtain⟨h1,eh1⟩:∃ h1,h1=s.heap.push {cls:=.type "list",data:=.seq ([]:List Value).toArray}:=⟨_,rfl⟩;rw[<- eh1];have k1:∀ b ob,s.heap.get? b=some ob->h1.get? b=some ob:=fun b ob e=>by rw[eh1];exact Heap.get?_push_of_some _ e
 have hL1:h1.get? s.heap.objs.size=some {cls:=.type "list",data:=.seq ([]:List Value).toArray}:=by rw[eh1];exact Heap.get?_push_size _ rfl
 have sz1:h1.objs.size=s.heap.objs.size+1:=by rw[eh1,Heap.size_push]
 have T1:TSet P w h1 S zs:=T.at fun ob e=>k1 S ob e
 have hT1:Shared.TypeIs {s with heap:=h1} (.ref S) "set":=⟨oS,k1 S oS hoS,hcS⟩
 show wpAny _ A.in1 (Builtin.List.listExtendWith (.ref s.heap.objs.size) (.ref S) (.ref s.heap.objs.size)) _ _ _
 unfold Builtin.List.listExtendWith;refine wpAny_bind (wpAny_typeOf hT1 ?_);have c1:Builtin.List.listSameRef (.ref s.heap.objs.size) (.ref S)=false:=by simp[Builtin.List.listSameRef,neL]
 rw[c1,if_neg (by decide)]
 refine wpAny_bind (GO (s:={s with heap:=h1}) True.intro T1 hz fun I s2 fp n Pv St W=>?_);have hT2:s2.TypeIs (.ref S) "set":=⟨oS,W.ext S oS (k1 S oS hoS),hcS⟩
 refine wpAny_bind (wpAny_holding (BF hT2 ?_));rw[if_pos (by decide +kernel)]
 refine wpAny_bind (wpAny_rule ?_);have hL2:s2.heap.get? s.heap.objs.size=some {cls:=.type "list",data:=.seq ([]:List Value).toArray}:=W.ext _ _ hL1
 refine wpAny_bind ?_;show wpAny _ A.in1 (updateSeq s.heap.objs.size (·.push .none)>>=fun _=>updateSeq s.heap.objs.size (·.pop)) _ _ _
 refine wpAny_bind (wpAny_updateSeq hL2 rfl ?_);have hL3:=Heap.get?_update_self (Obj.mapSeq (·.push Value.none)) hL2 rfl
 refine wpAny_updateSeq hL3 rfl ?_;have hL4:=Heap.get?_update_self (Obj.mapSeq (·.pop)) hL3 rfl
 have nf:s.heap.objs.size∉fp:=fun q=>by
  rcases W.fps _ q with e | e
  ·exact neL e
  ·have e:h1.objs.size<=s.heap.objs.size:=e
   rw[sz1]at e;exact absurd e (Nat.not_succ_le_self _)
 have oth:∀ b ob,b≠s.heap.objs.size->s2.heap.get? b=some ob->((s2.heap.update s.heap.objs.size (Obj.mapSeq (·.push Value.none))).update s.heap.objs.size (Obj.mapSeq (·.pop))).get? b=some ob:=fun b ob hb e=>(Heap.get?_update_other _ _ (Ne.symm hb)).trans ((Heap.get?_update_other _ _ (Ne.symm hb)).trans e)
 have WS:=(W.walk A.in1 (by simp[hh])).toS
 have n1:n<=sizeLine:=Nat.le_trans W.n60 (by rw[sizeLine_eq];decide)
 have st2:=(W.walk A.in1 (by simp[hh])).frame 0 s2.heap _ W.st fun b hb ob e=>oth b ob (by rintro rfl;exact nf hb) e
 refine wpAny_pure ⟨plainId_quiet PySem.F.plain_extend_loop _,codeAny_extend_loopS WS n1 _ nf _ n 0 _ _ _ rfl (Nat.zero_le _) st2 hL4 (ItemsOf.nil Pv) fun s' acc' c' hm hS' hacc=>?_⟩;show wpAny _ A (load s.heap.objs.size>>=_) _ _ s'
 refine wpAny_bind (wpAny_load hS' ?_);obtain⟨ss,q1,q2⟩:=W.all acc' hacc;refine wpAny_pure (h s' acc'.toList ss q1 q2 (fun b ob e=>hm.heap b ob ?_ (oth b ob ?_ (W.ext b ob (k1 b ob e)))) (hm.gens.trans W.gens) (hm.os.trans W.os))
 ·intro q;rcases List.mem_cons.mp q with q | q
  ·exact absurd (Heap.lt_size e) (by rw[q];exact Nat.lt_irrefl _)
  ·have q:b=I:=by simpa using q
   have l1:=Heap.lt_size e
   have l2:h1.objs.size<=I:=W.new
   rw[sz1]at l2;rw[q]at l1;exact absurd (Nat.lt_of_lt_of_le l1 (Nat.le_trans (Nat.le_succ _) l2)) (Nat.lt_irrefl _)
 ·intro q;exact absurd (Heap.lt_size e) (by rw[q];exact Nat.lt_irrefl _)
theorem S0{Q:Value->Shared->Prop}(hh:A.handled=none)(T:TSet P w s.heap S zs)(hz:zs.length<=60)
  (h:∀ (s':Shared) (vs:List Value) (ss:List Str) (e:Nat) (L:Addr),StrsAre vs ss->ss.Perm zs->sortedS ss=true->S<L->s'.heap.get? L=some (seqObj "list" vs.toArray e)->(∀ b ob,s.heap.get? b=some ob->s'.heap.get? b=some ob)->s'.gens=s.gens->s'.os=s.os->Q (.ref L) s') :
  wpAny (model P w) A (call (.builtin "sorted") [.ref S]) Q E s:=by
 refine Calls.call_function_entry kind_sorted plain_sorted entry_sorted (args_sorted1 _) ?_;unfold Builtin.«sorted»;refine wpAny_bind (m:=checkCount "sorted" 1 1 _) (wpAny_pure ?_);refine wpAny_bind (LD (by simp[hh]) T hz fun s1 vs ss hS hp k1 g1 o1=>?_)
 have vl:vs.length<64:=by
  have q1:=congrArg List.length hS.strs
  have q2:=hp.length_eq
  simp at q1;omega
 refine wpAny_bind (wpAny_newList ?_);obtain⟨h2,eh2⟩:∃ h2,h2=s1.heap.push (seqObj "list" vs.toArray 0):=⟨_,rfl⟩;have hoL:h2.get? s1.heap.objs.size=some (seqObj "list" vs.toArray 0):=by rw[eh2];exact Heap.get?_push_size _ rfl
 show wpAny _ _ _ _ _ {s1 with heap:=s1.heap.push (seqObj "list" vs.toArray 0)}
 rw[<- eh2];refine wpAny_bind (wpAny_holding (wpAny_call_entry slot_list_sort ⟨_,hoL,rfl⟩ entry_list_sort (list_sort_treeK strKind_oneLt (s:={s1 with heap:=h2}) hoL hS.keysOf (fun v₁ v₂ bC e=>keyKind_strs (by rw[<- e];exact hS)) vl fun st' a1 a2=>⟨_,rfl,?_⟩) (args_list_sort _)))
 obtain⟨ss',b1,b2,b3⟩:=sorted_out_str hS a1 a2;obtain⟨e,he⟩:=sortedHeap_at (h:=h2) (a:=s1.heap.objs.size) (vs:=vs) (n:=0) (out:=(arrOf st').map (·.2)) hoL;obtain⟨oS,hoS,_⟩:=T.type;have ltS:S<s1.heap.objs.size:=Heap.lt_size (k1 S oS hoS)
 refine wpAny_pure ⟨_,rfl,h _ _ ss' e s1.heap.objs.size b1 (b2.trans hp) b3 ltS (by rw[Array.toArray_toList];exact he) (fun b ob hb=>?_) g1 o1⟩
 have lb:b<s1.heap.objs.size:=Heap.lt_size (k1 b ob hb)
 show(sortedHeap h2 _ _ _).get? b=_
 rw[sortedHeap_old (Nat.ne_of_lt lb) (by rw[eh2,Heap.size_push];exact Nat.lt_succ_of_lt lb),eh2]
 exact Heap.get?_push_of_some _ (k1 b ob hb)
end
theorem RB:bootBuiltins "set"=some (.type "set"):=by decide +kernel
theorem CZ{X:Cx}{pins:List (Addr×Obj)}{σ:L2.St}{H:Hp}{s s':Shared}(I:Inv X pins σ H s)(e1:s'.heap=s.heap)(e2:s'.gens=s.gens)(e3:s'.os=s.os):Inv X pins σ H s':=by
 obtain⟨h,g,d,tk,o⟩:=s;obtain⟨h',g',d',tk',o'⟩:=s';dsimp only at e1 e2 e3;subst e1;subst e2;subst e3;exact⟨I.ok,I.os,I.bare,I.base,I.loc,I.cell,I.free,I.freeC,I.pin,I.hok,I.len⟩
def jM(zs:List Str):List Str:=zs.foldl gV []
theorem S8(zs:List Str):gO (fun i=>zs.getD i "") zs.length=jM zs:=by
 unfold gO jM
 congr 1
 refine List.ext_getElem? fun i=>?_;rw[List.getElem?_map]
 by_cases h:i<zs.length
 ·rw[List.getElem?_range h,List.getElem?_eq_getElem h];simp[List.getD_eq_getElem?_getD,List.getElem?_eq_getElem h]
 ·rw[List.getElem?_eq_none (by simpa using h),List.getElem?_eq_none (by omega)]
  rfl
theorem UF{zs:List Str}{x z:Str}:x∈gV zs z↔x∈zs\/x=z:=by
 unfold gV
 split
 ·rename_i h
  constructor
  ·exact .inl
  ·rintro (q | rfl)
   ·exact q
   ·exact h
 ·simp
theorem x9{zs:List Str}{z:Str}(h:zs.Nodup):(gV zs z).Nodup:=by
 unfold gV
 split
 ·exact h
 ·rename_i q;rw[List.nodup_append];refine⟨h,by simp,fun x hx y hy=>?_⟩
  rw[List.mem_singleton.mp hy];rintro rfl;exact q hx
theorem O6:∀ (zs acc:List Str),acc.Nodup->(zs.foldl gV acc).Nodup/\(∀ x,x∈zs.foldl gV acc↔x∈acc\/x∈zs)/\(zs.foldl gV acc).length<=acc.length+zs.length
 | [],acc,h=>⟨h,by simp,by simp⟩
 | z::zs,acc,h=>by
  obtain⟨h1,h2,h3⟩:=O6 zs (gV acc z) (x9 h);refine⟨h1,fun x=>?_,?_⟩
  ·rw[List.foldl_cons,h2,UF,List.mem_cons]
   constructor
   ·rintro ((q | q) | q)
    ·exact .inl q
    ·exact .inr (.inl q)
    ·exact .inr (.inr q)
   ·rintro (q | q | q)
    ·exact .inl (.inl q)
    ·exact .inl (.inr q)
    ·exact .inr q
  ·have:(gV acc z).length<=acc.length+1:=by
    unfold gV
    split<;>simp
   rw[List.foldl_cons,List.length_cons];omega
theorem Nd(zs:List Str):(jM zs).Nodup/\(∀ x,x∈jM zs↔x∈zs)/\(jM zs).length<=zs.length:=by
 obtain⟨h1,h2,h3⟩:=O6 zs [] List.nodup_nil;exact⟨h1,fun x=>by unfold jM;rw[h2];simp,by simpa[jM] using h3⟩
section
variable {X:Cx}{e:Expr}{f:DE}{pos p p2 pos2:Pos}
@[simp] def Nf(f:DE):DE:=fun d m Q=>f d m fun x m1=>∃ zs:List Str,x=.dat (.list (zs.map .str))/\zs.length<=60/\∀ ys:List Str,ys.Perm (jM zs)->PyProof.Rows.sortedS ys=true->Q (.dat (.list (ys.map .str))) m1
theorem RO(hc:X.calm=true)(hg:Gl X "sorted")(hm:X.mg "sorted"=none)(hg2:Gl X "set")(hm2:X.mg "set"=none)(he:PE X e (LE X.K f))(hs:starEach [e] X.env=[(false,eval e X.env)]:=by rfl)
  (hs2:starEach [.Call (.Name "set" p2) [e] [] pos2] X.env=[(false,eval (.Call (.Name "set" p2) [e] [] pos2) X.env)]:=by rfl):PE X (.Call (.Name "sorted" p) [.Call (.Name "set" p2) [e] [] pos2] [] pos) (LE X.K (Nf f)):=by
 intro pins s σ H Q I h;obtain⟨Z,d,m,R,ok,rs,h,k⟩:=h;have hA:=iV (X:=X) he lN (by rw[hs];rfl) pos2 pins s σ H (fun vs H1=>∃ (zs:List Str) (m1:Mu) (a:Addr),vs=[V.ref a]/\SqL X.K H1 a (zs.map V.str)/\zs.length<=60/\(∀ ys:List Str,ys.Perm (jM zs)->PyProof.Rows.sortedS ys=true->R (.dat (.list (ys.map .str))) m1)/\Ext X.K Z m H m1 H1/\Ok X.K Z m1 H1) I ⟨Z,d,m,_,ok,rs,h,fun x m1 v H1 ⟨zs,ex,hn,q⟩ e1 ok1 rd=>by
  subst ex;simp only[RD,RP]at rd;obtain⟨a,vs,rfl,_,h1,h2⟩:=rd
  cases iK h2
  exact⟨zs,m1,a,rfl,h1,hn,q,e1,ok1⟩⟩
 refine Call_ (qI I hg hm J2 (PyProof.Rows.callWith_builtin1 ?_ hs2 rfl));rw[hs2];show wpAny _ _ (spliced ((false,eval (.Call (.Name "set" p2) [e] [] pos2) X.env)::[])) _ _ s
 refine Calls.spliced_cons (Call_ (qI I hg2 hm2 RB (PyProof.Rows.callWith_type1 (aZ hA fun us s1 ⟨vs,H1,I1,r1,q1⟩=>?_) hs rfl)));obtain⟨zs,m1,a,ev,hq,hn,q,e1,ok1⟩:=q1;subst ev;obtain⟨u,rfl,ru⟩:=fS r1;obtain rfl:u=Value.ref a:=ru;obtain⟨its,r',pl,hz⟩:=I1.list hq;have hlen:=r'.length
 rw[List.length_map]at hlen;have hsb:its.toArray.size+1<scanBound:=by
  rw[List.size_toArray,<- hlen];unfold scanBound;omega
 refine FY (I1.ok.hd hc) pl.isList (Cz r') hsb fun h' tk T kp=>?_;have em:gO (fun i=>zs.getD i "") its.toArray.size=jM zs:=by rw[List.size_toArray,<- hlen];exact S8 zs
 rw[em]at T;obtain⟨on1,on2,on3⟩:=Nd zs;refine Calls.spliced_nil ?_;refine S0 (s:={s1 with heap:=h',toks:=tk}) (I1.ok.hd hc) T (by omega) fun s' vs' ys e' L hS hp hs' lt hL k2 g2 o2=>?_
 have hv:=Ij hS
 have hvl:=hv.length
 have hpl:=hp.length_eq
 rw[List.length_map]at hvl;have hle:s1.heap.objs.size<=L:=Nat.le_of_lt lt
 have hf:H1 L=none:=I1.hok.fresh hle
 have kk:∀ b ob,s1.heap.get? b=some ob->s'.heap.get? b=some ob:=fun b ob q=>k2 b ob (kp b ob (Heap.lt_size q) q)
 have I2:=I1.laid (t':=s'.toks) (h':=s'.heap) (a:=L) (o:=.lst (ys.map V.str)) kk hle ⟨by rw[List.length_map,sizeLine_eq];omega,vs',e',hv,hL⟩
 have I3:Inv X pins σ (upd H1 L (.lst (ys.map V.str))) s':=CZ I2 rfl g2 o2
 have sm:Same H1 (upd H1 L (.lst (ys.map V.str))):=dX hf
 refine⟨.ref L,_,I3,rfl,k _ m1 _ _ (q ys hp hs') (e1.trans (ok1.ext sm)) (ok1.grow sm) ?_⟩;simp only[RD,RP];exact⟨L,_,rfl,gU ok1 hf,.inl (.inl dR),zK ys⟩
end
def Jt(z:Str):It:=⟨fun i _=>i<z.cps.size,fun i H v H'=>H'=H/\∃ c,z.cps[i]?=some c/\v=.str ⟨#[c]⟩,fun i _=>i=z.cps.size⟩
theorem JL{P:Program}{w:World}{K:PySem.W.Frag}{tg:Expr}(it:Addr)(z:Str)(t:Tok)(ty:String)(hty:ty="str_ascii_iterator"\/ty="str_iterator"):Turn P w K tg (Jt z) [it] it (fun i h=>h.IsStrIter it ty z t i) where
 mem:=by simp
 obj:=fun i h st b hb=>by
  have e:b=it:=by simpa using hb
  subst e;obtain⟨o,e,_,d⟩:=st;exact⟨o,e,fun v q=>by rw[d]at q;cases q⟩
 keep:=fun i h h' st k=>by
  obtain⟨o,e,q⟩:=st;exact⟨o,k it (by simp) o e,q⟩
 item:=by
  intro X hP hw hK hc i pins s σ H E I hf st hg;subst hP hw hK;have hg:i<z.cps.size:=hg
  obtain⟨f0,f1,f2,f3,f4,f5⟩:=hf it (by simp)
  have hx:z.cps[i]?=some z.cps[i]:=Array.getElem?_eq_getElem hg
  have fin:∀ h',h'.IsStrIter it ty z t (i+1)->Heap.SameBut it s.heap h'->∃ u,some (Value.str ⟨#[z.cps[i]]⟩ s.toks)=some u/\wpAny (model X.prog X.w) X.A (letOwnedTupleGo tg (.ref it) u) (fun _ s2=>∃ x H',Inv X pins σ H' s2/\RelV x u/\(Jt z).yld i H x H'/\s2.heap.IsStrIter it ty z t (i+1)/\∀ b∈[it],H' b=none) E {s with heap:=h',toks:=s.toks+1}:=fun h' st' sb=>by
   have I1:Inv X pins σ H {s with heap:=h',toks:=s.toks+1}:=I.turned (fun b o hb e=>(sb.2 b hb).trans e) f0 f1 f3 f4 f5
   obtain⟨o,e,c,d⟩:=id st';refine⟨_,rfl,Bh (s:={s with heap:=h',toks:=s.toks+1}) e c d (by rcases hty with rfl | rfl<;>decide) ⟨.str ⟨#[z.cps[i]]⟩,H,I1,⟨_,rfl⟩,⟨rfl,_,hx,rfl⟩,st',fun b hb=>(hf b hb).1⟩⟩
  rcases hty with rfl | rfl
  ·exact wpAny_pyNext_ascii_item st hx fun h' st' sb=>fin h' st' sb
  ·exact wpAny_pyNext_wide_item st hx fun h' st' sb=>fin h' st' sb
 done:=by
  intro X hP hw hK hc i pins s σ H E I hf st hg;subst hP hw hK;have hg:i=z.cps.size:=hg
  obtain⟨f0,f1,f2,f3,f4,f5⟩:=hf it (by simp)
  rcases hty with rfl | rfl
  ·exact wpAny_pyNext_ascii_end (I.ok.hd hc) st (by simp[hg]) fun h' eb=>⟨rfl,I.turned (t':=s.toks) (fun b o hb e=>eb b o hb e) f0 f1 f3 f4 f5⟩
  ·exact wpAny_pyNext_wide_end (I.ok.hd hc) st (by simp[hg]) fun h' eb=>⟨rfl,I.turned (t':=s.toks) (fun b o hb e=>eb b o hb e) f0 f1 f3 f4 f5⟩
 self:=fun _ _ _ _ _ st h=>by
  rcases hty with rfl | rfl
  ·exact wpAny_pyIter_striter_ascii st h
  ·exact wpAny_pyIter_striter_wide st h
@[simp] def gK(z:Str):List PyData:=z.cps.toList.map fun c=>.str ⟨#[c]⟩
@[simp] def Dc(f:DE):DI:=fun d m Q=>f d m fun x m1=>∃ z:Str,x=.dat (.str z)/\Q ((gK z).map .dat) m1
section
variable {X:Cx}{a:Expr}{tg:Expr}{f:DE}
theorem j4(ha:PE X a (LE X.K f)):PI X tg a (LI X.K (Dc f)):=by
 intro pins s σ H R I h;obtain⟨Z,d,m,ZZ,ok,rs,h,k⟩:=h;refine aZ (ha pins s σ H (fun x H1=>∃ (m1:Mu) (z:Str),x=.str z/\ZZ ((gK z).map .dat) m1/\Ext X.K Z m H m1 H1/\Ok X.K Z m1 H1) I
  ⟨Z,d,m,_,ok,rs,h,fun x m1 v H1 ⟨z,ex,q⟩ e1 ok1 rd=>by subst ex;exact⟨m1,z,rd.str,q,e1,ok1⟩⟩) fun u s1 ⟨x,H1,I1,r1,m1,z,ex,q,e1,ok1⟩=>?_
 subst ex;obtain⟨t,rfl⟩:=r1;have yl:pN X.K Z m1 H1 ((gK z).map .dat) (Jt z):=by
  intro m3 H3 ey;refine⟨fun i x hx=>?_,?_⟩
  ·have lt:i<z.cps.size:=by
    have:=(List.getElem?_eq_some_iff.mp hx).1
    simpa using this
   refine⟨lt,fun v H4 y=>.inl ⟨y.1,?_⟩⟩;obtain⟨_,c,hc,rfl⟩:=y;rw[List.getElem?_map]at hx;unfold gK at hx;rw[List.getElem?_map,Array.getElem?_toList,hc]at hx
   cases hx
   exact .ofStr
  ·show _=z.cps.size
   simp
 have go:∀ (o:Obj) (ty:String),(ty="str_ascii_iterator"\/ty="str_iterator")->(s1.heap.push o).IsStrIter s1.heap.objs.size ty z t 0->Qj X pins σ tg R (.ref s1.heap.objs.size) {s1 with heap:=s1.heap.push o}:=fun o ty hty st=>by
  refine⟨s1.heap.objs.size,[s1.heap.objs.size],_,_,H1,rfl,I1.kept (t':=s1.toks) fun b o e=>Heap.get?_push_of_some _ e,JL _ z t ty hty,st,fun b hb=>?_,k _ m1 H1 _ q e1 ok1 yl⟩;have e:b=s1.heap.objs.size:=by simpa using hb
  subst e;exact I1.fpOk (Nat.le_refl _) (I1.hok.fresh (Nat.le_refl _))
 cases ha:z.cps.all (· < 128)
 ·exact wpAny_pyIter_wide ha (go _ _ (.inr rfl) ⟨_,Heap.get?_push_size _ rfl,rfl,rfl⟩)
 ·exact wpAny_pyIter_ascii ha (go _ _ (.inl rfl) ⟨_,Heap.get?_push_size _ rfl,rfl,rfl⟩)
end
@[simp] def Nn:D2
 | .dat (.str a),.dat (.str b),m,Q=>Q (.dat (.bool (!(b.cps.toList<a.cps.toList)))) m
 | _,_,_,_=>False
section
variable {X:Cx}
theorem NI:dI X (compareOp .LtE) Nn:=by
 intro pins s σ H Z m x y dx dy v u R Q I ok rx ry r1 r2 h k;unfold Nn at h
 split at h
 ·cases r1.str;cases r2.str
  obtain⟨t1,rfl⟩:=rx;obtain⟨t2,rfl⟩:=ry;refine PySem.P.le_str ?_;exact⟨.bl _,H,I,rfl,k _ m _ H h Ext.refl ok .ofBl⟩
 ·exact h.elim
theorem WL:OpR X (binaryOp .Add) (fun x y H Q=>∃ a b xs ys,x=.ref a/\y=.ref b/\SqL X.K H a xs/\SqL X.K H b ys/\xs.length+ys.length<=sizeLine/\∀ p,H p=none->X.K.lookup p=none->Q (.ref p) (upd H p (.lst (xs++ys)))):=by
 intro pins s σ H x y v u Q I rx ry h;obtain⟨a,b,xs,ys,rfl,rfl,ha,hb,hz,q⟩:=h
 cases rx
 cases ry
 obtain⟨its,r1,p1,_⟩:=I.list ha;obtain⟨its2,r2,p2,_⟩:=I.list hb;obtain⟨⟨cls,dd,data,sl⟩,ho,hc,n,hd⟩:=id p1.isList;obtain⟨⟨cls2,dd2,data2,sl2⟩,ho2,hc2,n2,hd2⟩:=id p2.isList;simp only at hc hd hc2 hd2;subst hc hd hc2 hd2;have l1:=r1.length
 have l2:=r2.length
 have e:its.toArray++its2.toArray=(its++its2).toArray:=by simp
 have hk:X.K.lookup s.heap.objs.size=none:=by
  cases e:X.K.lookup s.heap.objs.size with
  | none=>rfl
  | some o=>exact absurd (Heap.lt_size (I.kIn _ o e)) (Nat.lt_irrefl _)
 refine concat_meets ⟨_,ho,rfl⟩ ⟨_,ho2,rfl⟩ noFill_list_add seq_list_add PySem.F.slot_list_add PySem.F.entry_list_add (PySem.F.args_list_add_2 _ _)
   (list_addW a b its.toArray its2.toArray n n2 dd dd2 sl sl2 (by rw[List.size_toArray,List.size_toArray];omega)) ⟨ho,ho2,?_⟩
 rw[e];exact⟨.ref s.heap.objs.size,_,I.laid (t':=s.toks) (o:=.lst (xs++ys)) (fun b ob q=>Heap.get?_push_of_some _ q) (Nat.le_refl _) ⟨by rw[List.length_append];omega,_,0,r1.append r2,Heap.get?_push_size _ rfl⟩,rfl,q _ (I.hok.fresh (Nat.le_refl _)) hk⟩
@[simp] def Rg:D2
 | .cel c,.dat (.list b),m,Q=>∃ a,m c=some (.l a)/\a.length+b.length<=sizeLine/\∀ p,m p=none->Q (.cel p) (cK m p (.l (a++b)))
 | _,_,_,_=>False
theorem W7:dI X (binaryOp .Add) Rg:=by
 intro pins s σ H Z m x y dx dy v u R Q I ok rx ry r1 r2 h k;unfold Rg at h
 split at h
 ·rename_i c b;obtain⟨aa,hm,hz,hq⟩:=h;obtain⟨rfl,_⟩:=r1;obtain⟨vs,g0,g3⟩:=ok.l hm;simp only[RD,RP]at r2;obtain⟨q,ws,rfl,_,g1,g2⟩:=r2;have l1:=g3.length
  have l2:=g2.length
  refine WL pins s σ H _ _ v u Q I rx ry ⟨c,q,vs,ws,rfl,rfl,.inl (.inl g0),g1,by omega,fun t ht hk=>?_⟩
  refine k _ _ _ _ (hq t (gU ok ht).1) (Ext.cell ok ht hk) (ok.cell ht hk (show RPs _ _ _ _ _ _ from g3.append g2)) ⟨rfl,?_⟩
  rw[eI];rfl
 ·exact h.elim
theorem AK(t:Addr)(k:Int)(tok:Tok)(h2:0<=k)(h3:k<=100):Meets (Builtin.«tuple.__mul__» ⟨[.ref t,.int k tok],[]⟩)
  (fun _ R s=>IsTup s.heap t #[]/\R (.ok (.ret (.ref t))) s) :=
 .of_wp fun prog w A R s hs=>by
  obtain⟨ht,hq⟩:=hs;show wpAny _ _ (asIndex (.int k tok)>>=_) _ _ _
  refine wpAny_bind (wpAny_pure ?_);show wpAny _ _ (if (decide (k < -(2^63))||decide (k ≥ 2^63))=true then _ else _) _ _ _
  rw[if_neg (by simp;omega)]
  show wpAny _ _ (Builtin.Tuple.tupleItemsOf (.ref t)>>=_) _ _ _
  refine wpAny_bind (tupleItemsOf_ ht ?_);show wpAny _ _ (if ((#[]:Array Value).isEmpty||k==1)=true then _ else _) _ _ _
  rw[if_pos (by rfl)]
  obtain⟨⟨cls,dd,data,sl⟩,ho,hc,n,hd⟩:=id ht;simp only at hc hd;subst hc hd;show wpAny _ _ (Builtin.Tuple.tupleIsExact (.ref t)>>=_) _ _ _
  refine wpAny_bind ?_;unfold Builtin.Tuple.tupleIsExact;refine wpAny_bind (wpAny_typeOf ⟨_,ho,rfl⟩ (wpAny_pure ?_));show wpAny _ _ (if ((Value.type "tuple" == Value.type "tuple")=true) then _ else _) _ _ _
  rw[if_pos (by decide)]
  refine wpAny_bind (wpAny_rule ?_);exact wpAny_pure ⟨_,rfl,hq⟩
theorem AH{pins:List (Addr×Obj)}{s:Shared}{σ:L2.St}{H:Hp}{Q:VK}{a:Addr}{k:Int}{t:Tok}(I:Inv X pins σ H s)(ha:SqT X.K H a [])(h2:0<=k)(h3:k<=100)
  (q1:Q (.ref a) H):wpAny (model X.prog X.w) X.A (binaryOp .Mult (.ref a) (.int k t)) (EP X pins σ Q) X.xe s:=by
 obtain⟨its,r,p,hz⟩:=I.tuple ha;have hl:=r.length
 obtain rfl:its=[]:=List.length_eq_zero_iff.mp hl.symm;obtain⟨⟨cls,dd,data,sl⟩,ho,hc,n,hd⟩:=id p;simp only at hc hd;subst hc hd;exact wpAny_binaryOp_repeat_ref (T:="tuple") (U:="int") (by decide) ⟨_,ho,rfl⟩ (fun s'=>typeIs_int s' k t) Tg PySem.F.fills_int_mul PySem.F.slot_int_rmul Tj PySem.F.slot_int_index.lookup
  (call_meets PySem.F.slot_int_rmul (typeIs_int s k t) PySem.F.entry_int_rmul (PySem.F.args_int_rmul_2 _ _) (Vx k t a [].toArray n dd sl) ⟨ho,rfl,⟨_,ho,rfl⟩,call_meets PySem.F.slot_tuple_mul ⟨_,ho,rfl⟩ PySem.F.entry_tuple_mul (PySem.F.args_tuple_mul_2 _ _) (AK a k t h2 h3) ⟨p,.ref a,H,I,rfl,q1⟩⟩)
@[simp] def Bq:D2
 | .dat (.tuple a),.dat (.int k),m,Q=>2<=k/\k<=100/\a.length*k.toNat<=sizeLine/\Q (.dat (.tuple (List.replicate k.toNat a).flatten)) m
 | _,_,_,_=>False
theorem IB:dI X (binaryOp .Mult) Bq:=by
 intro pins s σ H Z m x y dx dy v u R Q I ok rx ry r1 r2 h k
 by_cases e:dx=.dat (.tuple [])
 ·subst e;unfold Bq at h
  split at h
  ·rename_i a j ea
   injection ea with ea
   injection ea with ea
   subst ea;obtain⟨h1,h2,h3,h4⟩:=h
   cases r2.int
   have r1':=r1
   simp only[RD,RP,RPs]at r1;obtain⟨p,vs,rfl,g1,rfl⟩:=r1
   cases rx
   obtain⟨t',rfl⟩:=ry;have e0:(List.replicate j.toNat ([]:List PyData)).flatten=[]:=by simp
   rw[e0]at h4;exact AH I g1 (by omega) h2 (k _ _ _ H h4 Ext.refl ok r1')
  ·exact h.elim
 ·refine gY pins s σ H Z m x y dx dy v u R Q I ok rx ry r1 r2 ?_ k;unfold Bq at h
  split at h
  ·obtain⟨h1,h2,h3,h4⟩:=h;exact⟨fun c=>e (by rw[c]),h1,h2,h3,h4⟩
  ·exact h.elim
end
structure QE (X:Cx) (e:Expr) (t:TE):Prop where
 pe:PE X e t
structure QA (X:Cx) (e:List Expr) (t:TA):Prop where
 pe:PA X e t
structure QT (X:Cx) (e:Expr) (t:TT):Prop where
 pe:PT X e t
structure QW (X:Cx) (e:Expr) (t:TT):Prop where
 pe:PW X e t
structure QS (X:Cx) (e:Stmt) (t:TS):Prop where
 pe:PS X e t
structure QSs (X:Cx) (e:List Stmt) (t:TS):Prop where
 pe:PSs X e t
structure QG (X:Cx) (e:Expr) (t:TG):Prop where
 pe:PG X e t
structure QGs (X:Cx) (e:List Expr) (t:kP):Prop where
 pe:PGs X e t
structure QO (X:Cx) (e:Option Expr) (t:TO):Prop where
 pe:PO X e t
structure QF (X:Cx) (e:List Expr) (t:TT):Prop where
 pe:PF X e t
structure QI (X:Cx) (tg e:Expr) (t:TI):Prop where
 pe:PI X tg e t
theorem QW.pt{X:Cx}{e:Expr}{t:TT}(h:QW X e t):QT X e t:=⟨h.pe.pt⟩
section
variable {X:Cx}{pos:Pos}
theorem aB(i:Nat){x:Str}(hN:X.N[i]?=some x:=by rfl)(hv:mO X.env.scope x:=by first | exact Or.inl rfl | exact Or.inr (Or.inl rfl) | exact Or.inr (Or.inr rfl))(hd:(x==("__debug__" : Str))=false:=by decide)(hcd:(x==("__classdict__" : Str))=false:=by decide):QE X (.Name x pos) (LE X.K (aA i)):=⟨IZ (i:=i) (hN:=hN) (hv:=hv) (hd:=hd) (hcd:=hcd)⟩
theorem aG{i:Int}{j:Nat}:QE X (.Constant (.int i) j pos) (LE X.K (aE (.int i))):=⟨le_int ⟩
theorem dB{b:Bool}{j:Nat}:QE X (.Constant (.bool b) j pos) (LE X.K (aE (.bool b))):=⟨V0 ⟩
theorem Ab{j:Nat}:QE X (.Constant .none j pos) (LE X.K (aE .none)):=⟨LM ⟩
theorem bH{x:Str}{j:Nat}:QE X (.Constant (.str x) j pos) (LE X.K (aE (.str x))):=⟨le_str ⟩
end
section
variable {X:Cx}{a b c:Expr}{f g:DE}{pos:Pos}
theorem aS{op:Operator}{r:D2}(ho:dI X (binaryOp op) r)(ha:QE X a (LE X.K f))(hb:QE X b (LE X.K g)):QE X (.BinOp a op b pos) (LE X.K (aF r f g)):=⟨WW (ho:=ho) (ha:=ha.pe) (hb:=hb.pe)⟩
theorem eM{op:CmpOp}{r:D2}(ho:dI X (compareOp op) r)(ha:QE X a (LE X.K f))(hb:QE X b (LE X.K g))(hm:behindInMarks op b=false:=by exact Cm _):QE X (.Compare a [op] [b] pos) (LE X.K (aF r f g)):=⟨z7 (ho:=ho) (ha:=ha.pe) (hb:=hb.pe) (hm:=hm)⟩
theorem bW{op:CmpOp}{r:D2}(ho:dI X (compareOp op) r)(ha:QE X a (LE X.K f))(hb:QE X b (LE X.K g))(hm:behindInMarks op b=false:=by exact Cm _):QT X (.Compare a [op] [b] pos) (LT X.K (aP (aF r f g))):=⟨GV (ho:=ho) (ha:=ha.pe) (hb:=hb.pe) (hm:=hm)⟩
theorem cF(h:QE X a (LE X.K f))(he:∀ whole,isTrue a X.env whole=(do let v <- whole;standAt a.pos;holding [v] (truthy v)):=by intro _;rfl):QT X a (LT X.K (aP f)):=⟨KB (h:=h.pe) (he:=he)⟩
end
section
variable {X:Cx}{a b c:Expr}{bC:List Expr}{f g:DE}{t u:DT}{pos:Pos}
theorem zY(ha:QT X a (LT X.K t)):QW X (.BoolOp .And [a] pos) (LT X.K t):=⟨v6 (ha:=ha.pe)⟩
theorem eG(ha:QT X a (LT X.K t)):QW X (.BoolOp .Or [a] pos) (LT X.K t):=⟨p9 (ha:=ha.pe)⟩
theorem wY(ha:QT X a (LT X.K t))(hb:QW X (.BoolOp .And (b::bC) pos) (LT X.K u)):QW X (.BoolOp .And (a::b::bC) pos) (LT X.K (mJ t u)):=⟨OC (ha:=ha.pe) (hb:=hb.pe)⟩
theorem cY(ha:QT X a (LT X.K t))(hb:QW X (.BoolOp .Or (b::bC) pos) (LT X.K u)):QW X (.BoolOp .Or (a::b::bC) pos) (LT X.K (cJ t u)):=⟨IN (ha:=ha.pe) (hb:=hb.pe)⟩
theorem cZ(ha:QT X a (LT X.K t)):QT X (.UnaryOp .Not a pos) (LT X.K (cU t)):=⟨NR (ha:=ha.pe)⟩
theorem iO{op:BoolOp}(h:QE X a (LE X.K f)):QE X (.BoolOp op [a] pos) (LE X.K f):=⟨EU (h:=h.pe)⟩
theorem gF(ha:QE X a (LE X.K f))(hb:QE X (.BoolOp .And (b::bC) pos) (LE X.K g)):QE X (.BoolOp .And (a::b::bC) pos) (LE X.K (fK f g)):=⟨SQ (ha:=ha.pe) (hb:=hb.pe)⟩
theorem G7(ha:QE X a (LE X.K f)):QE X (.UnaryOp .Not a pos) (LE X.K (Fz f)):=⟨BN (ha:=ha.pe)⟩
theorem tQ(hc:QT X c (LT X.K t))(ha:QE X a (LE X.K f))(hb:QE X b (LE X.K g)):QE X (.IfExp c a b pos) (LE X.K (mW t f g)):=⟨WY (hc:=hc.pe) (ha:=ha.pe) (hb:=hb.pe)⟩
end
section
variable {X:Cx}{e:Expr}{es:List Expr}{f:DE}{g:DA}{pos:Pos}
theorem aJ  : QA X [] (LA X.K aH):=⟨UU ⟩
theorem aD(ha:QE X e (LE X.K f))(hr:QA X es (LA X.K g))(hs:starEach (e::es) X.env=(false,eval e X.env)::starEach es X.env:=by rfl):QA X (e::es) (LA X.K (aC f g)):=⟨AB (ha:=ha.pe) (hr:=hr.pe) (hs:=hs)⟩
theorem cL{j:Nat}(h:QA X es (LA X.K g)):QE X (.Tuple es j pos) (LE X.K (cE g)):=⟨y6 (h:=h.pe)⟩
theorem dL(h:QA X es (LA X.K g)):QE X (.List es pos) (LE X.K (dD g)):=⟨GR (h:=h.pe)⟩
theorem wX(h:QA X es (LA X.K g)):QE X (.List es pos) (LE X.K (nK g)):=⟨BC (h:=h.pe)⟩
end
section
variable {X:Cx}{a b c e:Expr}{es:List Expr}{f g:DE}{ga:DA}{pos p2 p:Pos}
theorem xX(ha:QE X a (LE X.K f)):QE X (.UnaryOp .USub a pos) (LE X.K (pT f)):=⟨SR (ha:=ha.pe)⟩
theorem aO(ha:QE X a (LE X.K f))(hb:QE X b (LE X.K g))(hs:Qx b:=by exact fun _ _=>rfl):QE X (.Subscript a b pos) (LE X.K (aF aN f g)):=⟨PJ (ha:=ha.pe) (hb:=hb.pe) (hs:=hs)⟩
theorem dS  : QO X none (LO X.K dP):=⟨UI ⟩
theorem dM(ha:QE X a (LE X.K f)):QO X (some a) (LO X.K (dH f)):=⟨BV (ha:=ha.pe)⟩
theorem cC{x:Str}{id:String}{r:DC}(hc:CallD X (.builtin id) r)(hg:Gl X x)(hm:X.mg x=none)(hv:bootBuiltins x=some (.builtin id))(ha:QA X (e::es) (LA X.K ga))(hn:x≠"__name__":=by decide)(hdb:(x==("__debug__" : Str))=false:=by decide)(he:starEach (e::es) X.env=(false,eval e X.env)::starEach es X.env:=by rfl)(hpl:(backTo pos (starEach es X.env)).any (·.1)=false:=by rfl):QE X (.Call (.Name x p) (e::es) [] pos) (LE X.K (bL r ga)):=⟨AZ (hc:=hc) (hg:=hg) (hm:=hm) (hv:=hv) (ha:=ha.pe) (hn:=hn) (hdb:=hdb) (he:=he) (hpl:=hpl)⟩
theorem fX{x:Str}{T:String}{r:DC}(hc:CallD X (.type T) r)(hg:Gl X x)(hm:X.mg x=none)(hv:bootBuiltins x=some (.type T))(ha:QA X (e::es) (LA X.K ga))(hn:x≠"__name__":=by decide)(hdb:(x==("__debug__" : Str))=false:=by decide)(he:starEach (e::es) X.env=(false,eval e X.env)::starEach es X.env:=by rfl)(hpl:(backTo pos (starEach es X.env)).any (·.1)=false:=by rfl):QE X (.Call (.Name x p) (e::es) [] pos) (LE X.K (bL r ga)):=⟨VH (hc:=hc) (hg:=hg) (hm:=hm) (hv:=hv) (ha:=ha.pe) (hn:=hn) (hdb:=hdb) (he:=he) (hpl:=hpl)⟩
end
section
variable {X:Cx}{st:Stmt}{bC body orelse:List Stmt}{t u b:DS}{e c tg iter:Expr}{f:DE}{tc:DT}{pos:Pos}
theorem aM  : QSs X [] (LS X.K aL):=⟨ES ⟩
theorem aK(h1:QS X st (LS X.K t))(h2:QSs X bC (LS X.K u)):QSs X (st::bC) (LS X.K (aI t u)):=⟨PD (h1:=h1.pe) (h2:=h2.pe)⟩
theorem sO(he:QE X e (LE X.K f))(hs:swapsWith e none pos.line X.env=pure false:=by rfl):QS X (.Expr e pos) (LS X.K (lW f)):=⟨LU (he:=he.pe) (hs:=hs)⟩
theorem bB(he:QE X e (LE X.K f)):QS X (.Return (some e) pos) (LS X.K (bA f)):=⟨V2 (he:=he.pe)⟩
theorem bX(hc:QT X c (LT X.K tc))(h1:QSs X body (LS X.K t))(h2:QSs X orelse (LS X.K u)):QS X (.If c body orelse pos) (LS X.K (bT tc t u)):=⟨GX (hc:=hc.pe) (h1:=h1.pe) (h2:=h2.pe)⟩
theorem bG(i:Nat){x:Str}{pos':Pos}(hN:X.N.Nodup)(he:QE X e (LE X.K f))(hi:X.N[i]?=some x:=by rfl)(hx:jG X.env.scope x:=by first | exact Or.inl rfl | exact Or.inr rfl)(hs:swapsWith e (some (.Name x pos')) pos.line X.env=pure false:=by rfl)(hf:X.fn x=true\/X.env.scope.names.lookup x=some .local:=by first | exact .inl rfl | exact .inr rfl):QS X (.Assign [.Name x pos'] e pos) (LS X.K (aY i f)):=⟨R0 (i:=i) (hN:=hN) (he:=he.pe) (hi:=hi) (hx:=hx) (hs:=hs) (hf:=hf)⟩
theorem cX(i:Nat){x:Str}(hN:X.N.Nodup)(hi:X.N[i]?=some x:=by rfl)(hx:jG X.env.scope x:=by first | exact Or.inl rfl | exact Or.inr rfl)(hf:X.fn x=true\/X.env.scope.names.lookup x=some .local:=by first | exact .inl rfl | exact .inr rfl):QG X (.Name x pos) (LG X.K (gN i)):=⟨NL (i:=i) (hN:=hN) (hi:=hi) (hx:=hx) (hf:=hf)⟩
theorem qF  : QGs X [] (mI X.K iN):=⟨AF ⟩
theorem fH{es:List Expr}{g:DG}{r:kX}(h1:QG X e (LG X.K g))(h2:QGs X es (mI X.K r))(hs:(assignEach (e::es) X.env).map (·.2)=assign e X.env::(assignEach es X.env).map (·.2):=by rfl):QGs X (e::es) (mI X.K (eE g r)):=⟨UO (h1:=h1.pe) (h2:=h2.pe) (hs:=hs)⟩
theorem nO{es:List Expr}{j n:Nat}{g:kX}(hc:X.calm=true)(h:QGs X es (mI X.K g))(hn:(assignEach es X.env).length=n:=by rfl)(hst:(assignEach es X.env).findIdx? (·.1)=none:=by rfl):QG X (.Tuple es j pos) (LG X.K (gT n g)):=⟨HE (hc:=hc) (h:=h.pe) (hn:=hn) (hst:=hst)⟩
theorem Lc{g:DG}(he:QE X e (LE X.K f))(hg:QG X tg (LG X.K g))(hs:swapsWithSole [tg] e pos.line X.env=pure false:=by rfl)(hw:swappedStores [tg] e X.env=pure none:=by rfl)(h1:(assignEach [tg] X.env).map (·.2)=[assign tg X.env]:=by rfl):QS X (.Assign [tg] e pos) (LS X.K (Ao f g)):=⟨WU (he:=he.pe) (hg:=hg.pe) (hs:=hs) (hw:=hw) (h1:=h1)⟩
theorem FI(i j:Nat){x y:Str}{a b:Expr}{g:DA}{px py pt:Pos}{kt k2 pt2}(hc:X.calm=true)(hN:X.N.Nodup)(ha:QA X [a,b] (LA X.K g))(hi:X.N[i]?=some x:=by rfl)(hj:X.N[j]?=some y:=by rfl)(hij:i≠j:=by decide)(hx:X.env.scope.names.lookup x=some .local:=by rfl)(hy:X.env.scope.names.lookup y=some .local:=by rfl)(hw:swappedStores [.Tuple [.Name x px,.Name y py] kt pt] (.Tuple [a,b] k2 pt2) X.env=pure (some [x,y]):=by rfl)(hs:swapsWithSole [.Tuple [.Name x px,.Name y py] kt pt] (.Tuple [a,b] k2 pt2) pos.line X.env=pure false:=by rfl):QS X (.Assign [.Tuple [.Name x px,.Name y py] kt pt] (.Tuple [a,b] k2 pt2) pos) (LS X.K (Qa i j g)):=⟨FC (i:=i) (j:=j) (hc:=hc) (hN:=hN) (ha:=ha.pe) (hi:=hi) (hj:=hj) (hij:=hij) (hx:=hx) (hy:=hy) (hw:=hw) (hs:=hs)⟩
theorem J7{o i:Expr}{fo fi:DE}{tpos:Pos}(he:QE X e (LE X.K f))(ho:QE X o (LE X.K fo))(hi:QE X i (LE X.K fi))(ha:∀ v,assign (.Subscript o i tpos) X.env v=(do
   let ov <- holding [v] (eval o X.env)
   let iv <- holding [v,ov] (eval i X.env)
   standAt tpos
   holding [v,ov,iv] (setItem ov iv v)
   release [v,ov,iv] []):=by intro _;rfl) (hs:swapsWithSole [.Subscript o i tpos] e pos.line X.env=pure false:=by rfl) (hw:swappedStores [.Subscript o i tpos] e X.env=pure none:=by rfl) (h1:(assignEach [.Subscript o i tpos] X.env).map (·.2)=[assign (.Subscript o i tpos) X.env]:=by rfl):QS X (.Assign [.Subscript o i tpos] e pos) (LS X.K (Bs fo fi f)):=⟨U6 (he:=he.pe) (ho:=ho.pe) (hi:=hi.pe) (ha:=ha) (hs:=hs) (hw:=hw) (h1:=h1)⟩
theorem Vh(hp:PassesOwn (model X.prog X.w) X.A X.env X.xe)(hc:QT X c (LT X.K tc))(hb:QSs X body (LS X.K b)):QS X (.While c body [] pos) (LS X.K (Av tc b)):=⟨Q9 (hp:=hp) (hc:=hc.pe) (hb:=hb.pe)⟩
theorem gZ(ha:QE X e (LE X.K f)):QI X tg e (LI X.K (fE f)):=⟨VJ (ha:=ha.pe)⟩
theorem iZ{p:Pos}(hg:Gl X "range")(hm:X.mg "range"=none)(ha:QE X e (LE X.K f))(hs:starEach [e] X.env=[(false,eval e X.env)]:=by rfl):QI X tg (.Call (.Name "range" p) [e] [] pos) (LI X.K (fN f)):=⟨NK (hg:=hg) (hm:=hm) (ha:=ha.pe) (hs:=hs)⟩
theorem kB{fi:DI}{g:DG}(hp:PassesOwn (model X.prog X.w) X.A X.env X.xe)(hc:X.calm=true)(hi:QI X tg iter (LI X.K fi))(hg:QG X tg (LG X.K g))(hb:QSs X body (LS X.K b))(hs:∀ x,foldedSetIterable iter X.env x=pure x:=by intro _;rfl):QS X (.For tg iter body [] pos) (LS X.K (iR fi g b)):=⟨AO (hp:=hp) (hc:=hc) (hi:=hi.pe) (hg:=hg.pe) (hb:=hb.pe) (hs:=hs)⟩
end
section
variable {X:Cx}{a e:Expr}{es:List Expr}{f:DE}{ga:DA}{pos p p1 p2 p3 p4:Pos}
theorem Rx{j:Nat}(ha:QE X a (LE X.K f)):QE X (.Subscript a (.Slice none none (some (.UnaryOp .USub (.Constant (.int 1) j p3) p4)) p2) pos) (LE X.K (Ee f)):=⟨FF (ha:=ha.pe)⟩
theorem cT{T:Str}{c:String}(hg:Gl X "isinstance")(hm:X.mg "isinstance"=none)(hgT:Gl X T)(hmT:X.mg T=none)(hv:bootBuiltins T=some (.type c))(hc:c="int"\/c="bool"\/c="str"\/c="tuple"\/c="list")(ha:QE X a (LE X.K f))(hn:T≠"__name__":=by decide)(hd:(T==("__debug__" : Str))=false:=by decide)(he:starEach [a,.Name T p2] X.env=(false,eval a X.env)::starEach [.Name T p2] X.env:=by rfl):QE X (.Call (.Name "isinstance" p1) [a,.Name T p2] [] pos) (LE X.K (cN f c)):=⟨MM (hg:=hg) (hm:=hm) (hgT:=hgT) (hmT:=hmT) (hv:=hv) (hc:=hc) (ha:=ha.pe) (hn:=hn) (hd:=hd) (he:=he)⟩
theorem MP{T1 T2:Str}{c1 c2:String}{jt:Nat}(hg:Gl X "isinstance")(hm:X.mg "isinstance"=none)(hgT:Gl X T1)(hmT:X.mg T1=none)(hv:bootBuiltins T1=some (.type c1))(hc:c1="int"\/c1="bool"\/c1="str"\/c1="tuple"\/c1="list")(hgT2:Gl X T2)(hmT2:X.mg T2=none)(hv2:bootBuiltins T2=some (.type c2))(hc2:c2="int"\/c2="bool"\/c2="str"\/c2="tuple"\/c2="list")(ha:QE X a (LE X.K f))(hn:T1≠"__name__":=by decide)(hd:(T1==("__debug__" : Str))=false:=by decide)(hn2:T2≠"__name__":=by decide)(hd2:(T2==("__debug__" : Str))=false:=by decide)(he:starEach [a,.Tuple [.Name T1 p2,.Name T2 p3] jt p4] X.env=(false,eval a X.env)::starEach [.Tuple [.Name T1 p2,.Name T2 p3] jt p4] X.env:=by rfl):QE X (.Call (.Name "isinstance" p1) [a,.Tuple [.Name T1 p2,.Name T2 p3] jt p4] [] pos) (LE X.K (Lo f c1 c2)):=⟨JF (hg:=hg) (hm:=hm) (hgT:=hgT) (hmT:=hmT) (hv:=hv) (hc:=hc) (hgT2:=hgT2) (hmT2:=hmT2) (hv2:=hv2) (hc2:=hc2) (ha:=ha.pe) (hn:=hn) (hd:=hd) (hn2:=hn2) (hd2:=hd2) (he:=he)⟩
theorem aT{k n:Nat}{fa:Addr}{fd:FuncData}{ps:List Str}{sp:DC}{x:Str}(F:FnOk X.prog X.w X.K X.mg X.base aQ k fa fd ps (LSp X.K n sp))(hr:Room k X.A)(hm:X.mg x=some (.ref fa))(hk:PySem.W.keepIn X.K (.ref fa)=true)(hb:Binds X.K fd ps [])(hx:X.xe=fun _ _=>False)(ha:QA X (e::es) (LA X.K ga))(hg:Gl X x:=by rfl)(hdb:(x==("__debug__" : Str))=false:=by decide)(he:starEach (e::es) X.env=(false,eval e X.env)::starEach es X.env:=by rfl)(hpl:(backTo pos (starEach es X.env)).any (·.1)=false:=by rfl):QE X (.Call (.Name x p) (e::es) [] pos) (LE X.K (aR n sp ga)):=⟨DX (F:=F) (hr:=hr) (hm:=hm) (hk:=hk) (hb:=hb) (hx:=hx) (ha:=ha.pe) (hg:=hg) (hdb:=hdb) (he:=he) (hpl:=hpl)⟩
end
section
theorem fR{Y:Cx}:QF Y [] (LT Y.K eO):=⟨UL ⟩
theorem Yb{Y:Cx}{c:Expr}{t:TT}(h:QT Y c t):QF Y [c] t:=⟨MC (h:=h.pe)⟩
end
section
variable {X:Cx}{a e o:Expr}{es:List Expr}{f g:DE}{ga:DA}{pos p p1 p2:Pos}
theorem u4{x:Str}{c:Addr}{zs:List Str}(hg:Gl X x)(hm:X.mg x=some (.ref c))(hk:KT X.K c zs)(hd:(x==("__debug__" : Str))=false:=by decide):QE X (.Name x pos) (LE X.K (aE (.tuple (zs.map .str)))):=⟨AD (hg:=hg) (hm:=hm) (hk:=hk) (hd:=hd)⟩
end
section
variable {X:Cx}{tg iter elt:Expr}{ifs:List Expr}{scope:Scope}{fi:DI}{g:DG}{t:DT}{f:DE}{pos:Pos}
theorem jQ(NC:List Str)(src:List (Option Nat))(hc:X.calm=true)(hi:QI X tg iter (LI X.K fi))(hg:∀ cl C s2 H2 pins fp,QG (bU X scope cl C NC s2 H2 pins fp) tg (LG X.K g))(ht:∀ cl C s2 H2 pins fp,QF (bU X scope cl C NC s2 H2 pins fp) ifs (LT X.K t))(he:∀ cl C s2 H2 pins fp,QE (bU X scope cl C NC s2 H2 pins fp) elt (LE X.K f))(hkind:scope.kind=.function:=by rfl)(hB:chkB scope X.env=true:=by rfl)(hS:chkS X.N scope X.env NC src=true:=by rfl)(hs:∀ x,foldedSetIterable iter X.env x=pure x:=by intro _;rfl):QE X (.ListComp elt [⟨tg,iter,ifs,0⟩] scope pos) (LE X.K (eN src fi g t f)):=⟨JD (NC:=NC) (src:=src) (hc:=hc) (hi:=hi.pe) (hg:=fun cl C s2 H2 pins fp=>(hg cl C s2 H2 pins fp).pe) (ht:=fun cl C s2 H2 pins fp=>(ht cl C s2 H2 pins fp).pe) (he:=fun cl C s2 H2 pins fp=>(he cl C s2 H2 pins fp).pe) (hkind:=hkind) (hB:=hB) (hS:=hS) (hs:=hs)⟩
theorem zE(i:Nat){y:Str}{py spos:Pos}(NC:List Str)(src:List (Option Nat))(hc:X.calm=true)(hN:X.N.Nodup)(hi:QI X tg iter (LI X.K fi))(hg:∀ cl C s2 H2 pins fp,QG (bU X scope cl C NC s2 H2 pins fp) tg (LG X.K g))(ht:∀ cl C s2 H2 pins fp,QF (bU X scope cl C NC s2 H2 pins fp) ifs (LT X.K t))(he:∀ cl C s2 H2 pins fp,QE (bU X scope cl C NC s2 H2 pins fp) elt (LE X.K f))(hkind:scope.kind=.function:=by rfl)(hB:chkB scope X.env=true:=by rfl)(hS:chkS X.N scope X.env NC src=true:=by rfl)(hi2:X.N[i]?=some y:=by rfl)(hx:jG X.env.scope y:=by first | exact Or.inl rfl | exact Or.inr rfl)(hf:X.fn y=true\/X.env.scope.names.lookup y=some .local:=by first | exact .inl rfl | exact .inr rfl)(hsw:swapsWith (.ListComp elt [⟨tg,iter,ifs,0⟩] scope pos) (some (.Name y py)) spos.line X.env=pure true:=by rfl)(hs:∀ x,foldedSetIterable iter X.env x=pure x:=by intro _;rfl):QS X (.Assign [.Name y py] (.ListComp elt [⟨tg,iter,ifs,0⟩] scope pos) spos) (LS X.K (aY i (eN src fi g t f))):=⟨JU (i:=i) (NC:=NC) (src:=src) (hc:=hc) (hN:=hN) (hi:=hi.pe) (hg:=fun cl C s2 H2 pins fp=>(hg cl C s2 H2 pins fp).pe) (ht:=fun cl C s2 H2 pins fp=>(ht cl C s2 H2 pins fp).pe) (he:=fun cl C s2 H2 pins fp=>(he cl C s2 H2 pins fp).pe) (hkind:=hkind) (hB:=hB) (hS:=hS) (hi2:=hi2) (hx:=hx) (hf:=hf) (hsw:=hsw) (hs:=hs)⟩
end
section
variable {X:Cx}{a e o:Expr}{es:List Expr}{f g:DE}{ga:DA}{pos p p1 p2:Pos}
theorem LY{z:Str}{jc:Nat}{apos cpos:Pos}(he:QE X e (LE X.K g))(hbase:attributeBase (.Constant (.str z) jc p) "join" X.env (eval (.Constant (.str z) jc p) X.env)=eval (.Constant (.str z) jc p) X.env:=by rfl)(hfew:((backTo cpos (starEach [e] X.env)).all (fun x=>!x.1)&&(backToKw cpos (keywordEach [] X.env)).all (fun x=>x.1.isSome)&&decide ([e].length+([]:List Keyword).length+(if ([]:List Keyword).isEmpty then 0 else 1)<30))=true:=by rfl)(hline:(apos.endLine==cpos.line)=true:=by rfl)(hs:starEach [e] X.env=(false,eval e X.env)::starEach [] X.env:=by rfl):QE X (.Call (.Attribute (.Constant (.str z) jc p) "join" apos) [e] [] cpos) (LE X.K (Me z g)):=⟨BI (he:=he.pe) (hbase:=hbase) (hfew:=hfew) (hline:=hline) (hs:=hs)⟩
theorem pV{apos cpos:Pos}(ho:QE X o (LE X.K f))(he:QE X e (LE X.K g))(hbase:attributeBase o "append" X.env (eval o X.env)=eval o X.env:=by rfl)(hfew:((backTo cpos (starEach [e] X.env)).all (fun x=>!x.1)&&(backToKw cpos (keywordEach [] X.env)).all (fun x=>x.1.isSome)&&decide ([e].length+([]:List Keyword).length+(if ([]:List Keyword).isEmpty then 0 else 1)<30))=true:=by rfl)(hline:(apos.endLine==cpos.line)=true:=by rfl)(hs:starEach [e] X.env=(false,eval e X.env)::starEach [] X.env:=by rfl):QE X (.Call (.Attribute o "append" apos) [e] [] cpos) (LE X.K (kY f g)):=⟨NA (ho:=ho.pe) (he:=he.pe) (hbase:=hbase) (hfew:=hfew) (hline:=hline) (hs:=hs)⟩
theorem Sj{lo hi:Option Expr}{tl th:DO}(ha:QE X a (LE X.K f))(hl:QO X lo (LO X.K tl))(hu:QO X hi (LO X.K th)):QE X (.Subscript a (.Slice lo hi none p2) pos) (LE X.K (Gg f tl th)):=⟨KK (ha:=ha.pe) (hl:=hl.pe) (hu:=hu.pe)⟩
end
section
variable {X:Cx}{o i e:Expr}{fo fi f:DE}{pos tpos:Pos}
theorem Cl(hu:X.A.units+100<cLine)(ho:QE X o (LE X.K fo))(hi:QE X i (LE X.K fi))(hs:vQ i:=by exact fun _ _=>rfl):QE X (.Subscript o i pos) (LE X.K (vV fo fi)):=⟨HF (hu:=hu) (ho:=ho.pe) (hi:=hi.pe) (hs:=hs)⟩
end
section
variable {X:Cx}{i e g:Expr}{fi f fg:DE}{p pos apos cpos:Pos}
theorem IG{x:Str}{c:Addr}{kvs:List (Str×PyData)}(hg:Gl X x)(hm:X.mg x=some (.ref c))(hk:KD X.K X.w c kvs)(hi:QE X i (LE X.K fi))(hd:(x==("__debug__" : Str))=false:=by decide)(hs:vQ i:=by exact fun _ _=>rfl):QE X (.Subscript (.Name x p) i pos) (LE X.K (Aq kvs fi)):=⟨HU (hg:=hg) (hm:=hm) (hk:=hk) (hi:=hi.pe) (hd:=hd) (hs:=hs)⟩
end
section
variable {X:Cx}{e:Expr}{f:DE}{pos p:Pos}
theorem C4(hc:X.calm=true)(hg:Gl X "dict")(hm:X.mg "dict"=none)(he:QE X e (LE X.K f))(hs:starEach [e] X.env=[(false,eval e X.env)]:=by rfl):QE X (.Call (.Name "dict" p) [e] [] pos) (LE X.K (Et f)):=⟨Z6 (hc:=hc) (hg:=hg) (hm:=hm) (he:=he.pe) (hs:=hs)⟩
end
section
variable {X:Cx}{tg iter tg2 iter2 elt:Expr}{ifs ifs2:List Expr}{scope:Scope}{NC:List Str}{fi fi2:DI}{g g2:DG}{t t2:DT}{f:DE}{pos:Pos}
theorem JM(NC:List Str)(src:List (Option Nat))(hc:X.calm=true)(hi:QI X tg iter (LI X.K fi))(hg:∀ cl C s2 H2 pins fp,QG (bU X scope cl C NC s2 H2 pins fp) tg (LG X.K g))(ht:∀ cl C s2 H2 pins fp,QF (bU X scope cl C NC s2 H2 pins fp) ifs (LT X.K t))(hi2:∀ cl C s2 H2 pins fp,QI (bU X scope cl C NC s2 H2 pins fp) tg2 iter2 (LI X.K fi2))(hg2:∀ cl C s2 H2 pins fp,QG (bU X scope cl C NC s2 H2 pins fp) tg2 (LG X.K g2))(ht2:∀ cl C s2 H2 pins fp,QF (bU X scope cl C NC s2 H2 pins fp) ifs2 (LT X.K t2))(he:∀ cl C s2 H2 pins fp,QE (bU X scope cl C NC s2 H2 pins fp) elt (LE X.K f))(hkind:scope.kind=.function:=by rfl)(hB:chkB scope X.env=true:=by rfl)(hS:chkS X.N scope X.env NC src=true:=by rfl)(hs2:∀ cl C x,foldedSetIterable iter2 (compEnvC scope cl C X.env) x=pure x:=by intro _ _ _;rfl)(hs:∀ x,foldedSetIterable iter X.env x=pure x:=by intro _;rfl):QE X (.ListComp elt [⟨tg,iter,ifs,0⟩,⟨tg2,iter2,ifs2,0⟩] scope pos) (LE X.K (Ci src fi g t fi2 g2 t2 f)):=⟨j5 (NC:=NC) (src:=src) (hc:=hc) (hi:=hi.pe) (hg:=fun cl C s2 H2 pins fp=>(hg cl C s2 H2 pins fp).pe) (ht:=fun cl C s2 H2 pins fp=>(ht cl C s2 H2 pins fp).pe) (hi2:=fun cl C s2 H2 pins fp=>(hi2 cl C s2 H2 pins fp).pe) (hg2:=fun cl C s2 H2 pins fp=>(hg2 cl C s2 H2 pins fp).pe) (ht2:=fun cl C s2 H2 pins fp=>(ht2 cl C s2 H2 pins fp).pe) (he:=fun cl C s2 H2 pins fp=>(he cl C s2 H2 pins fp).pe) (hkind:=hkind) (hB:=hB) (hS:=hS) (hs2:=hs2) (hs:=hs)⟩
end
section
variable {X:Cx}{e g:Expr}{fi fg:DE}{p apos cpos:Pos}
theorem MB{x:Str}{c:Addr}{kvs:List (List Str×PyData)}(hu:X.A.units+100<cLine)(hg:Gl X x)(hm:X.mg x=some (.ref c))(hk:Dl X.K X.w c kvs)(he:QE X e (LE X.K fi))(hf:QE X g (LE X.K fg))(hd:(x==("__debug__" : Str))=false:=by decide)(hbase:attributeBase (.Name x p) "get" X.env (eval (.Name x p) X.env)=eval (.Name x p) X.env:=by rfl)(hfew:((backTo cpos (starEach [e,g] X.env)).all (fun x=>!x.1)&&(backToKw cpos (keywordEach [] X.env)).all (fun x=>x.1.isSome)&&decide (([e,g]:List Expr).length+([]:List Keyword).length+(if ([]:List Keyword).isEmpty then 0 else 1)<30))=true:=by rfl)(hline:(apos.endLine==cpos.line)=true:=by rfl)(hs:backTo cpos (starEach [e,g] X.env)=[(false,eval e X.env),(false,eval g X.env)]:=by rfl):QE X (.Call (.Attribute (.Name x p) "get" apos) [e,g] [] cpos) (LE X.K (Bm kvs fi fg)):=⟨HW (hu:=hu) (hg:=hg) (hm:=hm) (hk:=hk) (he:=he.pe) (hf:=hf.pe) (hd:=hd) (hbase:=hbase) (hfew:=hfew) (hline:=hline) (hs:=hs)⟩
end
section
variable {X:Cx}{o e:Expr}{f g:DE}{apos cpos:Pos}
theorem Sa(ho:QE X o (LE X.K f))(he:QE X e (LE X.K g))(hbase:attributeBase o "index" X.env (eval o X.env)=eval o X.env:=by rfl)(hfew:((backTo cpos (starEach [e] X.env)).all (fun x=>!x.1)&&(backToKw cpos (keywordEach [] X.env)).all (fun x=>x.1.isSome)&&decide ([e].length+([]:List Keyword).length+(if ([]:List Keyword).isEmpty then 0 else 1)<30))=true:=by rfl)(hline:(apos.endLine==cpos.line)=true:=by rfl)(hs:backTo cpos (starEach [e] X.env)=[(false,eval e X.env)]:=by rfl):QE X (.Call (.Attribute o "index" apos) [e] [] cpos) (LE X.K (Dr f g)):=⟨OQ (ho:=ho.pe) (he:=he.pe) (hbase:=hbase) (hfew:=hfew) (hline:=hline) (hs:=hs)⟩
end
section
variable {X:Cx}{a:Expr}{f:DE}{pos p2:Pos}
theorem G9{lo hi:Option Expr}{tl th:DO}(ha:QE X a (LE X.K f))(hl:QO X lo (LO X.K tl))(hu:QO X hi (LO X.K th)):QE X (.Subscript a (.Slice lo hi none p2) pos) (LE X.K (Bn f tl th)):=⟨FG (ha:=ha.pe) (hl:=hl.pe) (hu:=hu.pe)⟩
theorem eF{lo hi:Option Expr}{tl th:DO}(ha:QE X a (LE X.K f))(hl:QO X lo (LO X.K tl))(hu:QO X hi (LO X.K th)):QE X (.Subscript a (.Slice lo hi none p2) pos) (LE X.K (eA f tl th)):=⟨JX (ha:=ha.pe) (hl:=hl.pe) (hu:=hu.pe)⟩
end
section
variable {X:Cx}{e:Expr}{f:DE}
theorem w9(he:QE X e (LE X.K f)):QE X e (LE X.K (Kw f)):=⟨KJ (he:=he.pe)⟩
end
section
variable {X:Cx}{a b c:Expr}{f g h:DE}{pos:Pos}
theorem Fb{op op':CmpOp}{r r':D2}(ho:dI X (compareOp op) r)(ho':dI X (compareOp op') r')(ha:QE X a (LE X.K f))(hb:QE X b (LE X.K g))(hc:QE X c (LE X.K h))(hm:lastMarks [op,op'] [b,c]=false:=by with_unfolding_all rfl):QT X (.Compare a [op,op'] [b,c] pos) (LT X.K (aP (vE r r' f g h))):=⟨Tn (ho:=ho) (ho':=ho') (ha:=ha.pe) (hb:=hb.pe) (hc:=hc.pe) (hm:=hm)⟩
theorem Ov{x:Str}{i:Int}{t:Tok}(hg:Gl X x)(hm:X.mg x=some (.int i t))(hd:(x==("__debug__" : Str))=false:=by decide):QE X (.Name x pos) (LE X.K (aE (.int i))):=⟨DJ (hg:=hg) (hm:=hm) (hd:=hd)⟩
theorem CV{x:Str}{z:Str}{t:Tok}(hg:Gl X x)(hm:X.mg x=some (.str z t))(hd:(x==("__debug__" : Str))=false:=by decide):QE X (.Name x pos) (LE X.K (aE (.str z))):=⟨WV (hg:=hg) (hm:=hm) (hd:=hd)⟩
end
section
variable {X:Cx}{e:Expr}{f:DE}{pos p p2 pos2:Pos}
theorem S9(hc:X.calm=true)(hg:Gl X "sorted")(hm:X.mg "sorted"=none)(hg2:Gl X "set")(hm2:X.mg "set"=none)(he:QE X e (LE X.K f))(hs:starEach [e] X.env=[(false,eval e X.env)]:=by rfl)(hs2:starEach [.Call (.Name "set" p2) [e] [] pos2] X.env=[(false,eval (.Call (.Name "set" p2) [e] [] pos2) X.env)]:=by rfl):QE X (.Call (.Name "sorted" p) [.Call (.Name "set" p2) [e] [] pos2] [] pos) (LE X.K (Nf f)):=⟨RO (hc:=hc) (hg:=hg) (hm:=hm) (hg2:=hg2) (hm2:=hm2) (he:=he.pe) (hs:=hs) (hs2:=hs2)⟩
end
section
variable {X:Cx}{a:Expr}{tg:Expr}{f:DE}
theorem Wt(ha:QE X a (LE X.K f)):QI X tg a (LI X.K (Dc f)):=⟨j4 (ha:=ha.pe)⟩
end
section
variable {P:Program}{w:World}{K:PySem.W.Frag}{mg:Str->Option Value}{base:Heap}
theorem cR{x qual:Str}{st:Stmt}{fa:Addr}{fd:FuncData}{N ps:List Str}{k:Nat}{sp:DC}{body:DS}(F:Fun K x qual st fa fd)(S:FnScope N ps (aV st))
  (hb:∀ (cdv:Value) (A:Around) (outer:List Env) (s:Shared) (H:Hp) (E:XK),Room k (A.deeper (envOfC qual (aV st) s.heap.objs.size fa cdv))->QSs (mM aQ P w K mg base N qual (aV st) fa cdv A outer s H E).nox (cD st) (LS K body))
  (hv:∀ ds m R,ds.length=ps.length->sp ds m R->body {nx:=fun _ m=>R (.dat .none) m,rt:=R} (aW N ds) m):FnOk P w K mg base aQ (k+1) fa fd ps (LSp K ps.length sp):=GC F S (fun cdv A outer s H E hr=>(hb cdv A outer s H E hr).pe) hv
end
end DL
set_option maxHeartbeats 1000000
namespace K01
open PySem PySem.Spec PyProof.Rows L2 DL
theorem Yi(a b:Int):Int.gcd b (a.fmod b)=Int.gcd a b:=by
 have h:a.fmod b=a-b*a.fdiv b:=by
  have:=Int.mul_fdiv_add_fmod a b
  omega
 rw[h];have h2:a-b*a.fdiv b=a+b*(-(a.fdiv b)):=by rw[Int.mul_neg];omega
 rw[h2,Int.gcd_add_mul_left_right,Int.gcd_comm]
theorem Vt(a b:Int)(h:b≠0):(a.fmod b).natAbs<b.natAbs:=by
 rcases Int.lt_or_gt_of_ne h with h | h
 ·have h1:=Int.neg_fmod_neg a b
  have h2:=Int.fmod_lt_of_pos (-a) (show 0 < -b by omega)
  have h3:=Int.fmod_nonneg_of_pos (-a) (show 0 < -b by omega)
  omega
 ·have h2:=Int.fmod_lt_of_pos a h
  have h3:=Int.fmod_nonneg_of_pos a h
  omega
theorem log2_lt{n k:Nat}(h:n<2^k)(hk:0<k):n.log2<k:=by
 by_cases hn:n=0
 ·subst hn;simpa using hk
 ·exact(Nat.log2_lt hn).mpr h
def Bd(n:Nat)(i:Int):Prop:=i.natAbs<2^n
theorem Bd.mono{m n:Nat}{i:Int}(h:Bd m i)(hl:m<=n):Bd n i:=Nat.lt_of_lt_of_le h (Nat.pow_le_pow_right (by decide) hl)
theorem Bd.mul{m n:Nat}{i j:Int}(h:Bd m i)(g:Bd n j):Bd (m+n) (i*j):=by
 unfold Bd at *;rw[Int.natAbs_mul,Nat.pow_add];exact Nat.mul_lt_mul'' h g
theorem Bd.add{n:Nat}{i j:Int}(h:Bd n i)(g:Bd n j):Bd (n+1) (i+j):=by
 unfold Bd at *;have:=Int.natAbs_add_le i j
 rw[Nat.pow_succ];omega
theorem Bd.neg{n:Nat}{i:Int}(h:Bd n i):Bd n (-i):=by
 unfold Bd at *;rw[Int.natAbs_neg];exact h
theorem Bd.sub{n:Nat}{i j:Int}(h:Bd n i)(g:Bd n j):Bd (n+1) (i-j):=by
 rw[Int.sub_eq_add_neg];exact h.add g.neg
theorem Bd.log{n:Nat}{i:Int}(h:Bd n i)(hn:0<n):i.natAbs.log2<n:=log2_lt h hn
theorem Bd.mulOk{m n:Nat}{i j:Int}(h:Bd m i)(g:Bd n j)(hm:m+n<=134217728):IntMulOk i j :=
 IntMulOk.of_le (intBits_le_iff.mpr h) (intBits_le_iff.mpr g) hm
def fr(t b:Int):PyData:=.tuple [.int (t / (Int.gcd t b:Int)),.int (b / (Int.gcd t b:Int))]
theorem Kf{t b:Int}(h:b≠0):(0:Int)<(Int.gcd t b:Int):=by
 have:=Int.gcd_pos_of_ne_zero_right t h
 omega
theorem BK{x g:Int}(hg:0<g)(hd:g∣x):0<x / g↔0<x:=by
 obtain⟨y,rfl⟩:=hd;rw[Int.mul_ediv_cancel_left _ (by omega)]
 constructor
 ·intro h;exact Int.mul_pos hg h
 ·intro h;exact Int.pos_of_mul_pos_right h hg
def Sv(B w e:Nat)(p:PyData):Prop:=p.showable=true/\p.leavesShort B=true/\p.weight<=w/\p.depth<=e
theorem Sv.mono{B w e w' e':Nat}{p:PyData}(h:Sv B w e p)(h1:w<=w')(h2:e<=e'):Sv B w' e' p:=⟨h.1,h.2.1,Nat.le_trans h.2.2.1 h1,Nat.le_trans h.2.2.2 h2⟩
end K01
namespace K15
open PySem PySem.Spec PyProof.Rows L2 DL K01
def g8(xs:List PyData):Prop:=∃ a b c d:Int,xs=[.int a,.int b,.int c,.int d]
def Feeds(m:Mu)(a:Addr):Prop:=∃ xs,m a=some (.l xs)/\g8 xs
def Kp(a:Addr)(m m':Mu):Prop:=∀ c,c≠a->(m c).isSome=true->m' c=m c
def Kn(m m':Mu):Prop:=∀ c,(m c).isSome=true->m' c=m c
abbrev I(i:Int):D:=.dat (.int i)
abbrev fq(x:Int×Int):PyData:=.tuple [.int x.1,.int x.2]
def sE:List Str:=["ahead","meets","overlaps","begins","within","ends","same","ended","holds","begun","lapped","met","behind"]
def kd(k:Bool):Str:=if k then "stretch" else "point"
def WS:Bool->Bool->List Str
 | true,true=>sE
 | false,false=>["ahead","same","behind"]
 | false,true=>["ahead","begins","within","ends","behind"]
 | true,false=>["ahead","ended","holds","begun","behind"]
def wC(x:Int):Int:=(if 0<x then 1 else 0)-(if x<0 then 1 else 0)
def fZ(x y:Int×Int):Int:=wC (x.1*y.2-y.1*x.2)
def row(i j:Int):Str:=if i<0 then (if j<0 then "overlaps" else if j=0 then "ended" else "holds") else if i=0 then (if j<0 then "begins" else if j=0 then "same" else "begun") else (if j<0 then "within" else if j=0 then "ends" else "lapped")
def wc(both:Bool)(s1 s2 s3 s4:Int):Str:=if s1<0 then "ahead" else if 0<s2 then "behind" else if both=true/\s1=0 then "meets" else if both=true/\s2=0 then "met" else row s3 s4
def wd(both:Bool)(a0 a1 b0 b1:Int×Int):Str:=wc both (fZ a1 b0) (fZ a0 b1) (fZ a0 b0) (fZ a1 b1)
structure Tm (p:PyData) (k:Bool) (x y:Int×Int):Prop where
 eq:p=if k then .tuple [fq x,fq y] else fq x
 px:0<x.2
 py:0<y.2
 st:k=true->x.1*y.2<y.1*x.2
 pt:k=false->y=x
 b1:Bd 800 x.1
 b2:Bd 800 x.2
 b3:Bd 800 y.1
 b4:Bd 800 y.2
abbrev lS(k l:Bool):PyData:=.tuple [.str (kd k),.str (kd l)]
def yX:DC:=fun ds m R=>∃ a b:Int,ds=[I a,I b]/\R (I (Int.gcd a b)) m
def Ai:DC:=fun ds m R=>∃ k l,ds=[.dat (lS k l)]/\R (.dat (.tuple ((WS k l).map .str))) m
def yF:DC:=fun ds m R=>∃ (ns:List Int) (k:Int),ds=[.dat (.list (ns.map .int)),I k]/\ns.length<=63/\0<=k/\k<=1000/\∀ a m',Feeds m' a->R (.cel a) m'
def bS:DC:=fun ds m R=>∃ (a:Addr) (n:Int),ds=[.cel a,I n]/\0<n/\Bd 2000 n/\Feeds m a/\∀ (r:Int) m',0<=r->r<n->Feeds m' a->Kp a m m'->R (I r) m'
def hX:DC:=fun ds m R=>∃ t b:Int,ds=[I t,I b]/\0<b/\Bd 2000 b/\R (.dat (fr t b)) m
def CS:DC:=fun ds m R=>∃ x y:Int×Int,ds=[.dat (fq x),.dat (fq y)]/\Bd 2000 x.1/\Bd 2000 x.2/\Bd 2000 y.1/\Bd 2000 y.2/\R (I (fZ x y)) m
def CP:DC:=fun ds m R=>∃ p q k l a0 a1 b0 b1,ds=[.dat p,.dat q]/\Tm p k a0 a1/\Tm q l b0 b1/\R (.dat (.str (wd (k&&l) a0 a1 b0 b1))) m
def jU:DC:=CS
def yZ:DC:=CP
abbrev TH(ts:List (Str×Bool)):PyData:=.tuple (ts.map fun t=>.tuple [.str t.1,.str (kd t.2)])
def TmAll:List (Str×Bool)->List PyData->Prop
 | [],[]=>True
 | t::ts,p::ps=>(∃ x y,Tm p t.2 x y)/\TmAll ts ps
 | _,_=>False
def rN:PyData->Bool×(Int×Int)×(Int×Int)
 | .tuple [.tuple [.int a,.int b],.tuple [.int c,.int d]]=>(true,(a,b),(c,d))
 | .tuple [.int a,.int b]=>(false,(a,b),(a,b))
 | _=>(false,(0,1),(0,1))
def mN(n:Nat)(p:PyData):Prop:=Bd n (rN p).2.1.1/\Bd n (rN p).2.1.2/\Bd n (rN p).2.2.1/\Bd n (rN p).2.2.2
def kD(z:Str):Prop:=z.cps.toList.all (fun c=>decide (c<1114112))=true/\z.length<=20
def Nm(zs:List Str):Prop:=zs.Nodup/\zs.length<=6/\∀ z∈zs,kD z
def tT:DC:=fun ds m R=>∃ (a:Addr) (k:Bool) (base jJ bottom:Int),ds=[.cel a,.dat (.str (kd k)),I base,I jJ,I bottom]/\2<=jJ/\jJ<=9/\-1000<=base/\base<=1000000/\1<=bottom/\bottom<=1000000/\Feeds m a /\
 ∀ p x y m',Tm p k x y->mN 60 p->Feeds m' a->R (.dat p) m'
def xY:DC:=fun ds m R=>∃ (a:Addr) (n:Int),ds=[.cel a,I n]/\1<=n/\n<=6/\Feeds m a/\∀ (zs:List Str) m',(zs.length:Int)=n->Nm zs->Feeds m' a->R (.dat (.list (zs.map .str))) m'
def zG:DC:=fun ds m R=>∃ (a:Addr) (n:Int),ds=[.cel a,I n]/\1<=n/\n<=6/\Feeds m a/\∀ (ks:List Bool) m',(ks.length:Int)=n->Feeds m' a->R (.dat (.tuple (ks.map fun k=>.str (kd k)))) m'
def Ah:DC:=fun ds m R=>∃ (a:Addr) (n:Int),ds=[.cel a,I n]/\1<=n/\n<=6/\Feeds m a/\∀ (ts:List (Str×Bool)) m',1<=ts.length->Nm (ts.map (·.1))->Feeds m' a->R (.dat (TH ts)) m'
def zA:DC:=fun ds m R=>∃ (a:Addr) (ts:List (Str×Bool)),ds=[.cel a,.dat (TH ts)]/\ts.length<=6/\Feeds m a/\∀ (ps:List PyData) m',TmAll ts ps->(∀ p∈ps,mN 60 p)->Feeds m' a->R (.dat (.tuple ps)) m'
def FN(ns:List Str)(ps:List PyData)(z:Str):PyData:=ps.getD (ns.idxOf z) .none
abbrev FT(ts:List (Str×Bool))(ps:List PyData)(z:Str):PyData:=FN (ts.map (·.1)) ps z
abbrev eD(x:Str×Bool):PyData:=.tuple [.str x.1,.int (if x.2 then 1 else 0)]
def iT(ts:List (Str×Bool))(ps:List PyData)(x:Str×Bool):Int×Int:=if x.2 then (rN (FT ts ps x.1)).2.2 else (rN (FT ts ps x.1)).2.1
def dU:List (Str×Bool)->List (Str×Bool)
 | []=>[]
 | t::ts=>(t.1,false)::((if t.2 then [(t.1,true)] else [])++dU ts)
inductive Say where
 | may (a b:Str) (ws:List Str)
 | gap (x y:Str×Bool) (n:Int×Int) (s:Bool)
def fB:Say->PyData
 | .may a b ws=>.tuple [.str "may",.str a,.str b,.tuple (ws.map .str)]
 | .gap x y n s=>.tuple [.str "gap",eD x,eD y,fq n,.bool s]
def kF(ts:List (Str×Bool)):Say->Prop
 | .may a b ws=>a∈ts.map (·.1)/\b∈ts.map (·.1)/\ws.length<=13/\∀ w∈ws,w∈sE
 | .gap x y n s=>x.1∈ts.map (·.1)/\y.1∈ts.map (·.1)/\0<n.2/\Bd 200 n.1/\Bd 200 n.2
abbrev TK(ts:List (Str×Bool))(ss:List Say):PyData:=.tuple [TH ts,.tuple (ss.map fB)]
def kA:DC:=fun ds m R=>∃ k l,ds=[.dat (lS k l)]/\R (.dat (.list ((WS k l).map .str))) m
def yY:DC:=fun ds m R=>∃ a k l,ds=[.cel a,.dat (lS k l)]/\Feeds m a/\∀ zs m',List.Sublist zs (WS k l)->Feeds m' a->Kp a m m'->R (.dat (.tuple (zs.map .str))) m'
def lH:DC:=fun ds m R=>∃ ts:List (Str×Bool),ds=[.dat (TH ts)]/\ts.length<=6/\∀ c m',m c=none->Kn m m'->m' c=some (.l ((dU ts).map eD))->R (.cel c) m'
def tD:DC:=fun ds m R=>∃ ts ps x,ds=[.dat (TH ts),.dat (.tuple ps),.dat (eD x)]/\Nm (ts.map (·.1))/\TmAll ts ps/\x.1∈ts.map (·.1)/\R (.dat (fq (iT ts ps x))) m
def zR:DC:=fun ds m R=>∃ (a:Addr) (ts:List (Str×Bool)) (ps:List PyData),ds=[.cel a,.dat (TH ts),.dat (.tuple ps)]/\Nm (ts.map (·.1))/\TmAll ts ps/\2<=ts.length/\Feeds m a/\∀ s m',kF ts s->Feeds m' a->Kp a m m'->R (.dat (fB s)) m'
def wM:DC:=fun ds m R=>∃ (a:Addr) (ts:List (Str×Bool)) (ps:List PyData),ds=[.cel a,.dat (TH ts),.dat (.tuple ps)]/\Nm (ts.map (·.1))/\TmAll ts ps/\(∀ p∈ps,mN 60 p)/\2<=(dU ts).length/\Feeds m a/\∀ s m',kF ts s->Feeds m' a->Kp a m m'->R (.dat (fB s)) m'
def Au:DC:=fun ds m R=>∃ (a:Addr) (ts:List (Str×Bool)) (ps:List PyData) (n:Int),ds=[.cel a,.dat (TH ts),.dat (.tuple ps),I n]/\Nm (ts.map (·.1))/\TmAll ts ps/\(∀ p∈ps,mN 60 p)/\0<=n/\n<=40/\Feeds m a/\∀ ss m',ss.length<=40->(∀ s∈ss,kF ts s)->Feeds m' a->R (.dat (TK ts ss)) m'
mutual
def jB:PyData->Bool
 | .str z=>decide (z.length<=1000)
 | .list xs | .tuple xs=>shA xs
 | .int i=>decide (i.natAbs<2^400)
 | .none | .bool _ | .dict _=>true
def shA:List PyData->Bool
 | []=>true
 | x::xs=>jB x&&shA xs
end
def Ly(n:Nat)(p:PyData):Prop:=p.canLay0=true/\p.depth<=n/\jB p=true
def jN:PyData->Bool
 | .str z=>decide (1<=z.length)&&(decide (z.length<=8)&&z.cps.toList.all fun c=>Txt.contains "abcdefghijklmnopqrstuvwxyz" ⟨#[c]⟩)
 | _=>false
def kE:PyData->Bool
 | .str z=>decide (z="point"\/z="stretch")
 | _=>false
def fA:PyData->Bool
 | .tuple [x,y]=>jN x&&kE y
 | _=>false
def kK:PyData->Str
 | .tuple (.str z::_)=>z
 | _=>""
def sZ:Str->List PyData->Bool
 | _,[]=>true
 | l,x::xs=>fA x&&(decide (l.cps.toList<(kK x).cps.toList)&&sZ (kK x) xs)
def jR:PyData->Bool
 | .tuple xs=>decide (1<=xs.length)&&(decide (xs.length<=6)&&sZ "" xs)
 | _=>false
def El(x:PyData):Prop:=(∃ z:Str,x=.str z)\/(x.canLay0=true/\x.depth<=40/\∀ z,x≠.str z)
def Gd(p:PyData):Prop:=∀ xs,p=.tuple xs->∀ x∈xs,El x
def may(ws:List Str):List PyData->Bool
 | []=>true
 | .str z::xs=>if z∈ws then may (ws.drop (ws.idxOf z+1)) xs else false
 | _::_=>false
def mQ(k l:Bool):PyData->Bool
 | .tuple xs=>may (WS k l) xs
 | _=>false
def lX:PyData->Bool
 | .tuple [.int a,.int b]=>decide (1<=b)&&decide ((Int.gcd a b:Int)=1)
 | _=>false
def fM:Nat->PyData->Prop
 | 0,p=>(∃ z,p=.str z/\kD z)\/(∃ i,p=.int i/\Bd 200 i)\/∃ b,p=.bool b
 | n+1,p=>fM n p\/∃ xs,p=.tuple xs/\xs.length<=40/\∀ x∈xs,fM n x
def fQ(ts:List (Str×Bool))(a:Str):Bool:=((ts.find? fun t=>decide (t.1=a)).map (·.2)).getD false
def iX(ts:List (Str×Bool)):PyData->PyData->Bool
 | .str a,.str b=>decide (a∈ts.map (·.1))&&(decide (b∈ts.map (·.1)) && !decide (a=b))
 | _,_=>false
def nQ(ts:List (Str×Bool)):List PyData->Bool
 | [_,.str a,.str b,w]=>iX ts (.str a) (.str b)&&(mQ (fQ ts a) (fQ ts b) w && !(w.eqv (.tuple [])))
 | _=>false
def gE(ts:List (Str×Bool)):PyData->Bool
 | .tuple [x,.int i]=>((dU ts).map eD).any fun y=>y.eqv (.tuple [x,.int i])
 | _=>false
def zN:PyData->Bool
 | .bool _=>true
 | _=>false
def wF(ts:List (Str×Bool)):List PyData->Bool
 | [_,x,y,n,s]=>gE ts x&&(gE ts y&&(!(x.eqv y)&&(lX n&&zN s)))
 | _=>false
def jX(ts:List (Str×Bool)):PyData->Bool
 | .tuple (.str z::xs)=>if z="may" then nQ ts (.str z::xs) else if z="gap" then wF ts (.str z::xs) else false
 | _=>false
def nZ(ts:List (Str×Bool)):Prop:=ts.length<=6/\(ts.map (·.1)).Nodup/\∀ t∈ts,PyData.strOk t.1=true
def jE:PyData->List (Str×Bool)
 | .tuple xs=>xs.map fun x=>match x with
  | .tuple [.str a,.str b]=>(a,decide (b="stretch"))
  | _=>("",false)
 | _=>[]
def lI:PyData->Bool
 | .tuple [th,.tuple ss]=>jR th&&(decide (ss.length<=24)&&ss.all (jX (jE th)))
 | _=>false
def nF:DC:=fun ds m R=>∃ p,ds=[.dat p]/\R (.dat (.bool (bV p "int" && !bV p "bool"))) m
def zI:DC:=fun ds m R=>∃ p,ds=[.dat p]/\R (.dat (.bool (lX p))) m
def zC:DC:=fun ds m R=>∃ k l p,ds=[.dat (lS k l),.dat p]/\Gd p/\R (.dat (.bool (mQ k l p))) m
def tR:DC:=fun ds m R=>∃ p,ds=[.dat p]/\Ly 40 p/\R (.dat (.bool (jN p))) m
def yC:DC:=fun ds m R=>∃ p,ds=[.dat p]/\Ly 40 p/\R (.dat (.bool (fA p))) m
def sH:DC:=fun ds m R=>∃ ts:List (Str×PyData),ds=[.dat (.tuple (ts.map fun t=>.tuple [.str t.1,t.2]))]/\ts.length<=6/\R (.dat (.list (ts.map fun t=>.str t.1))) m
def wW:DC:=fun ds m R=>∃ p,ds=[.dat p]/\Ly 40 p/\R (.dat (.bool (jR p))) m
def Ap:DC:=fun ds m R=>∃ (ts:List (Str×Bool)) (a b:Str) (k l:Bool),ds=[.dat (TH ts),.dat (.str a),.dat (.str b)]/\ts.length<=6/\(ts.map (·.1)).Nodup/\(a,k)∈ts/\(b,l)∈ts/\∀ m',R (.dat (lS k l)) m'
def yD:DC:=fun ds m R=>∃ ts a b,ds=[.dat (TH ts),.dat a,.dat b]/\nZ ts/\Ly 40 a/\Ly 40 b/\R (.dat (.bool (iX ts a b))) m
def At:DC:=fun ds m R=>∃ ts,ds=[.dat (TH ts)]/\ts.length<=6/\R (.dat (.list ((dU ts).map eD))) m
def pB:DC:=fun ds m R=>∃ ts p,ds=[.dat (TH ts),.dat p]/\nZ ts/\Ly 40 p/\∀ m',R (.dat (.bool (gE ts p))) m'
def xQ:DC:=fun ds m R=>∃ ts xs,ds=[.dat (TH ts),.dat (.tuple xs)]/\nZ ts/\Ly 40 (.tuple xs)/\∀ m',R (.dat (.bool (nQ ts xs))) m'
def uB:DC:=fun ds m R=>∃ ts xs,ds=[.dat (TH ts),.dat (.tuple xs)]/\nZ ts/\Ly 40 (.tuple xs)/\∀ m',R (.dat (.bool (wF ts xs))) m'
def wD:DC:=fun ds m R=>∃ ts p,ds=[.dat (TH ts),.dat p]/\nZ ts/\Ly 40 p/\∀ m',R (.dat (.bool (jX ts p))) m'
def vG:DC:=fun ds m R=>∃ p,ds=[.dat p]/\Ly 40 p/\∀ m',R (.dat (.bool (lI p))) m'
def vF:DC:=pB
def zO:DC:=xQ
def yO:DC:=uB
def Ad:DC:=wD
def zV:DC:=tR
def zB:DC:=wW
def zD:DC:=vG
def xV:DC:=fun ds m R=>∃ (a:Addr) (ts:List (Str×Bool)) (s:Say) (p:PyData),ds=[.cel a,.dat (fB s),.dat p]/\Nm (ts.map (·.1))/\kF ts s/\Ly 3 p/\Feeds m a/\∀ q m',Ly 10 q->Feeds m' a->Kp a m m'->R (.dat q) m'
def hZ:Nat->DC
 | 0=>fun _ _ _=>False
 | n+1=>fun ds m R=>∃ (a:Addr) (p:PyData),ds=[.cel a,.dat p]/\fM n p/\Feeds m a/\∀ q m',Ly (n+3) q->Feeds m' a->Kp a m m'->R (.dat q) m'
def tW:DC:=fun ds m R=>∃ ns:List Int,ds=[.dat (.list (ns.map .int))]/\ns.length<=63/\∀ m',R (.dat (.bool true)) m'
open PySem PySem.Spec PyProof.Rows L2 DL
-- ranks: is_whole 1,common 1,is_fraction 2,words_of 1,is_may 2,is_name 1,is_named_kind 2,names_of 1,is_things 3,kinds_of 1,are_two_names 2,ends_of 1,is_end 2,is_may_saying 3,is_gap_saying 3,is_saying 4,is_talk 5,_law_feed 1,_law_draw 1,_law_fraction 1,_law_stand 1,_law_word 2,_law_words 1,_law_names 2,_law_kinds 2,_law_things 3,_law_may 2,_law_times 2,_law_telling 3,_law_all_ends 1,_law_time 1,_law_may_saying 3,_law_gap_saying 2,_law_talk 4,_law_is_end 2,_law_is_may_saying 2,_law_is_gap_saying 3,_law_is_saying 4,_law_bent_saying 2,_law_is_name 1,_law_is_things 2,_law_is_any_talk 5,_law_spoilt 7,law 8
def cQ(i:Nat):Stmt:=PySem.Challenge.pw_whens_k15_talks_by_kind.main.body.getD i (.Pass ⟨0,0,0,0⟩)
abbrev wP:List (Str×PyData):=[("point",.int (1)),("stretch",.int (2))]
abbrev Nh:List (List Str×PyData):=[(["point","point"],.tuple (List.map PyData.str ["ahead","same","behind"])),(["point","stretch"],.tuple (List.map PyData.str ["ahead","begins","within","ends","behind"])),(["stretch","point"],.tuple (List.map PyData.str ["ahead","ended","holds","begun","behind"]))]
abbrev mP:Stmt:=cQ 1
abbrev Je:List Str:=["thing"]
abbrev lE:List Str:=["thing"]
theorem C5:FnScope Je lE (aV mP):=⟨rfl,rfl,rfl,by decide +kernel,rfl,by decide +kernel,by decide +kernel⟩
def Dd:DS:=(aI (bA (fK (cN (aA 0) "int") (Fz (cN (aA 0) "bool")))) aL)
abbrev oX:Stmt:=cQ 2
abbrev Ku:List Str:=["one","other"]
abbrev rS:List Str:=["one","other"]
theorem A2:FnScope Ku rS (aV oX):=⟨rfl,rfl,rfl,by decide +kernel,rfl,by decide +kernel,by decide +kernel⟩
def Tl:DS:=(aI (Qa 0 1 (aC (aA 1) (aC (aF gW (aA 0) (aA 1)) aH))) aL)
def Yq:DS:=(aI (bA (bL zW (aC (aA 0) aH))) aL)
def By:DS:=(aI (Av (aP (aF fL (aA 1) (aE (.int 0)))) Tl) Yq)
abbrev oN:Stmt:=cQ 3
abbrev Jj:List Str:=["thing","top","bottom"]
abbrev rY:List Str:=["thing"]
theorem E2:FnScope Jj rY (aV oN):=⟨rfl,rfl,rfl,by decide +kernel,rfl,by decide +kernel,by decide +kernel⟩
def GL:DS:=(aI (bA (fK (aF Ks (aA 2) (aE (.int 1))) (aF dA (aR 2 yX (aC (aA 1) (aC (aA 2) aH))) (aE (.int 1))))) aL)
def UA:DS:=(aI (bT (cJ (cU (aP (aR 1 nF (aC (aA 1) aH)))) (cU (aP (aR 1 nF (aC (aA 2) aH))))) (aI (bA (aE (.bool false))) aL) aL) GL)
def HG:DS:=(aI (Ao (aA 0) (gT 2 (eE (gN 1) (eE (gN 2) iN)))) UA)
def Kc:DS:=(aI (bT (cJ (cU (aP (cN (aA 0) "tuple"))) (aP (aF fL (bL cM (aC (aA 0) aH)) (aE (.int 2))))) (aI (bA (aE (.bool false))) aL) aL) HG)
abbrev qC:Stmt:=cQ 8
abbrev Pe:List Str:=["kinds"]
abbrev oV:List Str:=["kinds"]
theorem Xw:FnScope Pe oV (aV qC):=⟨rfl,rfl,rfl,by decide +kernel,rfl,by decide +kernel,by decide +kernel⟩
def Em:DS:=(aI (bA (Bm Nh (aA 0) (aE (.tuple (List.map PyData.str ["ahead","meets","overlaps","begins","within","ends","same","ended","holds","begun","lapped","met","behind"]))))) aL)
abbrev oI:Stmt:=cQ 9
abbrev Ht:List Str:=["kinds","thing","left","word"]
abbrev sY:List Str:=["kinds","thing"]
theorem Ym:FnScope Ht sY (aV oI):=⟨rfl,rfl,rfl,by decide +kernel,rfl,by decide +kernel,by decide +kernel⟩
def Ub:DS:=(aI (aY 2 (Gg (aA 2) (dH (aF bQ (Dr (aA 2) (aA 3)) (aE (.int 1)))) dP)) aL)
def yB:DS:=(aI (bT (aP (aF Dg (aA 3) (aA 2))) (aI (bA (aE (.bool false))) aL) aL) Ub)
def N8:DS:=(aI (bA (aE (.bool true))) aL)
def J9:DS:=(aI (iR (fE (aA 1)) (gN 3) yB) N8)
def Uj:DS:=(aI (aY 2 (aR 1 Ai (aC (aA 0) aH))) J9)
def yL:DS:=(aI (bT (cU (aP (cN (aA 1) "tuple"))) (aI (bA (aE (.bool false))) aL) aL) Uj)
abbrev nY:Stmt:=cQ 14
abbrev Nz:List Str:=["thing"]
abbrev nS:List Str:=["thing"]
theorem Sx:FnScope Nz nS (aV nY):=⟨rfl,rfl,rfl,by decide +kernel,rfl,by decide +kernel,by decide +kernel⟩
theorem MZ:List.Nodup (["sign"]:List Str):=by decide +kernel
def Uh:DS:=(aI (bA (bL zX (aC (eN [none] (Dc (aA 0)) (gN 0) eO (aF Fk (aA 0) (aE (.str "abcdefghijklmnopqrstuvwxyz")))) aH))) aL)
def zQ:DS:=(aI (bT (cJ (cU (aP (cN (aA 0) "str"))) (cU (aP (vE jP jP (aE (.int 1)) (bL cM (aC (aA 0) aH)) (aE (.int 8)))))) (aI (bA (aE (.bool false))) aL) aL) Uh)
abbrev qS:Stmt:=cQ 15
abbrev Is:List Str:=["thing"]
abbrev rC:List Str:=["thing"]
theorem We:FnScope Is rC (aV qS):=⟨rfl,rfl,rfl,by decide +kernel,rfl,by decide +kernel,by decide +kernel⟩
def uM:DS:=(aI (bA (fK (cN (aA 0) "tuple") (fK (aF dA (bL cM (aC (aA 0) aH)) (aE (.int 2))) (fK (aR 1 tR (aC (aF aN (aA 0) (aE (.int 0))) aH)) (aF oM (aF aN (aA 0) (aE (.int 1))) (cE (aC (aE (.str "point")) (aC (aE (.str "stretch")) aH)))))))) aL)
abbrev rR:Stmt:=cQ 16
abbrev Oa:List Str:=["thing","names"]
abbrev rT:List Str:=["thing"]
theorem Sz:FnScope Oa rT (aV rR):=⟨rfl,rfl,rfl,by decide +kernel,rfl,by decide +kernel,by decide +kernel⟩
theorem NE:List.Nodup (["part"]:List Str):=by decide +kernel
def Wf:DS:=(aI (bA (aF dA (aA 1) (Nf (aA 1)))) aL)
def Zw:DS:=(aI (aY 1 (aR 1 sH (aC (aA 0) aH))) Wf)
def C3:DS:=(aI (bT (cU (aP (bL zX (aC (eN [none] (fE (aA 0)) (gN 0) eO (aR 1 yC (aC (aA 0) aH))) aH)))) (aI (bA (aE (.bool false))) aL) aL) Zw)
def yH:DS:=(aI (bT (cJ (cU (aP (cN (aA 0) "tuple"))) (cU (aP (vE jP jP (aE (.int 1)) (bL cM (aC (aA 0) aH)) (aE (.int 6)))))) (aI (bA (aE (.bool false))) aL) aL) C3)
abbrev nD:Stmt:=cQ 17
abbrev Kq:List Str:=["things"]
abbrev lR:List Str:=["things"]
theorem O0:FnScope Kq lR (aV nD):=⟨rfl,rfl,rfl,by decide +kernel,rfl,by decide +kernel,by decide +kernel⟩
theorem Wa:List.Nodup (["name","kind"]:List Str):=by decide +kernel
def Fa:DS:=(aI (bA (eN [none,none] (fE (aA 0)) (gT 2 (eE (gN 0) (eE (gN 1) iN))) eO (aA 0))) aL)
abbrev oJ:Stmt:=cQ 18
abbrev Rq:List Str:=["things","a","b","kinds"]
abbrev rD:List Str:=["things","a","b"]
theorem K7:FnScope Rq rD (aV oJ):=⟨rfl,rfl,rfl,by decide +kernel,rfl,by decide +kernel,by decide +kernel⟩
def Zx:DS:=(aI (bA (cE (aC (vV (aA 3) (aA 1)) (aC (vV (aA 3) (aA 2)) aH)))) aL)
def Dj:DS:=(aI (aY 3 (Et (aA 0))) Zx)
abbrev pQ:Stmt:=cQ 19
abbrev Qo:List Str:=["things","a","b","names"]
abbrev nU:List Str:=["things","a","b"]
theorem Yz:FnScope Qo nU (aV pQ):=⟨rfl,rfl,rfl,by decide +kernel,rfl,by decide +kernel,by decide +kernel⟩
def Yk:DS:=(aI (bA (fK (aF oM (aA 1) (aA 3)) (fK (aF oM (aA 2) (aA 3)) (aF fL (aA 1) (aA 2))))) aL)
def Cf:DS:=(aI (aY 3 (aR 1 sH (aC (aA 0) aH))) Yk)
abbrev tE:Stmt:=cQ 20
abbrev Lx:List Str:=["things"]
abbrev qG:List Str:=["things"]
theorem Xn:FnScope Lx qG (aV tE):=⟨rfl,rfl,rfl,by decide +kernel,rfl,by decide +kernel,by decide +kernel⟩
theorem Hs:List.Nodup (["name","kind","number"]:List Str):=by decide +kernel
def Bo:DS:=(aI (bA (Ci [none,none,none] (fE (aA 0)) (gT 2 (eE (gN 0) (eE (gN 1) iN))) eO (fN (Aq wP (aA 1))) (gN 2) eO (cE (aC (aA 0) (aC (aA 2) aH))))) aL)
abbrev sD:Stmt:=cQ 21
abbrev Mb:List Str:=["things","thing"]
abbrev sP:List Str:=["things","thing"]
theorem Zp:FnScope Mb sP (aV sD):=⟨rfl,rfl,rfl,by decide +kernel,rfl,by decide +kernel,by decide +kernel⟩
def D5:DS:=(aI (bA (fK (aR 1 nF (aC (aF aN (aA 1) (aE (.int 1))) aH)) (aF oM (aA 1) (aR 1 At (aC (aA 0) aH))))) aL)
def tK:DS:=(aI (bT (cJ (cU (aP (cN (aA 1) "tuple"))) (aP (aF fL (bL cM (aC (aA 1) aH)) (aE (.int 2))))) (aI (bA (aE (.bool false))) aL) aL) D5)
abbrev oH:Stmt:=cQ 24
abbrev Hn:List Str:=["things","thing"]
abbrev sJ:List Str:=["things","thing"]
theorem Wm:FnScope Hn sJ (aV oH):=⟨rfl,rfl,rfl,by decide +kernel,rfl,by decide +kernel,by decide +kernel⟩
def F9:DS:=(aI (bA (fK (aR 2 zC (aC (aR 3 Ap (aC (aA 0) (aC (aF aN (aA 1) (aE (.int 1))) (aC (aF aN (aA 1) (aE (.int 2))) aH)))) (aC (aF aN (aA 1) (aE (.int 3))) aH))) (aF fL (aF aN (aA 1) (aE (.int 3))) (cE aH)))) aL)
def yA:DS:=(aI (bT (cJ (aP (aF fL (bL cM (aC (aA 1) aH)) (aE (.int 4)))) (cU (aP (aR 3 yD (aC (aA 0) (aC (aF aN (aA 1) (aE (.int 1))) (aC (aF aN (aA 1) (aE (.int 2))) aH))))))) (aI (bA (aE (.bool false))) aL) aL) F9)
abbrev pW:Stmt:=cQ 25
abbrev Hd:List Str:=["things","thing","word","x","y","number","strict"]
abbrev sN:List Str:=["things","thing"]
theorem D1:FnScope Hd sN (aV pW):=⟨rfl,rfl,rfl,by decide +kernel,rfl,by decide +kernel,by decide +kernel⟩
def Yc:DS:=(aI (bA (fK (aR 1 zI (aC (aA 5) aH)) (cN (aA 6) "bool"))) aL)
def Xa:DS:=(aI (bT (cJ (cU (aP (aR 2 pB (aC (aA 0) (aC (aA 3) aH))))) (cJ (cU (aP (aR 2 pB (aC (aA 0) (aC (aA 4) aH))))) (aP (aF dA (aA 3) (aA 4))))) (aI (bA (aE (.bool false))) aL) aL) Yc)
def L8:DS:=(aI (Ao (aA 1) (gT 5 (eE (gN 2) (eE (gN 3) (eE (gN 4) (eE (gN 5) (eE (gN 6) iN))))))) Xa)
def xU:DS:=(aI (bT (aP (aF fL (bL cM (aC (aA 1) aH)) (aE (.int 5)))) (aI (bA (aE (.bool false))) aL) aL) L8)
abbrev oB:Stmt:=cQ 26
abbrev Oc:List Str:=["things","thing"]
abbrev pU:List Str:=["things","thing"]
theorem J0:FnScope Oc pU (aV oB):=⟨rfl,rfl,rfl,by decide +kernel,rfl,by decide +kernel,by decide +kernel⟩
def QP:DS:=(aI (bA (fK (aF dA (aF aN (aA 1) (aE (.int 0))) (aE (.str "gap"))) (aR 2 uB (aC (aA 0) (aC (aA 1) aH))))) aL)
def S2:DS:=(aI (bT (aP (aF dA (aF aN (aA 1) (aE (.int 0))) (aE (.str "may")))) (aI (bA (aR 2 xQ (aC (aA 0) (aC (aA 1) aH)))) aL) aL) QP)
def Lk:DS:=(aI (bT (cJ (cU (aP (cN (aA 1) "tuple"))) (aP (aF dA (aA 1) (cE aH)))) (aI (bA (aE (.bool false))) aL) aL) S2)
abbrev pC:Stmt:=cQ 27
abbrev Nt:List Str:=["thing","things","sayings"]
abbrev nP:List Str:=["thing"]
theorem Wq:FnScope Nt nP (aV pC):=⟨rfl,rfl,rfl,by decide +kernel,rfl,by decide +kernel,by decide +kernel⟩
theorem IE:List.Nodup (["saying","things"]:List Str):=by decide +kernel
def Yd:DS:=(aI (bA (bL zX (aC (eN [none,some 1] (fE (aA 2)) (gN 0) eO (aR 2 wD (aC (aA 1) (aC (aA 0) aH)))) aH))) aL)
def WK:DS:=(aI (bT (cJ (cU (aP (aR 1 wW (aC (aA 1) aH)))) (cJ (cU (aP (cN (aA 2) "tuple"))) (aP (aF fJ (bL cM (aC (aA 2) aH)) (aE (.int 24)))))) (aI (bA (aE (.bool false))) aL) aL) Yd)
def GG:DS:=(aI (Ao (aA 0) (gT 2 (eE (gN 1) (eE (gN 2) iN)))) WK)
def Ix:DS:=(aI (bT (cJ (cU (aP (cN (aA 0) "tuple"))) (aP (aF fL (bL cM (aC (aA 0) aH)) (aE (.int 2))))) (aI (bA (aE (.bool false))) aL) aL) GG)
abbrev pG:Stmt:=cQ 29
abbrev Gw:List Str:=["_law_script","_law_k","_law_cell"]
abbrev rQ:List Str:=["_law_script","_law_k"]
theorem Xu:FnScope Gw rQ (aV pG):=⟨rfl,rfl,rfl,by decide +kernel,rfl,by decide +kernel,by decide +kernel⟩
def Of:DS:=(aI (bA (nK (aC (bL Hj (aC (aE (.int 0)) (aC (aF gP (aA 2) (aF Ld (aE (.int 10)) (aE (.int 18)))) aH))) (aC (aA 2) (aC (aA 1) (aC (aE (.int 0)) aH)))))) aL)
def Pc:DS:=(aI (aY 2 (aF aN (aA 0) (aF gW (aA 1) (bL cM (aC (aA 0) aH))))) Of)
def yR:DS:=(aI (bT (aP (aF dA (bL cM (aC (aA 0) aH)) (aE (.int 0)))) (aI (bA (nK (aC (aE (.int 0)) (aC (aE (.int 0)) (aC (aA 1) (aC (aE (.int 0)) aH)))))) aL) aL) Pc)
abbrev fF:Stmt:=cQ 30
abbrev Md:List Str:=["_law_feed_here","_law_many","_law_figure","_law_number"]
abbrev dW:List Str:=["_law_feed_here","_law_many"]
theorem C1:FnScope Md dW (aV fF):=⟨rfl,rfl,rfl,by decide +kernel,rfl,by decide +kernel,by decide +kernel⟩
def A3:DS:=(aI (bA (aA 2)) aL)
def Zz:DS:=(aI (Bs (aA 0) (aE (.int 0)) (aF zF (aF aN (aA 0) (aE (.int 0))) (aA 1))) A3)
def C7:DS:=(aI (aY 2 (aF gW (aF aN (aA 0) (aE (.int 0))) (aA 1))) Zz)
def C6:DS:=(aI (bA (aF gW (aA 3) (aA 1))) aL)
def Uu:DS:=(aI (aY 3 (aF gW (aF bQ (aF bQ (aF fV (aA 3) (aA 3)) (aF fV (aE (.int 69621)) (aA 3))) (aF aN (aA 0) (aE (.int 3)))) (aE (.int 2147483587)))) C6)
def Ux:DS:=(aI (aY 3 (aF gW (aF bQ (aF bQ (aF fV (aA 3) (aA 3)) (aF fV (aE (.int 48271)) (aA 3))) (aF aN (aA 0) (aE (.int 2)))) (aE (.int 2147483629)))) Uu)
def C2:DS:=(aI (aY 3 (aF gW (aF bQ (aF bQ (aF aN (aA 0) (aE (.int 1))) (aF fV (aE (.int 7919)) (aF aN (aA 0) (aE (.int 2))))) (aF fV (aE (.int 104729)) (aF aN (aA 0) (aE (.int 3))))) (aE (.int 2147483629)))) Ux)
def Yy:DS:=(aI (bT (aP (aF fJ (aF aN (aA 0) (aE (.int 0))) (aE (.int 0)))) C7 aL) C2)
def Fq:DS:=(aI (Bs (aA 0) (aE (.int 3)) (aF bQ (aF aN (aA 0) (aE (.int 3))) (aE (.int 1)))) Yy)
abbrev lG:Stmt:=cQ 31
abbrev Li:List Str:=["_law_top","_law_bottom","_law_one","_law_other","_law_rest"]
abbrev jV:List Str:=["_law_top","_law_bottom"]
theorem K0:FnScope Li jV (aV lG):=⟨rfl,rfl,rfl,by decide +kernel,rfl,by decide +kernel,by decide +kernel⟩
def Ta:DS:=(aI (aY 3 (aA 4)) aL)
def G6:DS:=(aI (aY 2 (aA 3)) Ta)
def B9:DS:=(aI (aY 4 (aF gW (aA 2) (aA 3))) G6)
def Xp:DS:=(aI (bA (cE (aC (aF zF (aA 0) (aA 2)) (aC (aF zF (aA 1) (aA 2)) aH)))) aL)
def Ty:DS:=(aI (Av (aP (aF fJ (aA 3) (aE (.int 0)))) B9) Xp)
def E7:DS:=(aI (aY 3 (bL zW (aC (aA 0) aH))) Ty)
def Cn:DS:=(aI (aY 2 (aA 1)) E7)
abbrev nR:Stmt:=cQ 32
abbrev Lz:List Str:=["_law_one","_law_other","_law_apart"]
abbrev rB:List Str:=["_law_one","_law_other"]
theorem Uo:FnScope Lz rB (aV nR):=⟨rfl,rfl,rfl,by decide +kernel,rfl,by decide +kernel,by decide +kernel⟩
def Wd:DS:=(aI (bA (aF gP (bL Af (aC (aF fJ (aA 2) (aE (.int 0))) aH)) (bL Af (aC (aF qX (aA 2) (aE (.int 0))) aH)))) aL)
def Bg:DS:=(aI (aY 2 (aF gP (aF fV (aF aN (aA 0) (aE (.int 0))) (aF aN (aA 1) (aE (.int 1)))) (aF fV (aF aN (aA 1) (aE (.int 0))) (aF aN (aA 0) (aE (.int 1)))))) Wd)
abbrev rO:Stmt:=cQ 33
abbrev Ox:List Str:=["_law_one","_law_other","_law_both","_law_a","_law_b","_law_rows"]
abbrev qM:List Str:=["_law_one","_law_other"]
theorem Xq:FnScope Ox qM (aV rO):=⟨rfl,rfl,rfl,by decide +kernel,rfl,by decide +kernel,by decide +kernel⟩
def Sh:DS:=(aI (bA (aF aN (aF aN (aA 5) (aF bQ (aE (.int 1)) (aR 2 jU (aC (aF aN (aA 3) (aE (.int 0))) (aC (aF aN (aA 4) (aE (.int 0))) aH))))) (aF bQ (aE (.int 1)) (aR 2 jU (aC (aF aN (aA 3) (aE (.int 1))) (aC (aF aN (aA 4) (aE (.int 1))) aH)))))) aL)
def Ln:DS:=(aI (aY 5 (cE (aC (cE (aC (aE (.str "overlaps")) (aC (aE (.str "ended")) (aC (aE (.str "holds")) aH)))) (aC (cE (aC (aE (.str "begins")) (aC (aE (.str "same")) (aC (aE (.str "begun")) aH)))) (aC (cE (aC (aE (.str "within")) (aC (aE (.str "ends")) (aC (aE (.str "lapped")) aH)))) aH))))) Sh)
def Nk:DS:=(aI (bT (mJ (aP (aA 2)) (aP (aF dA (aR 2 jU (aC (aF aN (aA 3) (aE (.int 0))) (aC (aF aN (aA 4) (aE (.int 1))) aH))) (aE (.int 0))))) (aI (bA (aE (.str "met"))) aL) aL) Ln)
def G0:DS:=(aI (bT (mJ (aP (aA 2)) (aP (aF dA (aR 2 jU (aC (aF aN (aA 3) (aE (.int 1))) (aC (aF aN (aA 4) (aE (.int 0))) aH))) (aE (.int 0))))) (aI (bA (aE (.str "meets"))) aL) aL) Nk)
def Xb:DS:=(aI (bT (aP (aF fJ (aR 2 jU (aC (aF aN (aA 3) (aE (.int 0))) (aC (aF aN (aA 4) (aE (.int 1))) aH))) (aE (.int 0)))) (aI (bA (aE (.str "behind"))) aL) aL) G0)
def Qs:DS:=(aI (bT (aP (aF qX (aR 2 jU (aC (aF aN (aA 3) (aE (.int 1))) (aC (aF aN (aA 4) (aE (.int 0))) aH))) (aE (.int 0)))) (aI (bA (aE (.str "ahead"))) aL) aL) Xb)
def JI:DS:=(aI (aY 4 (mW (aP (cN (aF aN (aA 1) (aE (.int 0))) "tuple")) (aA 1) (cE (aC (aA 1) (aC (aA 1) aH))))) Qs)
def VN:DS:=(aI (aY 3 (mW (aP (cN (aF aN (aA 0) (aE (.int 0))) "tuple")) (aA 0) (cE (aC (aA 0) (aC (aA 0) aH))))) JI)
def Rf:DS:=(aI (aY 2 (fK (cN (aF aN (aA 0) (aE (.int 0))) "tuple") (cN (aF aN (aA 1) (aE (.int 0))) "tuple"))) VN)
abbrev lV:Stmt:=cQ 34
abbrev Mn:List Str:=["_law_kinds_here","_law_first"]
abbrev jI:List Str:=["_law_kinds_here"]
theorem Vs:FnScope Mn jI (aV lV):=⟨rfl,rfl,rfl,by decide +kernel,rfl,by decide +kernel,by decide +kernel⟩
def Tb:DS:=(aI (bA (aF bQ (aA 1) (dD (aC (aE (.str "ended")) (aC (aE (.str "holds")) (aC (aE (.str "begun")) (aC (aE (.str "lapped")) (aC (aE (.str "met")) (aC (aE (.str "behind")) aH))))))))) aL)
def Vu:DS:=(aI (aY 1 (dD (aC (aE (.str "ahead")) (aC (aE (.str "meets")) (aC (aE (.str "overlaps")) (aC (aE (.str "begins")) (aC (aE (.str "within")) (aC (aE (.str "ends")) (aC (aE (.str "same")) aH))))))))) Tb)
def Yw:DS:=(aI (bA (dD (aC (aE (.str "ahead")) (aC (aE (.str "ended")) (aC (aE (.str "holds")) (aC (aE (.str "begun")) (aC (aE (.str "behind")) aH))))))) aL)
def Ry:DS:=(aI (bT (aP (aF dA (aF aN (aA 0) (aE (.int 0))) (aE (.str "point")))) (aI (bA (dD (aC (aE (.str "ahead")) (aC (aE (.str "begins")) (aC (aE (.str "within")) (aC (aE (.str "ends")) (aC (aE (.str "behind")) aH))))))) aL) aL) Yw)
def Ss:DS:=(aI (bT (aP (aF dA (aA 0) (cE (aC (aE (.str "point")) (aC (aE (.str "point")) aH))))) (aI (bA (dD (aC (aE (.str "ahead")) (aC (aE (.str "same")) (aC (aE (.str "behind")) aH))))) aL) aL) Ry)
def Fj:DS:=(aI (bT (aP (aF dA (aA 0) (cE (aC (aE (.str "stretch")) (aC (aE (.str "stretch")) aH))))) Vu aL) Ss)
abbrev qT:Stmt:=cQ 35
abbrev Kj:List Str:=["_law_feed_here","_law_many","_law_menu","_law_first","_law_step","_law_names_here","_law_letters","_law_base","_law_at"]
abbrev oP:List Str:=["_law_feed_here","_law_many"]
theorem Ud:FnScope Kj oP (aV qT):=⟨rfl,rfl,rfl,by decide +kernel,rfl,by decide +kernel,by decide +kernel⟩
theorem KU:List.Nodup (["_law_k","_law_menu","_law_first","_law_step"]:List Str):=by decide +kernel
theorem Y2:List.Nodup (["_law_k","_law_feed_here","_law_letters"]:List Str):=by decide +kernel
theorem g9:List.Nodup (["_law_k","_law_first","_law_letters","_law_base","_law_at"]:List Str):=by decide +kernel
def F3:DS:=(aI (aY 5 (eN [none,some 3,some 6,some 7,some 8] (fN (aA 1)) (gN 0) eO (aF bQ (aF bQ (Bn (aA 3) dP (dH (aA 4))) (aF aN (aA 2) (aF gW (aF bQ (aA 1) (aF fV (aE (.int 3)) (aA 0))) (aE (.int 26))))) (Bn (aA 3) (dH (aA 4)) dP)))) aL)
def Ww:DS:=(aI (aY 8 (aR 2 bS (aC (aA 0) (aC (aF bQ (bL cM (aC (aA 7) aH)) (aE (.int 1))) aH)))) F3)
def Td:DS:=(aI (aY 7 (Me "" (eN [none,some 0,some 6] (fN (aR 2 bS (aC (aA 0) (aC (aE (.int 8)) aH)))) (gN 0) eO (aF aN (aA 2) (aR 2 bS (aC (aA 1) (aC (aE (.int 26)) aH))))))) Ww)
def F1:DS:=(aI (aY 6 (aE (.str "abcdefghijklmnopqrstuvwxyz"))) Td)
def Gq:DS:=(aI (bA (bL Jy (aC (aA 5) aH))) aL)
def Tk:DS:=(aI (bT (aP (aF dA (aR 2 bS (aC (aA 0) (aC (aE (.int 3)) aH))) (aE (.int 0)))) F1 aL) Gq)
def Zd:DS:=(aI (aY 5 (eN [none,some 2,some 3,some 4] (fN (aA 1)) (gN 0) eO (aF aN (aA 1) (aF gW (aF bQ (aA 2) (aF fV (aA 3) (aA 0))) (aE (.int 12)))))) Tk)
def Sm:DS:=(aI (aY 4 (aF aN (dD (aC (aE (.int 1)) (aC (aE (.int 5)) (aC (aE (.int 7)) (aC (aE (.int 11)) aH))))) (aR 2 bS (aC (aA 0) (aC (aE (.int 4)) aH))))) Zd)
def Vz:DS:=(aI (aY 3 (aR 2 bS (aC (aA 0) (aC (aE (.int 12)) aH)))) Sm)
def Ea:DS:=(aI (aY 2 (dD (aC (aE (.str "a")) (aC (aE (.str "ab")) (aC (aE (.str "abc")) (aC (aE (.str "b")) (aC (aE (.str "point")) (aC (aE (.str "may")) (aC (aE (.str "gap")) (aC (aE (.str "begin")) (aC (aE (.str "strict")) (aC (aE (.str "o")) (aC (aE (.str "stretch")) (aC (aE (.str "zzzzzzzz")) aH)))))))))))))) Vz)
abbrev oZ:Stmt:=cQ 36
abbrev He:List Str:=["_law_feed_here","_law_many","_law_some"]
abbrev rH:List Str:=["_law_feed_here","_law_many"]
theorem K3:FnScope He rH (aV oZ):=⟨rfl,rfl,rfl,by decide +kernel,rfl,by decide +kernel,by decide +kernel⟩
theorem OM:List.Nodup (["_law_k","_law_feed_here"]:List Str):=by decide +kernel
theorem S4:List.Nodup (["_law_k"]:List Str):=by decide +kernel
def Lg:DS:=(aI (bA (bL kC (aC (aA 2) aH))) aL)
def C8:DS:=(aI (bT (aP (aF dA (aR 2 bS (aC (aA 0) (aC (aE (.int 3)) aH))) (aE (.int 0)))) (aI (aY 2 (eN [none] (fN (aA 1)) (gN 0) eO (aE (.str "stretch")))) aL) aL) Lg)
def Gc:DS:=(aI (aY 2 (eN [none,some 0] (fN (aA 1)) (gN 0) eO (aF aN (dD (aC (aE (.str "point")) (aC (aE (.str "stretch")) aH))) (aR 2 bS (aC (aA 1) (aC (aE (.int 2)) aH)))))) C8)
abbrev pE:Stmt:=cQ 37
abbrev Kx:List Str:=["_law_feed_here","_law_most","_law_names_here","_law_kinds_here"]
abbrev rW:List Str:=["_law_feed_here","_law_most"]
theorem Wj:FnScope Kx rW (aV pE):=⟨rfl,rfl,rfl,by decide +kernel,rfl,by decide +kernel,by decide +kernel⟩
theorem BM:List.Nodup (["_law_k","_law_names_here","_law_kinds_here"]:List Str):=by decide +kernel
def Zu:DS:=(aI (bA (bL kC (aC (eN [none,some 2,some 3] (fN (bL cM (aC (aA 2) aH))) (gN 0) eO (cE (aC (aF aN (aA 1) (aA 0)) (aC (aF aN (aA 2) (aA 0)) aH)))) aH))) aL)
def Wy:DS:=(aI (aY 3 (aR 2 zG (aC (aA 0) (aC (bL cM (aC (aA 2) aH)) aH)))) Zu)
def Df:DS:=(aI (aY 2 (aR 2 xY (aC (aA 0) (aC (aF bQ (aE (.int 1)) (aR 2 bS (aC (aA 0) (aC (aA 1) aH)))) aH)))) Wy)
abbrev rE:Stmt:=cQ 38
abbrev Ho:List Str:=["_law_feed_here","_law_kinds_here","_law_known","_law_piece","_law_found","_law_way"]
abbrev qW:List Str:=["_law_feed_here","_law_kinds_here"]
theorem Vi:FnScope Ho qW (aV rE):=⟨rfl,rfl,rfl,by decide +kernel,rfl,by decide +kernel,by decide +kernel⟩
theorem j6:List.Nodup (["_law_word_here","_law_feed_here","_law_piece"]:List Str):=by decide +kernel
def Ii:DS:=(aI (bA (bL kC (aC (aA 4) aH))) aL)
def Vb:DS:=(aI (bT (aP (aF dA (aA 5) (aE (.int 1)))) (aI (aY 4 (dD aH)) aL) aL) Ii)
def L6:DS:=(aI (bT (aP (aF dA (aA 5) (aE (.int 0)))) (aI (aY 4 (dD (aC (aF aN (aA 2) (aR 2 bS (aC (aA 0) (aC (bL cM (aC (aA 2) aH)) aH)))) aH))) aL) aL) Vb)
def A8:DS:=(aI (aY 5 (aR 2 bS (aC (aA 0) (aC (aE (.int 8)) aH)))) L6)
def A0:DS:=(aI (aY 4 (eN [none,some 0,some 3] (fE (aA 2)) (gN 0) (aP (aF dA (aR 2 bS (aC (aA 1) (aC (aA 2) aH))) (aE (.int 0)))) (aA 0))) A8)
def P0:DS:=(aI (aY 3 (aF bQ (aE (.int 1)) (aR 2 bS (aC (aA 0) (aC (aE (.int 5)) aH))))) A0)
def Ga:DS:=(aI (aY 2 (aR 1 kA (aC (aA 1) aH))) P0)
abbrev pK:Stmt:=cQ 39
abbrev Pg:List Str:=["_law_feed_here","_law_kind","_law_base","_law_many","_law_bottom","_law_first","_law_last"]
abbrev oY:List Str:=["_law_feed_here","_law_kind","_law_base","_law_many","_law_bottom"]
theorem G5:FnScope Pg oY (aV pK):=⟨rfl,rfl,rfl,by decide +kernel,rfl,by decide +kernel,by decide +kernel⟩
def N4:DS:=(aI (bA (cE (aC (aR 2 hX (aC (aF bQ (aA 2) (aA 5)) (aC (aA 4) aH))) (aC (aR 2 hX (aC (aF bQ (aA 2) (aA 6)) (aC (aA 4) aH))) aH)))) aL)
def Xe:DS:=(aI (aY 6 (aF bQ (aF bQ (aA 5) (aE (.int 1))) (aR 2 bS (aC (aA 0) (aC (aF gP (aF gP (aA 3) (aE (.int 1))) (aA 5)) aH))))) N4)
def A1:DS:=(aI (aY 5 (aR 2 bS (aC (aA 0) (aC (aF gP (aA 3) (aE (.int 1))) aH)))) Xe)
def zP:DS:=(aI (bT (aP (aF dA (aA 1) (aE (.str "point")))) (aI (bA (aR 2 hX (aC (aF bQ (aA 2) (aR 2 bS (aC (aA 0) (aC (aA 3) aH)))) (aC (aA 4) aH)))) aL) aL) A1)
abbrev pP:Stmt:=cQ 40
abbrev Ja:List Str:=["_law_feed_here","_law_things_here","_law_many","_law_bottom","_law_base"]
abbrev qO:List Str:=["_law_feed_here","_law_things_here"]
theorem Wl:FnScope Ja qO (aV pP):=⟨rfl,rfl,rfl,by decide +kernel,rfl,by decide +kernel,by decide +kernel⟩
theorem M7:List.Nodup (["_law_name","_law_kind","_law_feed_here","_law_many","_law_bottom","_law_base"]:List Str):=by decide +kernel
def To:DS:=(aI (bA (bL kC (aC (eN [none,none,some 0,some 2,some 3,some 4] (fE (aA 1)) (gT 2 (eE (gN 0) (eE (gN 1) iN))) eO (aR 5 tT (aC (aA 2) (aC (aA 1) (aC (aA 5) (aC (aA 3) (aC (aA 4) aH))))))) aH))) aL)
def Uv:DS:=(aI (aY 4 (aF gP (aF aN (dD (aC (aE (.int 0)) (aC (aE (.int 0)) (aC (pT (aE (.int 5))) (aC (aE (.int 12)) (aC (aE (.int 900000)) aH)))))) (aR 2 bS (aC (aA 0) (aC (aE (.int 5)) aH)))) (aR 2 bS (aC (aA 0) (aC (aE (.int 3)) aH))))) To)
def Ur:DS:=(aI (aY 3 (aF aN (dD (aC (aE (.int 1)) (aC (aE (.int 1)) (aC (aE (.int 2)) (aC (aE (.int 3)) (aC (aE (.int 7)) (aC (aE (.int 999983)) aH))))))) (aR 2 bS (aC (aA 0) (aC (aE (.int 6)) aH))))) Uv)
def Co:DS:=(aI (aY 2 (aF bQ (aE (.int 2)) (aR 2 bS (aC (aA 0) (aC (aE (.int 8)) aH))))) Ur)
abbrev kZ:Stmt:=cQ 41
abbrev Oe:List Str:=["_law_things_here","_law_found","_law_name","_law_kind"]
abbrev jS:List Str:=["_law_things_here"]
theorem M0:FnScope Oe jS (aV kZ):=⟨rfl,rfl,rfl,by decide +kernel,rfl,by decide +kernel,by decide +kernel⟩
def Iz:DS:=(aI (bT (aP (aF dA (aA 3) (aE (.str "stretch")))) (aI (lW (kY (aA 1) (cE (aC (aA 2) (aC (aE (.int 1)) aH))))) aL) aL) aL)
def yJ:DS:=(aI (lW (kY (aA 1) (cE (aC (aA 2) (aC (aE (.int 0)) aH))))) Iz)
def Px:DS:=(aI (bA (aA 1)) aL)
def F8:DS:=(aI (iR (fE (aA 0)) (gT 2 (eE (gN 2) (eE (gN 3) iN))) yJ) Px)
def Es:DS:=(aI (aY 1 (nK aH)) F8)
abbrev pR:Stmt:=cQ 42
abbrev Kk:List Str:=["_law_things_here","_law_telling_here","_law_end","_law_k"]
abbrev pO:List Str:=["_law_things_here","_law_telling_here","_law_end"]
theorem K5:FnScope Kk pO (aV pR):=⟨rfl,rfl,rfl,by decide +kernel,rfl,by decide +kernel,by decide +kernel⟩
def Kr:DS:=(aI (bT (aP (aF dA (aF aN (aF aN (aA 0) (aA 3)) (aE (.int 0))) (aF aN (aA 2) (aE (.int 0))))) (aI (bA (mW (aP (aF dA (aF aN (aF aN (aA 0) (aA 3)) (aE (.int 1))) (aE (.str "point")))) (aF aN (aA 1) (aA 3)) (aF aN (aF aN (aA 1) (aA 3)) (aF aN (aA 2) (aE (.int 1)))))) aL) aL) aL)
def VL:DS:=(aI (bA (aE .none)) aL)
def Di:DS:=(aI (iR (fN (bL cM (aC (aA 0) aH))) (gN 3) Kr) VL)
abbrev rG:Stmt:=cQ 43
abbrev Hf:List Str:=["_law_feed_here","_law_things_here","_law_telling_here","_law_k","_law_j","_law_kinds_here","_law_there","_law_words_here"]
abbrev rX:List Str:=["_law_feed_here","_law_things_here","_law_telling_here"]
theorem Wr:FnScope Hf rX (aV rG):=⟨rfl,rfl,rfl,by decide +kernel,rfl,by decide +kernel,by decide +kernel⟩
theorem KC:List.Nodup (["_law_word_here","_law_there","_law_words_here"]:List Str):=by decide +kernel
def xZ:DS:=(aI (bA (cE (aC (aE (.str "may")) (aC (aF aN (aF aN (aA 1) (aA 3)) (aE (.int 0))) (aC (aF aN (aF aN (aA 1) (aA 4)) (aE (.int 0))) (aC (aA 7) aH)))))) aL)
def Sd:DS:=(aI (bT (cJ (aP (aF dA (aA 7) (cE aH))) (aP (aF fJ (aR 2 bS (aC (aA 0) (aC (aE (.int 4)) aH))) (aE (.int 0))))) (aI (aY 7 (bL kC (aC (eN [none,some 6,some 7] (fE (aR 1 kA (aC (aA 5) aH))) (gN 0) (cJ (aP (aF tL (aA 0) (aA 2))) (aP (aF dA (aA 0) (aA 1)))) (aA 0)) aH))) aL) aL) xZ)
def Vv:DS:=(aI (aY 7 (aR 2 yY (aC (aA 0) (aC (aA 5) aH)))) Sd)
def O2:DS:=(aI (aY 6 (aR 2 yZ (aC (aF aN (aA 2) (aA 3)) (aC (aF aN (aA 2) (aA 4)) aH)))) Vv)
def Wo:DS:=(aI (aY 5 (cE (aC (aF aN (aF aN (aA 1) (aA 3)) (aE (.int 1))) (aC (aF aN (aF aN (aA 1) (aA 4)) (aE (.int 1))) aH)))) O2)
def Rz:DS:=(aI (aY 4 (aF gW (aF bQ (aF bQ (aA 3) (aE (.int 1))) (aR 2 bS (aC (aA 0) (aC (aF gP (bL cM (aC (aA 1) aH)) (aE (.int 1))) aH)))) (bL cM (aC (aA 1) aH)))) Wo)
def Ew:DS:=(aI (aY 3 (aR 2 bS (aC (aA 0) (aC (bL cM (aC (aA 1) aH)) aH)))) Rz)
abbrev pJ:Stmt:=cQ 44
abbrev Oh:List Str:=["_law_feed_here","_law_things_here","_law_telling_here","_law_ends","_law_k","_law_x","_law_y","_law_one","_law_other","_law_top","_law_bottom","_law_way","_law_number"]
abbrev oT:List Str:=["_law_feed_here","_law_things_here","_law_telling_here"]
theorem E3:FnScope Oh oT (aV pJ):=⟨rfl,rfl,rfl,by decide +kernel,rfl,by decide +kernel,by decide +kernel⟩
def B3:DS:=(aI (aY 12 (aR 2 hX (aC (aA 9) (aC (aF aN (dD (aC (aE (.int 1)) (aC (aE (.int 2)) (aC (aE (.int 3)) (aC (aE (.int 999998)) aH))))) (aR 2 bS (aC (aA 0) (aC (aE (.int 4)) aH)))) aH)))) aL)
def Ps:DS:=(aI (aY 9 (aF aN (dD (aC (aE (.int 0)) (aC (aE (.int 1)) (aC (pT (aE (.int 7))) (aC (aE (.int 999999)) (aC (aE (.int 5)) aH)))))) (aR 2 bS (aC (aA 0) (aC (aE (.int 5)) aH))))) B3)
def Eg:DS:=(aI (bA (cE (aC (aE (.str "gap")) (aC (aA 5) (aC (aA 6) (aC (aA 12) (aC (aF dA (aR 2 bS (aC (aA 0) (aC (aE (.int 2)) aH))) (aE (.int 1))) aH))))))) aL)
def UY:DS:=(aI (bT (cJ (aP (aF dA (aA 11) (aE (.int 2)))) (cJ (aP (aF fJ (bL zW (aC (aF aN (aA 12) (aE (.int 0))) aH)) (aE (.int 999999)))) (aP (aF fJ (aF aN (aA 12) (aE (.int 1))) (aE (.int 999999)))))) Ps aL) Eg)
def Qu:DS:=(aI (aY 12 (aR 2 hX (aC (aA 9) (aC (aA 10) aH)))) UY)
def M3:DS:=(aI (bT (aP (aF qX (aA 11) (aE (.int 2)))) (aI (aY 9 (aF bQ (aA 9) (aF aN (dD (aC (aE (.int 0)) (aC (aE (.int 1)) (aC (pT (aE (.int 1))) aH)))) (aR 2 bS (aC (aA 0) (aC (aE (.int 3)) aH)))))) aL) aL) Qu)
def Xf:DS:=(aI (aY 11 (aR 2 bS (aC (aA 0) (aC (aE (.int 5)) aH)))) M3)
def Vk:DS:=(aI (aY 10 (aF fV (aF aN (aA 7) (aE (.int 1))) (aF aN (aA 8) (aE (.int 1))))) Xf)
def B6:DS:=(aI (aY 9 (aF gP (aF fV (aF aN (aA 7) (aE (.int 0))) (aF aN (aA 8) (aE (.int 1)))) (aF fV (aF aN (aA 8) (aE (.int 0))) (aF aN (aA 7) (aE (.int 1)))))) Vk)
def RQ:DS:=(aI (aY 8 (aR 3 tD (aC (aA 1) (aC (aA 2) (aC (aA 6) aH))))) B6)
def CI:DS:=(aI (aY 7 (aR 3 tD (aC (aA 1) (aC (aA 2) (aC (aA 5) aH))))) RQ)
def OV:DS:=(aI (aY 6 (aF aN (aA 3) (aF gW (aF bQ (aF bQ (aA 4) (aE (.int 1))) (aR 2 bS (aC (aA 0) (aC (aF gP (bL cM (aC (aA 3) aH)) (aE (.int 1))) aH)))) (bL cM (aC (aA 3) aH))))) CI)
def DW:DS:=(aI (aY 5 (aF aN (aA 3) (aA 4))) OV)
def f8:DS:=(aI (aY 4 (aR 2 bS (aC (aA 0) (aC (bL cM (aC (aA 3) aH)) aH)))) DW)
def Pt:DS:=(aI (aY 3 (aR 1 lH (aC (aA 1) aH))) f8)
abbrev nX:Stmt:=cQ 45
abbrev Lq:List Str:=["_law_feed_here","_law_things_here","_law_telling_here","_law_most","_law_ends","_law_sayings","_law_k"]
abbrev sF:List Str:=["_law_feed_here","_law_things_here","_law_telling_here","_law_most"]
theorem Vo:FnScope Lq sF (aV nX):=⟨rfl,rfl,rfl,by decide +kernel,rfl,by decide +kernel,by decide +kernel⟩
def E9:DS:=(aI (bT (mJ (aP (aF fJ (bL cM (aC (aA 1) aH)) (aE (.int 1)))) (aP (aF qX (aR 2 bS (aC (aA 0) (aC (aE (.int 5)) aH))) (aE (.int 3))))) (aI (lW (kY (aA 5) (aR 3 zR (aC (aA 0) (aC (aA 1) (aC (aA 2) aH)))))) aL) (aI (bT (aP (aF fJ (bL cM (aC (aA 4) aH)) (aE (.int 1)))) (aI (lW (kY (aA 5) (aR 3 wM (aC (aA 0) (aC (aA 1) (aC (aA 2) aH)))))) aL) aL) aL)) aL)
def Zf:DS:=(aI (bA (cE (aC (aA 1) (aC (bL kC (aC (aA 5) aH)) aH)))) aL)
def M9:DS:=(aI (iR (fN (aR 2 bS (aC (aA 0) (aC (aF bQ (aA 3) (aE (.int 1))) aH)))) (gN 6) E9) Zf)
def Wh:DS:=(aI (aY 5 (nK aH)) M9)
def Fp:DS:=(aI (aY 4 (aR 1 lH (aC (aA 1) aH))) Wh)
abbrev pM:Stmt:=cQ 46
abbrev Pq:List Str:=["_law_things_here","_law_thing"]
abbrev sQ:List Str:=["_law_things_here","_law_thing"]
theorem Wc:FnScope Pq sQ (aV pM):=⟨rfl,rfl,rfl,by decide +kernel,rfl,by decide +kernel,by decide +kernel⟩
def VD:DS:=(aI (bA (aF oM (aA 1) (Kw (aR 1 lH (aC (aA 0) aH))))) aL)
def LL:DS:=(aI (bT (cJ (cU (aP (cN (aF aN (aA 1) (aE (.int 1))) "int"))) (aP (cN (aF aN (aA 1) (aE (.int 1))) "bool"))) (aI (bA (aE (.bool false))) aL) aL) VD)
def Lm:DS:=(aI (bT (cJ (cU (aP (cN (aA 1) "tuple"))) (cJ (aP (aF fL (bL cM (aC (aA 1) aH)) (aE (.int 2)))) (cU (aP (cN (aF aN (aA 1) (aE (.int 0))) "str"))))) (aI (bA (aE (.bool false))) aL) aL) LL)
abbrev pS:Stmt:=cQ 47
abbrev Kg:List Str:=["_law_things_here","_law_thing","_law_kinds_here","_law_known","_law_word_here"]
abbrev sC:List Str:=["_law_things_here","_law_thing"]
theorem Zv:FnScope Kg sC (aV pS):=⟨rfl,rfl,rfl,by decide +kernel,rfl,by decide +kernel,by decide +kernel⟩
def Xj:DS:=(aI (aY 3 (Gg (aA 3) (dH (aF bQ (Dr (aA 3) (aA 4)) (aE (.int 1)))) dP)) aL)
def uL:DS:=(aI (bT (cJ (cU (aP (cN (aA 4) "str"))) (aP (aF vM (aA 4) (aA 3)))) (aI (bA (aE (.bool false))) aL) aL) Xj)
def J1:DS:=(aI (bA (aF fJ (bL cM (aC (aF aN (aA 1) (aE (.int 3))) aH)) (aE (.int 0)))) aL)
def F6:DS:=(aI (iR (fE (aF aN (aA 1) (aE (.int 3)))) (gN 4) uL) J1)
def M4:DS:=(aI (aY 3 (aR 1 kA (aC (cE (aC (vV (aA 2) (aF aN (aA 1) (aE (.int 1)))) (aC (vV (aA 2) (aF aN (aA 1) (aE (.int 2)))) aH))) aH))) F6)
def B4:DS:=(aI (bT (cJ (aP (aF Ez (aF aN (aA 1) (aE (.int 1))) (aA 2))) (cJ (aP (aF Ez (aF aN (aA 1) (aE (.int 2))) (aA 2))) (cJ (aP (aF dA (aF aN (aA 1) (aE (.int 1))) (aF aN (aA 1) (aE (.int 2))))) (cU (aP (cN (aF aN (aA 1) (aE (.int 3))) "tuple")))))) (aI (bA (aE (.bool false))) aL) aL) M4)
def EO:DS:=(aI (bT (cJ (aP (aF fL (bL cM (aC (aA 1) aH)) (aE (.int 4)))) (cJ (cU (aP (cN (aF aN (aA 1) (aE (.int 1))) "str"))) (cU (aP (cN (aF aN (aA 1) (aE (.int 2))) "str"))))) (aI (bA (aE (.bool false))) aL) aL) B4)
def Bp:DS:=(aI (aY 2 (Et (aA 0))) EO)
abbrev rA:Stmt:=cQ 48
abbrev Ib:List Str:=["_law_things_here","_law_thing","_law_one"]
abbrev qD:List Str:=["_law_things_here","_law_thing"]
theorem O9:FnScope Ib qD (aV rA):=⟨rfl,rfl,rfl,by decide +kernel,rfl,by decide +kernel,by decide +kernel⟩
def Hy:DS:=(aI (bT (cJ (cU (aP (cN (aA 2) "int"))) (aP (cN (aA 2) "bool"))) (aI (bA (aE (.bool false))) aL) aL) aL)
def X5:DS:=(aI (bA (fK (aF fJ (aF aN (aF aN (aA 1) (aE (.int 3))) (aE (.int 1))) (aE (.int 0))) (aF dA (aR 2 hX (aC (aF aN (aF aN (aA 1) (aE (.int 3))) (aE (.int 0))) (aC (aF aN (aF aN (aA 1) (aE (.int 3))) (aE (.int 1))) aH))) (aF aN (aA 1) (aE (.int 3)))))) aL)
def U7:DS:=(aI (iR (fE (aF aN (aA 1) (aE (.int 3)))) (gN 2) Hy) X5)
def QU:DS:=(aI (bT (cJ (aP (aF dA (aF aN (aA 1) (aE (.int 1))) (aF aN (aA 1) (aE (.int 2))))) (cJ (cU (aP (cN (aF aN (aA 1) (aE (.int 3))) "tuple"))) (cJ (aP (aF fL (bL cM (aC (aF aN (aA 1) (aE (.int 3))) aH)) (aE (.int 2)))) (cU (aP (cN (aF aN (aA 1) (aE (.int 4))) "bool")))))) (aI (bA (aE (.bool false))) aL) aL) U7)
def Qm:DS:=(aI (bT (cJ (aP (aF fL (bL cM (aC (aA 1) aH)) (aE (.int 5)))) (cJ (cU (aP (aR 2 vF (aC (aA 0) (aC (aF aN (aA 1) (aE (.int 1))) aH))))) (cU (aP (aR 2 vF (aC (aA 0) (aC (aF aN (aA 1) (aE (.int 2))) aH))))))) (aI (bA (aE (.bool false))) aL) aL) QU)
abbrev oW:Stmt:=cQ 49
abbrev Lh:List Str:=["_law_things_here","_law_thing"]
abbrev qN:List Str:=["_law_things_here","_law_thing"]
theorem Ts:FnScope Lh qN (aV oW):=⟨rfl,rfl,rfl,by decide +kernel,rfl,by decide +kernel,by decide +kernel⟩
def SK:DS:=(aI (bA (fK (aF dA (aF aN (aA 1) (aE (.int 0))) (aE (.str "gap"))) (aR 2 yO (aC (aA 0) (aC (aA 1) aH))))) aL)
def BB:DS:=(aI (bT (aP (aF dA (aF aN (aA 1) (aE (.int 0))) (aE (.str "may")))) (aI (bA (aR 2 zO (aC (aA 0) (aC (aA 1) aH)))) aL) aL) SK)
def Jv:DS:=(aI (bT (cJ (cU (aP (cN (aA 1) "tuple"))) (cJ (aP (aF dA (bL cM (aC (aA 1) aH)) (aE (.int 0)))) (cU (aP (cN (aF aN (aA 1) (aE (.int 0))) "str"))))) (aI (bA (aE (.bool false))) aL) aL) BB)
abbrev sW:Stmt:=cQ 50
abbrev Jx:List Str:=["_law_feed_here","_law_saying","_law_odd","_law_at","_law_piece","_law_some","_law_j","_law_bent","_law_more"]
abbrev pX:List Str:=["_law_feed_here","_law_saying","_law_odd"]
theorem Vy:FnScope Jx pX (aV sW):=⟨rfl,rfl,rfl,by decide +kernel,rfl,by decide +kernel,by decide +kernel⟩
def R9:DS:=(aI (aY 5 (aF bQ (aA 5) (dD (aC (aF bQ (aF bQ (eA (aA 4) dP (dH (aA 6))) (cE (aC (aA 2) aH))) (eA (aA 4) (dH (aF bQ (aA 6) (aE (.int 1)))) dP)) (aC (Ee (aA 4)) (aC (aF bQ (aA 4) (eA (aA 4) (dH (pT (aE (.int 1)))) dP)) (aC (aF bQ (eA (aA 4) dP (dH (aA 6))) (eA (aA 4) (dH (aF bQ (aA 6) (aE (.int 1)))) dP)) aH))))))) aL)
def TW:DS:=(aI (aY 6 (aR 2 bS (aC (aA 0) (aC (bL cM (aC (aA 4) aH)) aH)))) R9)
def D6:DS:=(aI (bA (aF aN (dD (aC (aA 7) (aC (aA 7) (aC (aA 7) (aC (aF aN (aA 8) (aR 2 bS (aC (aA 0) (aC (bL cM (aC (aA 8) aH)) aH)))) aH))))) (aR 2 bS (aC (aA 0) (aC (aE (.int 4)) aH))))) aL)
def Rw:DS:=(aI (bT (aP (aF dA (aF aN (aA 1) (aE (.int 0))) (aE (.str "may")))) (aI (lW (kY (aA 8) (cE (aC (aF aN (aA 1) (aE (.int 0))) (aC (aF aN (aA 1) (aE (.int 2))) (aC (aF aN (aA 1) (aE (.int 1))) (aC (aF aN (aA 1) (aE (.int 3))) aH))))))) aL) aL) D6)
def Zr:DS:=(aI (aY 8 (nK (aC (aF bQ (eA (aA 1) dP (dH (aA 3))) (eA (aA 1) (dH (aF bQ (aA 3) (aE (.int 1)))) dP)) (aC (aF bQ (aA 1) (cE (aC (aA 2) aH))) (aC (bL pD (aC (aA 1) aH)) (aC (aE .none) (aC (cE (aC (aE (.str "may")) aH)) (aC (cE (aC (aE (.str "gap")) aH)) (aC (cE aH) (aC (aE (.str "may")) aH)))))))))) Rw)
def O1:DS:=(aI (aY 7 (aF bQ (aF bQ (eA (aA 1) dP (dH (aA 3))) (cE (aC (aF aN (aA 5) (aR 2 bS (aC (aA 0) (aC (bL cM (aC (aA 5) aH)) aH)))) aH))) (eA (aA 1) (dH (aF bQ (aA 3) (aE (.int 1)))) dP))) Zr)
def WD:DS:=(aI (bT (mJ (aP (cN (aA 4) "tuple")) (aP (aF fJ (bL cM (aC (aA 4) aH)) (aE (.int 0))))) TW aL) O1)
def Tp:DS:=(aI (aY 5 (dD (aC (aA 2) (aC (mW (aP (cN (aA 4) "tuple")) (bL pD (aC (aA 4) aH)) (aA 4)) (aC (mW (aP (cN (aA 4) "tuple")) (eA (aA 4) dP (dH (aE (.int 1)))) (aA 2)) aH))))) WD)
def Y8:DS:=(aI (aY 4 (aF aN (aA 1) (aA 3))) Tp)
def Mm:DS:=(aI (aY 3 (aR 2 bS (aC (aA 0) (aC (bL cM (aC (aA 1) aH)) aH)))) Y8)
abbrev qV:Stmt:=cQ 51
abbrev Ha:List Str:=["_law_thing"]
abbrev oR:List Str:=["_law_thing"]
theorem D4:FnScope Ha oR (aV qV):=⟨rfl,rfl,rfl,by decide +kernel,rfl,by decide +kernel,by decide +kernel⟩
theorem x6:List.Nodup (["_law_sign"]:List Str):=by decide +kernel
def Ue:DS:=(aI (bA (aF vM (aE (.bool false)) (eN [none] (Dc (aA 0)) (gN 0) eO (aF Fk (aA 0) (aE (.str "abcdefghijklmnopqrstuvwxyz")))))) aL)
def Ak:DS:=(aI (bT (cJ (cU (aP (cN (aA 0) "str"))) (cU (aP (vE jP jP (aE (.int 1)) (bL cM (aC (aA 0) aH)) (aE (.int 8)))))) (aI (bA (aE (.bool false))) aL) aL) Ue)
abbrev qK:Stmt:=cQ 52
abbrev Hi:List Str:=["_law_thing","_law_last","_law_one"]
abbrev rZ:List Str:=["_law_thing"]
theorem G3:FnScope Hi rZ (aV qK):=⟨rfl,rfl,rfl,by decide +kernel,rfl,by decide +kernel,by decide +kernel⟩
def i4:DS:=(aI (aY 1 (aF aN (aA 2) (aE (.int 0)))) aL)
def RM:DS:=(aI (bT (cJ (cU (aP (cN (aF aN (aA 2) (aE (.int 1))) "str"))) (aP (aF vM (aF aN (aA 2) (aE (.int 1))) (dD (aC (aE (.str "point")) (aC (aE (.str "stretch")) aH)))))) (aI (bA (aE (.bool false))) aL) aL) i4)
def Ql:DS:=(aI (bT (cJ (cU (aP (cN (aA 2) "tuple"))) (cJ (aP (aF fL (bL cM (aC (aA 2) aH)) (aE (.int 2)))) (cJ (cU (aP (aR 1 zV (aC (aF aN (aA 2) (aE (.int 0))) aH)))) (aP (aF Nn (aF aN (aA 2) (aE (.int 0))) (aA 1)))))) (aI (bA (aE (.bool false))) aL) aL) RM)
def Xs:DS:=(aI (bA (aE (.bool true))) aL)
def Uc:DS:=(aI (iR (fE (aA 0)) (gN 2) Ql) Xs)
def Yl:DS:=(aI (aY 1 (aE (.str ""))) Uc)
def yP:DS:=(aI (bT (cJ (cU (aP (cN (aA 0) "tuple"))) (cU (aP (vE jP jP (aE (.int 1)) (bL cM (aC (aA 0) aH)) (aE (.int 6)))))) (aI (bA (aE (.bool false))) aL) aL) Yl)
abbrev rV:Stmt:=cQ 53
abbrev On:List Str:=["_law_thing"]
abbrev oO:List Str:=["_law_thing"]
theorem A9:FnScope On oO (aV rV):=⟨rfl,rfl,rfl,by decide +kernel,rfl,by decide +kernel,by decide +kernel⟩
theorem FQ:List.Nodup (["_law_one","_law_thing"]:List Str):=by decide +kernel
def Zk:DS:=(aI (bA (fK (aF jP (bL cM (aC (aF aN (aA 0) (aE (.int 1))) aH)) (aE (.int 24))) (aF vM (aE (.bool false)) (eN [none,some 0] (fE (aF aN (aA 0) (aE (.int 1)))) (gN 0) eO (aR 2 Ad (aC (aF aN (aA 1) (aE (.int 0))) (aC (aA 0) aH))))))) aL)
def OS:DS:=(aI (bT (cU (aP (cN (aF aN (aA 0) (aE (.int 1))) "tuple"))) (aI (bA (aE (.bool false))) aL) aL) Zk)
def Hz:DS:=(aI (bT (cJ (cU (aP (cN (aA 0) "tuple"))) (cJ (aP (aF fL (bL cM (aC (aA 0) aH)) (aE (.int 2)))) (cU (aP (aR 1 zB (aC (aF aN (aA 0) (aE (.int 0))) aH)))))) (aI (bA (aE (.bool false))) aL) aL) OS)
abbrev jZ:Stmt:=cQ 54
abbrev mL:List Str:=["_law_feed_here","_law_thing","_law_at","_law_some","_law_sign"]
abbrev fU:List Str:=["_law_feed_here","_law_thing"]
theorem Us:FnScope mL fU (aV jZ):=⟨rfl,rfl,rfl,by decide +kernel,rfl,by decide +kernel,by decide +kernel⟩
def MJ(j:Nat):DS:=(aI (bA (aF aN (aF bQ (aA 3) (dD (aC (aF bQ (aA 1) (cE (aC (aE (.int 0)) aH))) aH))) (aR 2 bS (aC (aA 0) (aC (aE (.int 5)) aH))))) aL)
def OG(j:Nat):DS:=(aI (aY 3 (dD (aC (bL pD (aC (aA 1) aH)) (aC (aF bQ (eA (aA 1) dP (dH (aA 2))) (eA (aA 1) (dH (aF bQ (aA 2) (aE (.int 1)))) dP)) (aC (aF bQ (aF bQ (eA (aA 1) dP (dH (aA 2))) (eA (aA 1) (dH (aA 2)) (dH (aF bQ (aA 2) (aE (.int 1)))))) (eA (aA 1) (dH (aA 2)) dP)) (aC (Ee (aA 1)) aH)))))) (MJ j))
def Z9(j:Nat):DS:=(aI (bA (aF aN (aF bQ (aA 3) (dD (aC (cE (aC (aA 1) aH)) aH))) (aR 2 bS (aC (aA 0) (aC (aE (.int 4)) aH))))) aL)
def KL(j:Nat):DS:=(aI (aY 3 (dD (aC (aF bQ (aF bQ (eA (aA 1) dP (dH (aA 2))) (aA 4)) (eA (aA 1) (dH (aF bQ (aA 2) (aE (.int 1)))) dP)) (aC (aF bQ (aF bQ (eA (aA 1) dP (dH (aA 2))) (aA 4)) (eA (aA 1) (dH (aA 2)) dP)) (aC (aF bQ (eA (aA 1) dP (dH (aA 2))) (eA (aA 1) (dH (aF bQ (aA 2) (aE (.int 1)))) dP)) aH))))) (Z9 j))
def j9(j:Nat):DS:=(aI (aY 4 (aF aN (aE (.str "abcdefghijklmnopqrstuvwxyz.A 0")) (aR 2 bS (aC (aA 0) (aC (aE (.int 30)) aH))))) (KL j))
def VI(j:Nat):DS:=(aI (bA (aF aN (dD (aC (aF bQ (aA 1) (aE (.int 1))) (aC (aF gP (aA 1) (aE (.int 1))) (aC (aF gP (aE (.int 0)) (aA 1)) (aC (aF dA (aA 1) (aE (.int 1))) (aC (bL Lu (aC (aA 1) aH)) (aC (dD (aC (aA 1) aH)) aH))))))) (aR 2 bS (aC (aA 0) (aC (aE (.int 6)) aH))))) aL)
def GE(j:Nat):DS:=(aI (bT (aP (cN (aA 1) "bool")) (aI (bA (aF aN (dD (aC (bL Af (aC (aA 1) aH)) (aC (Fz (aA 1)) (aC (aE .none) aH)))) (aR 2 bS (aC (aA 0) (aC (aE (.int 3)) aH))))) aL) aL) (VI j))
def S5(j:Nat):DS:=(aI (bT (aP (cN (aA 1) "str")) (j9 j) aL) (GE j))
def Zi(j:Nat):DS:=(aI (bT (aP (cN (aA 1) "tuple")) (OG j) aL) (S5 j))
def X4(j:Nat):DS:=(aI (bT (mJ (aP (cN (aA 1) "tuple")) (mJ (aP (aF qX (aA 2) (bL cM (aC (aA 1) aH)))) (aP (aF fJ (aR 2 bS (aC (aA 0) (aC (aE (.int 5)) aH))) (aE (.int 0)))))) (aI (bA (aF bQ (aF bQ (eA (aA 1) dP (dH (aA 2))) (cE (aC (aR 2 (hZ j) (aC (aA 0) (aC (aF aN (aA 1) (aA 2)) aH))) aH))) (eA (aA 1) (dH (aF bQ (aA 2) (aE (.int 1)))) dP))) aL) aL) (Zi j))
def mB(j:Nat):DS:=(aI (aY 2 (mW (aP (Lo (aA 1) "tuple" "str")) (aR 2 bS (aC (aA 0) (aC (aF bQ (bL cM (aC (aA 1) aH)) (aE (.int 1))) aH))) (aE (.int 0)))) (X4 j))
abbrev lQ:Stmt:=cQ 55
abbrev Lb:List Str:=["_law_script","_law_k","_law_feed_here","_law_things_here","_law_sayings","_law_some","_law_j","_law_odd","_law_at","_law_thing"]
abbrev Br:List Str:=["_law_script"]
theorem O3:FnScope Lb Br (aV lQ):=⟨rfl,rfl,rfl,by decide +kernel,rfl,by decide +kernel,by decide +kernel⟩
theorem VM:List.Nodup (["_law_j","_law_feed_here","_law_things_here","_law_sayings"]:List Str):=by decide +kernel
def Vw:DS:=(aI (lW (kY (aA 5) (cE (aC (aA 3) (aC (aF bQ (aF bQ (eA (aA 4) dP (dH (aA 8))) (cE (aC (aR 3 xV (aC (aA 2) (aC (aF aN (aA 4) (aA 8)) (aC (aA 7) aH)))) aH))) (eA (aA 4) (dH (aF bQ (aA 8) (aE (.int 1)))) dP)) aH))))) aL)
def OX:DS:=(aI (aY 8 (aR 2 bS (aC (aA 2) (aC (bL cM (aC (aA 4) aH)) aH)))) Vw)
def UT:DS:=(aI (bT (aP (aF fJ (bL cM (aC (aA 4) aH)) (aE (.int 0)))) OX aL) aL)
def QZ:DS:=(aI (aY 7 (aF aN (aA 7) (aR 2 bS (aC (aA 2) (aC (aE (.int 15)) aH))))) UT)
def r8:DS:=(aI (aY 7 (dD (aC (aE (.int 0)) (aC (aE (.int 1)) (aC (aE (.int 2)) (aC (aE (.bool true)) (aC (aE (.bool false)) (aC (aE .none) (aC (aE (.str "a")) (aC (aF aN (aF aN (aA 3) (aE (.int 0))) (aE (.int 0))) (aC (aE (.str "same")) (aC (aE (.str "gap")) (aC (cE (aC (aE (.int 0)) (aC (aE (.int 1)) aH))) (aC (cE (aC (aE (.int 2)) (aC (aE (.int 4)) aH))) (aC (pT (aE (.int 1))) (aC (dD aH) (aC (dD (aC (aE (.str "a")) aH)) aH))))))))))))))))) QZ)
def Xh:DS:=(aI (bT (aP (aF fL (bL En (aC (aR 1 vG (aC (aA 9) aH)) aH)) (bL En (aC (aR 1 zD (aC (aA 9) aH)) aH)))) (aI (bA (aE (.bool false))) aL) aL) aL)
def Pu:DS:=(aI (iR (fE (aF bQ (aA 5) (eN [none,some 2,some 3,some 4] (fN (aE (.int 4))) (gN 0) eO (aR 2 (hZ 5) (aC (aA 1) (aC (cE (aC (aA 2) (aC (aA 3) aH))) aH)))))) (gN 9) Xh) aL)
def Io:DS:=(aI (iR (fN (aE (.int 6))) (gN 6) r8) Pu)
def Gp:DS:=(aI (lW (kY (aA 5) (cE (aC (aA 3) (aC (eA (aF Bq (aA 4) (aE (.int 25))) dP (dH (aF bQ (aE (.int 24)) (aR 2 bS (aC (aA 2) (aC (aE (.int 2)) aH)))))) aH))))) Io)
def N5:DS:=(aI (aY 5 (aF Rg (aA 5) (dD (aC (cE (aC (aA 3) (aC (cE aH) aH))) (aC (cE (aC (bL pD (aC (aA 3) aH)) (aC (aA 4) aH))) (aC (cE (aC (eA (aA 3) dP (dH (aE (.int 0)))) (aC (aA 4) aH))) aH)))))) Gp)
def J8:DS:=(aI (aY 5 (nK (aC (cE (aC (aA 3) (aC (aA 4) aH))) (aC (dD (aC (aA 3) (aC (aA 4) aH))) (aC (cE (aC (aA 3) (aC (bL pD (aC (aA 4) aH)) aH))) (aC (cE (aC (aA 3) aH)) (aC (cE (aC (aA 4) (aC (aA 3) aH))) (aC (aE .none) aH)))))))) N5)
def Q7:DS:=(aI (aY 4 (aF aN (aR 4 Au (aC (aA 2) (aC (aA 3) (aC (aR 2 zA (aC (aA 2) (aC (aA 3) aH))) (aC (aF aN (dD (aC (aE (.int 3)) (aC (aE (.int 8)) (aC (aE (.int 24)) aH)))) (aR 2 bS (aC (aA 2) (aC (aE (.int 3)) aH)))) aH))))) (aE (.int 1)))) J8)
def SV:DS:=(aI (aY 3 (aR 2 Ah (aC (aA 2) (aC (aE (.int 6)) aH)))) Q7)
def GM:DS:=(aI (aY 2 (aR 2 yF (aC (aA 0) (aC (aA 1) aH)))) SV)
def oQ:DS:=(aI (bA (aE (.bool true))) aL)
def Gi:DS:=(aI (iR (fN (aE (.int 4))) (gN 1) GM) oQ)
section
variable {P:Program}{w:World}{K:PySem.W.Frag}{mg:Str->Option Value}{base:Heap}
abbrev Fu9 (K:PySem.W.Frag)(x:Str)(s:Stmt)(a:Addr)(fd:FuncData):Prop:=Fun K x x s a fd
abbrev VcT(p:List Str)(q:DC)(b:DS)(N:List Str):Prop:=∀ ds m R,ds.length=p.length->q ds m R->b {nx:=fun _ m=>R (.dat .none) m,rt:=R} (aW N ds) m
theorem UM{kW:Addr}{kG:FuncData}(jK:Fu9 K "is_whole" mP kW kG)(bD:mg "isinstance"=none)(eU:mg "int"=none)(eV:mg "bool"=none)
  (vc:VcT lE nF Dd Je):FnOk P w K mg base aQ 1 kW kG lE (LSp K 1 nF) :=
 cR (k:=0) jK C5 (body:=Dd) (fun _ _ _ _ _ _ hr=>have nd:=C5.nd;(aK (bB (gF (cT rfl bD rfl eU xN (Or.inl rfl) (aB 0)) (iO (G7 (cT rfl bD rfl eV tI (Or.inr (Or.inl rfl)) (aB 0)))))) aM)) vc
theorem WQ{uK:Addr}{vH:FuncData}(rM:Fu9 K "common" oX uK vH)(lJ:mg "abs"=none)
  (vc:VcT rS yX By Ku):FnOk P w K mg base aQ 1 uK vH rS (LSp K 2 yX) :=
 cR (k:=0) rM A2 (body:=By) (fun _ _ _ _ _ _ hr=>have nd:=A2.nd;(aK (Vh PassesOwn.never (bW (gC hr.u100) (aB 1) aG) (aK (FI 0 1 rfl nd (aD (aB 1) (aD (aS jA (aB 0) (aB 1)) aJ))) aM)) (aK (bB (cC Pj rfl lJ Jr (aD (aB 0) aJ))) aM))) vc
theorem WG{uO:Addr}{vC:FuncData}(sG:Fu9 K "is_fraction" oN uO vC){kW:Addr}{kG:FuncData}(jK:Fu9 K "is_whole" mP kW kG)(qB:Binds K kG lE [])(oF:mg "is_whole"=some (.ref kW))(sB:FnOk P w K mg base aQ 1 kW kG lE (LSp K 1 nF)){uK:Addr}{vH:FuncData}(rM:Fu9 K "common" oX uK vH)(Hr:Binds K vH rS [])(Ng:mg "common"=some (.ref uK))(Lr:FnOk P w K mg base aQ 1 uK vH rS (LSp K 2 yX))(bD:mg "isinstance"=none)(bK:mg "tuple"=none)(aX:mg "len"=none)
  (vc:VcT rY zI Kc Jj):FnOk P w K mg base aQ 2 uO vC rY (LSp K 1 zI) :=
 cR (k:=1) sG E2 (body:=Kc) (fun _ _ _ _ _ _ hr=>have nd:=E2.nd;(aK (bX (QW.pt (cY (cZ (cF (cT rfl bD rfl bK dN (Or.inr (Or.inr (Or.inr (Or.inl rfl)))) (aB 0)))) (eG (bW (gC hr.u100) (cC cO rfl aX cS (aD (aB 0) aJ)) aG)))) (aK (bB dB) aM) aM) (aK (Lc (aB 0) (nO rfl (fH (cX 1 nd) (fH (cX 2 nd) qF)))) (aK (bX (QW.pt (cY (cZ (cF (aT sB (hr.mono (by decide)) oF jK.kp qB rfl (aD (aB 1) aJ)))) (eG (cZ (cF (aT sB (hr.mono (by decide)) oF jK.kp qB rfl (aD (aB 2) aJ))))))) (aK (bB dB) aM) aM) (aK (bB (gF (eM VX (aB 2) aG) (iO (eM (dF hr.u100) (aT Lr (hr.mono (by decide)) Ng rM.kp Hr rfl (aD (aB 1) (aD (aB 2) aJ))) aG)))) aM))))) vc
theorem VP{wT:Addr}{wB:FuncData}(sK:Fu9 K "words_of" qC wT wB){mT:Addr}(Lw:mg "POINT_WORDS"=some (.ref mT))(Rj:Dl K w mT Nh){nV:Addr}(Ot:mg "ORDER"=some (.ref nV))(Ir:KT K nV ["ahead","meets","overlaps","begins","within","ends","same","ended","holds","begun","lapped","met","behind"])
  (vc:VcT oV Ai Em Pe):FnOk P w K mg base aQ 1 wT wB oV (LSp K 1 Ai) :=
 cR (k:=0) sK Xw (body:=Em) (fun _ _ _ _ _ _ hr=>have nd:=Xw.nd;(aK (bB (MB hr.u100 rfl Lw Rj (aB 0) (u4 rfl Ot Ir))) aM)) vc
theorem VW{uN:Addr}{vS:FuncData}(pL:Fu9 K "is_may" oI uN vS){wT:Addr}{wB:FuncData}(sK:Fu9 K "words_of" qC wT wB)(Ip:Binds K wB oV [])(Pn:mg "words_of"=some (.ref wT))(Gm:FnOk P w K mg base aQ 1 wT wB oV (LSp K 1 Ai))(bD:mg "isinstance"=none)(bK:mg "tuple"=none)
  (vc:VcT sY zC yL Ht):FnOk P w K mg base aQ 2 uN vS sY (LSp K 2 zC) :=
 cR (k:=1) pL Ym (body:=yL) (fun _ _ _ _ _ _ hr=>have nd:=Ym.nd;(aK (bX (cZ (cF (cT rfl bD rfl bK dN (Or.inr (Or.inr (Or.inr (Or.inl rfl)))) (aB 1)))) (aK (bB dB) aM) aM) (aK (bG 2 nd (aT Gm (hr.mono (by decide)) Pn sK.kp Ip rfl (aD (aB 0) aJ))) (aK (kB PassesOwn.never rfl (gZ (aB 1)) (cX 3 nd) (aK (bX (bW (y9 hr.u100) (aB 3) (aB 2) (hm:=by with_unfolding_all rfl)) (aK (bB dB) aM) aM) (aK (bG 2 nd (Sj (aB 2) (dM (aS bR (Sa (aB 2) (aB 3)) aG)) dS)) aM))) (aK (bB dB) aM))))) vc
theorem RF{xJ:Addr}{wO:FuncData}(qE:Fu9 K "is_name" nY xJ wO){Ct:Tok}(Qq:mg "LONGEST_NAME"=some (.int (8) Ct)){Dz:Tok}(Rt:mg "LETTERS"=some (.str "abcdefghijklmnopqrstuvwxyz" Dz))(bD:mg "isinstance"=none)(dY:mg "str"=none)(aX:mg "len"=none)(lZ:mg "all"=none)
  (vc:VcT nS tR zQ Nz):FnOk P w K mg base aQ 1 xJ wO nS (LSp K 1 tR) :=
 cR (k:=0) qE Sx (body:=zQ) (fun _ _ _ _ _ _ hr=>have nd:=Sx.nd;(aK (bX (QW.pt (cY (cZ (cF (cT rfl bD rfl dY jH (Or.inr (Or.inr (Or.inl rfl))) (aB 0)))) (eG (cZ (Fb lY lY aG (cC cO rfl aX cS (aD (aB 0) aJ)) (Ov rfl Qq)))))) (aK (bB dB) aM) aM) (aK (bB (cC (Oy rfl) rfl lZ Hl (aD (jQ ["sign"] [none] rfl (Wt (aB 0)) (fun cl C s2 H2 pins fp=>(cX 0 MZ)) (fun cl C s2 H2 pins fp=>fR) (fun cl C s2 H2 pins fp=>(eM G1 (aB 0) (CV rfl Rt) (hm:=by with_unfolding_all rfl)))) aJ))) aM))) vc
theorem RH{uX:Addr}{uZ:FuncData}(pI:Fu9 K "is_named_kind" qS uX uZ){xJ:Addr}{wO:FuncData}(qE:Fu9 K "is_name" nY xJ wO)(Jc:Binds K wO nS [])(Iu:mg "is_name"=some (.ref xJ))(Hu:FnOk P w K mg base aQ 1 xJ wO nS (LSp K 1 tR))(bD:mg "isinstance"=none)(bK:mg "tuple"=none)(aX:mg "len"=none)
  (vc:VcT rC yC uM Is):FnOk P w K mg base aQ 2 uX uZ rC (LSp K 1 yC) :=
 cR (k:=1) pI We (body:=uM) (fun _ _ _ _ _ _ hr=>have nd:=We.nd;(aK (bB (gF (cT rfl bD rfl bK dN (Or.inr (Or.inr (Or.inr (Or.inl rfl)))) (aB 0)) (gF (eM (dF hr.u100) (cC cO rfl aX cS (aD (aB 0) aJ)) aG) (gF (aT Hu (hr.mono (by decide)) Iu qE.kp Jc rfl (aD (aO (aB 0) aG) aJ)) (iO (eM (zJ hr.u100) (aO (aB 0) aG) (cL (aD bH (aD bH aJ))) (hm:=by with_unfolding_all rfl))))))) aM)) vc
theorem Q8{wL:Addr}{xD:FuncData}(nN:Fu9 K "is_things" rR wL xD){uX:Addr}{uZ:FuncData}(pI:Fu9 K "is_named_kind" qS uX uZ)(Ni:Binds K uZ rC [])(Oo:mg "is_named_kind"=some (.ref uX))(Ob:FnOk P w K mg base aQ 2 uX uZ rC (LSp K 1 yC)){kL:Addr}{jY:FuncData}(kI:Fu9 K "names_of" nD kL jY)(vK:Binds K jY lR [])(uS:mg "names_of"=some (.ref kL))(uP:FnOk P w K mg base aQ 1 kL jY lR (LSp K 1 sH)){Fw:Tok}(Oq:mg "MOST_THINGS"=some (.int (6) Fw))(bD:mg "isinstance"=none)(bK:mg "tuple"=none)(aX:mg "len"=none)(lZ:mg "all"=none)(uF:mg "sorted"=none)(Pb:mg "set"=none)
  (vc:VcT rT wW yH Oa):FnOk P w K mg base aQ 3 wL xD rT (LSp K 1 wW) :=
 cR (k:=2) nN Sz (body:=yH) (fun _ _ _ _ _ _ hr=>have nd:=Sz.nd;(aK (bX (QW.pt (cY (cZ (cF (cT rfl bD rfl bK dN (Or.inr (Or.inr (Or.inr (Or.inl rfl)))) (aB 0)))) (eG (cZ (Fb lY lY aG (cC cO rfl aX cS (aD (aB 0) aJ)) (Ov rfl Oq)))))) (aK (bB dB) aM) aM) (aK (bX (cZ (cF (cC (Oy rfl) rfl lZ Hl (aD (jQ ["part"] [none] rfl (gZ (aB 0)) (fun cl C s2 H2 pins fp=>(cX 0 NE)) (fun cl C s2 H2 pins fp=>fR) (fun cl C s2 H2 pins fp=>(aT Ob (hr.mono (by decide)) Oo pI.kp Ni rfl (aD (aB 0) aJ)))) aJ)))) (aK (bB dB) aM) aM) (aK (bG 1 nd (aT uP (hr.mono (by decide)) uS kI.kp vK rfl (aD (aB 0) aJ))) (aK (bB (eM (dF hr.u100) (aB 1) (S9 rfl rfl uF rfl Pb (aB 1)))) aM))))) vc
theorem JO{kL:Addr}{jY:FuncData}(kI:Fu9 K "names_of" nD kL jY) 
  (vc:VcT lR sH Fa Kq):FnOk P w K mg base aQ 1 kL jY lR (LSp K 1 sH) :=
 cR (k:=0) kI O0 (body:=Fa) (fun _ _ _ _ _ _ hr=>have nd:=O0.nd;(aK (bB (jQ ["name","kind"] [none,none] rfl (gZ (aB 0)) (fun cl C s2 H2 pins fp=>(nO rfl (fH (cX 0 Wa) (fH (cX 1 Wa) qF)))) (fun cl C s2 H2 pins fp=>fR) (fun cl C s2 H2 pins fp=>(aB 0)))) aM)) vc
theorem OR{uJ:Addr}{xE:FuncData}(sR:Fu9 K "kinds_of" oJ uJ xE)(uD:mg "dict"=none)
  (vc:VcT rD Ap Dj Rq):FnOk P w K mg base aQ 1 uJ xE rD (LSp K 3 Ap) :=
 cR (k:=0) sR K7 (body:=Dj) (fun _ _ _ _ _ _ hr=>have nd:=K7.nd;(aK (bG 3 nd (C4 rfl rfl uD (aB 0))) (aK (bB (cL (aD (Cl hr.u100 (aB 3) (aB 1)) (aD (Cl hr.u100 (aB 3) (aB 2)) aJ)))) aM))) vc
theorem VS{vX:Addr}{vB:FuncData}(pF:Fu9 K "are_two_names" pQ vX vB){kL:Addr}{jY:FuncData}(kI:Fu9 K "names_of" nD kL jY)(vK:Binds K jY lR [])(uS:mg "names_of"=some (.ref kL))(uP:FnOk P w K mg base aQ 1 kL jY lR (LSp K 1 sH))
  (vc:VcT nU yD Cf Qo):FnOk P w K mg base aQ 2 vX vB nU (LSp K 3 yD) :=
 cR (k:=1) pF Yz (body:=Cf) (fun _ _ _ _ _ _ hr=>have nd:=Yz.nd;(aK (bG 3 nd (aT uP (hr.mono (by decide)) uS kI.kp vK rfl (aD (aB 0) aJ))) (aK (bB (gF (eM (zJ hr.u100) (aB 1) (aB 3) (hm:=by with_unfolding_all rfl)) (gF (eM (zJ hr.u100) (aB 2) (aB 3) (hm:=by with_unfolding_all rfl)) (iO (eM (gC hr.u100) (aB 1) (aB 2)))))) aM))) vc
theorem EX{tG:Addr}{xF:FuncData}(sA:Fu9 K "ends_of" tE tG xF){mE:Addr}(Hg:mg "END_COUNTS"=some (.ref mE))(Jw:KD K w mE wP)(eK:mg "range"=none)
  (vc:VcT qG At Bo Lx):FnOk P w K mg base aQ 1 tG xF qG (LSp K 1 At) :=
 cR (k:=0) sA Xn (body:=Bo) (fun _ _ _ _ _ _ hr=>have nd:=Xn.nd;(aK (bB (JM ["name","kind","number"] [none,none,none] rfl (gZ (aB 0)) (fun cl C s2 H2 pins fp=>(nO rfl (fH (cX 0 Hs) (fH (cX 1 Hs) qF)))) (fun cl C s2 H2 pins fp=>fR) (fun cl C s2 H2 pins fp=>(iZ rfl eK (IG rfl Hg Jw (aB 1)))) (fun cl C s2 H2 pins fp=>(cX 2 Hs)) (fun cl C s2 H2 pins fp=>fR) (fun cl C s2 H2 pins fp=>(cL (aD (aB 0) (aD (aB 2) aJ)))))) aM)) vc
theorem v7{wU:Addr}{xC:FuncData}(nL:Fu9 K "is_end" sD wU xC){kW:Addr}{kG:FuncData}(jK:Fu9 K "is_whole" mP kW kG)(qB:Binds K kG lE [])(oF:mg "is_whole"=some (.ref kW))(sB:FnOk P w K mg base aQ 1 kW kG lE (LSp K 1 nF)){tG:Addr}{xF:FuncData}(sA:Fu9 K "ends_of" tE tG xF)(Lp:Binds K xF qG [])(Jk:mg "ends_of"=some (.ref tG))(Pk:FnOk P w K mg base aQ 1 tG xF qG (LSp K 1 At))(bD:mg "isinstance"=none)(bK:mg "tuple"=none)(aX:mg "len"=none)
  (vc:VcT sP pB tK Mb):FnOk P w K mg base aQ 2 wU xC sP (LSp K 2 pB) :=
 cR (k:=1) nL Zp (body:=tK) (fun _ _ _ _ _ _ hr=>have nd:=Zp.nd;(aK (bX (QW.pt (cY (cZ (cF (cT rfl bD rfl bK dN (Or.inr (Or.inr (Or.inr (Or.inl rfl)))) (aB 1)))) (eG (bW (gC hr.u100) (cC cO rfl aX cS (aD (aB 1) aJ)) aG)))) (aK (bB dB) aM) aM) (aK (bB (gF (aT sB (hr.mono (by decide)) oF jK.kp qB rfl (aD (aO (aB 1) aG) aJ)) (iO (eM (zJ hr.u100) (aB 1) (aT Pk (hr.mono (by decide)) Jk sA.kp Lp rfl (aD (aB 0) aJ)) (hm:=by with_unfolding_all rfl))))) aM))) vc
theorem SJ{uH:Addr}{vR:FuncData}(qH:Fu9 K "is_may_saying" oH uH vR){vX:Addr}{vB:FuncData}(pF:Fu9 K "are_two_names" pQ vX vB)(Ko:Binds K vB nU [])(Nu:mg "are_two_names"=some (.ref vX))(Ke:FnOk P w K mg base aQ 2 vX vB nU (LSp K 3 yD)){uN:Addr}{vS:FuncData}(pL:Fu9 K "is_may" oI uN vS)(Ky:Binds K vS sY [])(Om:mg "is_may"=some (.ref uN))(Op:FnOk P w K mg base aQ 2 uN vS sY (LSp K 2 zC)){uJ:Addr}{xE:FuncData}(sR:Fu9 K "kinds_of" oJ uJ xE)(Iv:Binds K xE rD [])(Hm:mg "kinds_of"=some (.ref uJ))(Rp:FnOk P w K mg base aQ 1 uJ xE rD (LSp K 3 Ap))(aX:mg "len"=none)
  (vc:VcT sJ xQ yA Hn):FnOk P w K mg base aQ 3 uH vR sJ (LSp K 2 xQ) :=
 cR (k:=2) qH Wm (body:=yA) (fun _ _ _ _ _ _ hr=>have nd:=Wm.nd;(aK (bX (QW.pt (cY (bW (gC hr.u100) (cC cO rfl aX cS (aD (aB 1) aJ)) aG) (eG (cZ (cF (aT Ke (hr.mono (by decide)) Nu pF.kp Ko rfl (aD (aB 0) (aD (aO (aB 1) aG) (aD (aO (aB 1) aG) aJ))))))))) (aK (bB dB) aM) aM) (aK (bB (gF (aT Op (hr.mono (by decide)) Om pL.kp Ky rfl (aD (aT Rp (hr.mono (by decide)) Hm sR.kp Iv rfl (aD (aB 0) (aD (aO (aB 1) aG) (aD (aO (aB 1) aG) aJ)))) (aD (aO (aB 1) aG) aJ))) (iO (eM (gC hr.u100) (aO (aB 1) aG) (cL aJ))))) aM))) vc
theorem KW{tZ:Addr}{vN:FuncData}(qZ:Fu9 K "is_gap_saying" pW tZ vN){wU:Addr}{xC:FuncData}(nL:Fu9 K "is_end" sD wU xC)(Cs:Binds K xC sP [])(Ex:mg "is_end"=some (.ref wU))(Dm:FnOk P w K mg base aQ 2 wU xC sP (LSp K 2 pB)){uO:Addr}{vC:FuncData}(sG:Fu9 K "is_fraction" oN uO vC)(Kz:Binds K vC rY [])(Rb:mg "is_fraction"=some (.ref uO))(Ny:FnOk P w K mg base aQ 2 uO vC rY (LSp K 1 zI))(aX:mg "len"=none)(bD:mg "isinstance"=none)(eV:mg "bool"=none)
  (vc:VcT sN uB xU Hd):FnOk P w K mg base aQ 3 tZ vN sN (LSp K 2 uB) :=
 cR (k:=2) qZ D1 (body:=xU) (fun _ _ _ _ _ _ hr=>have nd:=D1.nd;(aK (bX (bW (gC hr.u100) (cC cO rfl aX cS (aD (aB 1) aJ)) aG) (aK (bB dB) aM) aM) (aK (Lc (aB 1) (nO rfl (fH (cX 2 nd) (fH (cX 3 nd) (fH (cX 4 nd) (fH (cX 5 nd) (fH (cX 6 nd) qF))))))) (aK (bX (QW.pt (cY (cZ (cF (aT Dm (hr.mono (by decide)) Ex nL.kp Cs rfl (aD (aB 0) (aD (aB 3) aJ))))) (cY (cZ (cF (aT Dm (hr.mono (by decide)) Ex nL.kp Cs rfl (aD (aB 0) (aD (aB 4) aJ))))) (eG (bW (dF hr.u100) (aB 3) (aB 4)))))) (aK (bB dB) aM) aM) (aK (bB (gF (aT Ny (hr.mono (by decide)) Rb sG.kp Kz rfl (aD (aB 5) aJ)) (iO (cT rfl bD rfl eV tI (Or.inr (Or.inl rfl)) (aB 6))))) aM))))) vc
theorem KR{tP:Addr}{uI:FuncData}(qQ:Fu9 K "is_saying" oB tP uI){uH:Addr}{vR:FuncData}(qH:Fu9 K "is_may_saying" oH uH vR)(Mw:Binds K vR sJ [])(Pi:mg "is_may_saying"=some (.ref uH))(Mx:FnOk P w K mg base aQ 3 uH vR sJ (LSp K 2 xQ)){tZ:Addr}{vN:FuncData}(qZ:Fu9 K "is_gap_saying" pW tZ vN)(Gs:Binds K vN sN [])(Hw:mg "is_gap_saying"=some (.ref tZ))(Ml:FnOk P w K mg base aQ 3 tZ vN sN (LSp K 2 uB))(bD:mg "isinstance"=none)(bK:mg "tuple"=none)
  (vc:VcT pU wD Lk Oc):FnOk P w K mg base aQ 4 tP uI pU (LSp K 2 wD) :=
 cR (k:=3) qQ J0 (body:=Lk) (fun _ _ _ _ _ _ hr=>have nd:=J0.nd;(aK (bX (QW.pt (cY (cZ (cF (cT rfl bD rfl bK dN (Or.inr (Or.inr (Or.inr (Or.inl rfl)))) (aB 1)))) (eG (bW (dF hr.u100) (aB 1) (cL aJ))))) (aK (bB dB) aM) aM) (aK (bX (bW (dF hr.u100) (aO (aB 1) aG) bH) (aK (bB (aT Mx (hr.mono (by decide)) Pi qH.kp Mw rfl (aD (aB 0) (aD (aB 1) aJ)))) aM) aM) (aK (bB (gF (eM (dF hr.u100) (aO (aB 1) aG) bH) (iO (aT Ml (hr.mono (by decide)) Hw qZ.kp Gs rfl (aD (aB 0) (aD (aB 1) aJ)))))) aM)))) vc
theorem UW{wN:Addr}{tN:FuncData}(sV:Fu9 K "is_talk" pC wN tN){wL:Addr}{xD:FuncData}(nN:Fu9 K "is_things" rR wL xD)(Mc:Binds K xD rT [])(Ia:mg "is_things"=some (.ref wL))(Im:FnOk P w K mg base aQ 3 wL xD rT (LSp K 1 wW)){tP:Addr}{uI:FuncData}(qQ:Fu9 K "is_saying" oB tP uI)(Hc:Binds K uI pU [])(Pr:mg "is_saying"=some (.ref tP))(Lf:FnOk P w K mg base aQ 4 tP uI pU (LSp K 2 wD)){Ep:Tok}(Ik:mg "MOST_SAYINGS"=some (.int (24) Ep))(bD:mg "isinstance"=none)(bK:mg "tuple"=none)(aX:mg "len"=none)(lZ:mg "all"=none)
  (vc:VcT nP vG Ix Nt):FnOk P w K mg base aQ 5 wN tN nP (LSp K 1 vG) :=
 cR (k:=4) sV Wq (body:=Ix) (fun _ _ _ _ _ _ hr=>have nd:=Wq.nd;(aK (bX (QW.pt (cY (cZ (cF (cT rfl bD rfl bK dN (Or.inr (Or.inr (Or.inr (Or.inl rfl)))) (aB 0)))) (eG (bW (gC hr.u100) (cC cO rfl aX cS (aD (aB 0) aJ)) aG)))) (aK (bB dB) aM) aM) (aK (Lc (aB 0) (nO rfl (fH (cX 1 nd) (fH (cX 2 nd) qF)))) (aK (bX (QW.pt (cY (cZ (cF (aT Im (hr.mono (by decide)) Ia nN.kp Mc rfl (aD (aB 1) aJ)))) (cY (cZ (cF (cT rfl bD rfl bK dN (Or.inr (Or.inr (Or.inr (Or.inl rfl)))) (aB 2)))) (eG (bW fT (cC cO rfl aX cS (aD (aB 2) aJ)) (Ov rfl Ik)))))) (aK (bB dB) aM) aM) (aK (bB (cC (Oy rfl) rfl lZ Hl (aD (jQ ["saying","things"] [none,some 1] rfl (gZ (aB 2)) (fun cl C s2 H2 pins fp=>(cX 0 IE)) (fun cl C s2 H2 pins fp=>fR) (fun cl C s2 H2 pins fp=>(aT Lf (hr.mono (by decide)) Pr qQ.kp Hc rfl (aD (aB 1) (aD (aB 0) aJ))))) aJ))) aM))))) vc
theorem d6{tH:Addr}{wS:FuncData}(rL:Fu9 K "_law_feed" pG tH wS)(aX:mg "len"=none)(Qi:mg "max"=none)
  (vc:VcT rQ yF yR Gw):FnOk P w K mg base aQ 1 tH wS rQ (LSp K 2 yF) :=
 cR (k:=0) rL Xu (body:=yR) (fun _ _ _ _ _ _ hr=>have nd:=Xu.nd;(aK (bX (bW (dF hr.u100) (cC cO rfl aX cS (aD (aB 0) aJ)) aG) (aK (bB (wX (aD aG (aD aG (aD (aB 1) (aD aG aJ)))))) aM) aM) (aK (bG 2 nd (aO (aB 0) (aS jA (aB 1) (cC cO rfl aX cS (aD (aB 0) aJ))))) (aK (bB (wX (aD (cC (XM rfl) rfl Qi KA (aD aG (aD (aS iS (aB 2) (aS IY aG aG)) aJ))) (aD (aB 2) (aD (aB 1) (aD aG aJ)))))) aM)))) vc
theorem PP{cH:Addr}{cI:FuncData}(bJ:Fu9 K "_law_draw" fF cH cI) 
  (vc:VcT dW bS Fq Md):FnOk P w K mg base aQ 1 cH cI dW (LSp K 2 bS) :=
 cR (k:=0) bJ C1 (body:=Fq) (fun _ _ _ _ _ _ hr=>have nd:=C1.nd;(aK (J7 (aS bR (aO (aB 0) aG) aG) (aB 0) aG) (aK (bX (bW fT (aO (aB 0) aG) aG) (aK (bG 2 nd (aS jA (aO (aB 0) aG) (aB 1))) (aK (J7 (aS Jg (aO (aB 0) aG) (aB 1)) (aB 0) aG) (aK (bB (aB 2)) aM))) aM) (aK (bG 3 nd (aS jA (aS bR (aS bR (aO (aB 0) aG) (aS gY aG (aO (aB 0) aG))) (aS gY aG (aO (aB 0) aG))) aG)) (aK (bG 3 nd (aS jA (aS bR (aS bR (aS gY (aB 3) (aB 3)) (aS gY aG (aB 3))) (aO (aB 0) aG)) aG)) (aK (bG 3 nd (aS jA (aS bR (aS bR (aS gY (aB 3) (aB 3)) (aS gY aG (aB 3))) (aO (aB 0) aG)) aG)) (aK (bB (aS jA (aB 3) (aB 1))) aM))))))) vc
theorem IA{gH:Addr}{gI:FuncData}(fP:Fu9 K "_law_fraction" lG gH gI)(lJ:mg "abs"=none)
  (vc:VcT jV hX Cn Li):FnOk P w K mg base aQ 1 gH gI jV (LSp K 2 hX) :=
 cR (k:=0) fP K0 (body:=Cn) (fun _ _ _ _ _ _ hr=>have nd:=K0.nd;(aK (bG 2 nd (aB 1)) (aK (bG 3 nd (cC Pj rfl lJ Jr (aD (aB 0) aJ))) (aK (Vh PassesOwn.never (bW fT (aB 3) aG) (aK (bG 4 nd (aS jA (aB 2) (aB 3))) (aK (bG 2 nd (aB 3)) (aK (bG 3 nd (aB 4)) aM)))) (aK (bB (cL (aD (aS Jg (aB 0) (aB 2)) (aD (aS Jg (aB 1) (aB 2)) aJ)))) aM))))) vc
theorem SO{tV:Addr}{xK:FuncData}(iU:Fu9 K "_law_stand" nR tV xK)(eU:mg "int"=none)
  (vc:VcT rB jU Bg Lz):FnOk P w K mg base aQ 1 tV xK rB (LSp K 2 jU) :=
 cR (k:=0) iU Uo (body:=Bg) (fun _ _ _ _ _ _ hr=>have nd:=Uo.nd;(aK (bG 2 nd (aS iS (aS gY (aO (aB 0) aG) (aO (aB 1) aG)) (aS gY (aO (aB 1) aG) (aO (aB 0) aG)))) (aK (bB (aS iS (fX Mh rfl eU xN (aD (eM fT (aB 2) aG) aJ)) (fX Mh rfl eU xN (aD (eM yW (aB 2) aG) aJ)))) aM))) vc
theorem VU{vD:Addr}{vI:FuncData}(pY:Fu9 K "_law_word" rO vD vI){tV:Addr}{xK:FuncData}(iU:Fu9 K "_law_stand" nR tV xK)(mX:Binds K xK rB [])(mS:mg "_law_stand"=some (.ref tV))(nM:FnOk P w K mg base aQ 1 tV xK rB (LSp K 2 jU))(bD:mg "isinstance"=none)(bK:mg "tuple"=none)
  (vc:VcT qM yZ Rf Ox):FnOk P w K mg base aQ 2 vD vI qM (LSp K 2 yZ) :=
 cR (k:=1) pY Xq (body:=Rf) (fun _ _ _ _ _ _ hr=>have nd:=Xq.nd;(aK (bG 2 nd (gF (cT rfl bD rfl bK dN (Or.inr (Or.inr (Or.inr (Or.inl rfl)))) (aO (aB 0) aG)) (iO (cT rfl bD rfl bK dN (Or.inr (Or.inr (Or.inr (Or.inl rfl)))) (aO (aB 1) aG))))) (aK (bG 3 nd (tQ (cF (cT rfl bD rfl bK dN (Or.inr (Or.inr (Or.inr (Or.inl rfl)))) (aO (aB 0) aG))) (aB 0) (cL (aD (aB 0) (aD (aB 0) aJ))))) (aK (bG 4 nd (tQ (cF (cT rfl bD rfl bK dN (Or.inr (Or.inr (Or.inr (Or.inl rfl)))) (aO (aB 1) aG))) (aB 1) (cL (aD (aB 1) (aD (aB 1) aJ))))) (aK (bX (bW yW (aT nM (hr.mono (by decide)) mS iU.kp mX rfl (aD (aO (aB 3) aG) (aD (aO (aB 4) aG) aJ))) aG) (aK (bB bH) aM) aM) (aK (bX (bW fT (aT nM (hr.mono (by decide)) mS iU.kp mX rfl (aD (aO (aB 3) aG) (aD (aO (aB 4) aG) aJ))) aG) (aK (bB bH) aM) aM) (aK (bX (QW.pt (wY (cF (aB 2)) (zY (bW (dF hr.u100) (aT nM (hr.mono (by decide)) mS iU.kp mX rfl (aD (aO (aB 3) aG) (aD (aO (aB 4) aG) aJ))) aG)))) (aK (bB bH) aM) aM) (aK (bX (QW.pt (wY (cF (aB 2)) (zY (bW (dF hr.u100) (aT nM (hr.mono (by decide)) mS iU.kp mX rfl (aD (aO (aB 3) aG) (aD (aO (aB 4) aG) aJ))) aG)))) (aK (bB bH) aM) aM) (aK (bG 5 nd (cL (aD (cL (aD bH (aD bH (aD bH aJ)))) (aD (cL (aD bH (aD bH (aD bH aJ)))) (aD (cL (aD bH (aD bH (aD bH aJ)))) aJ))))) (aK (bB (aO (aO (aB 5) (aS bR aG (aT nM (hr.mono (by decide)) mS iU.kp mX rfl (aD (aO (aB 3) aG) (aD (aO (aB 4) aG) aJ))))) (aS bR aG (aT nM (hr.mono (by decide)) mS iU.kp mX rfl (aD (aO (aB 3) aG) (aD (aO (aB 4) aG) aJ)))))) aM)))))))))) vc
theorem BO{hU:Addr}{gQ:FuncData}(iM:Fu9 K "_law_words" lV hU gQ) 
  (vc:VcT jI kA Fj Mn):FnOk P w K mg base aQ 1 hU gQ jI (LSp K 1 kA) :=
 cR (k:=0) iM Vs (body:=Fj) (fun _ _ _ _ _ _ hr=>have nd:=Vs.nd;(aK (bX (bW (dF hr.u100) (aB 0) (cL (aD bH (aD bH aJ)))) (aK (bG 1 nd (dL (aD bH (aD bH (aD bH (aD bH (aD bH (aD bH (aD bH aJ))))))))) (aK (bB (aS bR (aB 1) (dL (aD bH (aD bH (aD bH (aD bH (aD bH (aD bH aJ))))))))) aM)) aM) (aK (bX (bW (dF hr.u100) (aB 0) (cL (aD bH (aD bH aJ)))) (aK (bB (dL (aD bH (aD bH (aD bH aJ))))) aM) aM) (aK (bX (bW (dF hr.u100) (aO (aB 0) aG) bH) (aK (bB (dL (aD bH (aD bH (aD bH (aD bH (aD bH aJ))))))) aM) aM) (aK (bB (dL (aD bH (aD bH (aD bH (aD bH (aD bH aJ))))))) aM))))) vc
theorem Y4{xB:Addr}{vW:FuncData}(pZ:Fu9 K "_law_names" qT xB vW){cH:Addr}{cI:FuncData}(bJ:Fu9 K "_law_draw" fF cH cI)(bO:Binds K cI dW [])(bM:mg "_law_draw"=some (.ref cH))(bN:FnOk P w K mg base aQ 1 cH cI dW (LSp K 2 bS))(eK:mg "range"=none)(aX:mg "len"=none)(uF:mg "sorted"=none)
  (vc:VcT oP xY Ea Kj):FnOk P w K mg base aQ 2 xB vW oP (LSp K 2 xY) :=
 cR (k:=1) pZ Ud (body:=Ea) (fun _ _ _ _ _ _ hr=>have nd:=Ud.nd;(aK (bG 2 nd (dL (aD bH (aD bH (aD bH (aD bH (aD bH (aD bH (aD bH (aD bH (aD bH (aD bH (aD bH (aD bH aJ)))))))))))))) (aK (bG 3 nd (aT bN (hr.mono (by decide)) bM bJ.kp bO rfl (aD (aB 0) (aD aG aJ)))) (aK (bG 4 nd (aO (dL (aD aG (aD aG (aD aG (aD aG aJ))))) (aT bN (hr.mono (by decide)) bM bJ.kp bO rfl (aD (aB 0) (aD aG aJ))))) (aK (zE 5 ["_law_k","_law_menu","_law_first","_law_step"] [none,some 2,some 3,some 4] rfl nd (iZ rfl eK (aB 1)) (fun cl C s2 H2 pins fp=>(cX 0 KU)) (fun cl C s2 H2 pins fp=>fR) (fun cl C s2 H2 pins fp=>(aO (aB 1) (aS jA (aS bR (aB 2) (aS gY (aB 3) (aB 0))) aG)))) (aK (bX (bW (dF hr.u100) (aT bN (hr.mono (by decide)) bM bJ.kp bO rfl (aD (aB 0) (aD aG aJ))) aG) (aK (bG 6 nd bH) (aK (bG 7 nd (LY (jQ ["_law_k","_law_feed_here","_law_letters"] [none,some 0,some 6] rfl (iZ rfl eK (aT bN (hr.mono (by decide)) bM bJ.kp bO rfl (aD (aB 0) (aD aG aJ)))) (fun cl C s2 H2 pins fp=>(cX 0 Y2)) (fun cl C s2 H2 pins fp=>fR) (fun cl C s2 H2 pins fp=>(aO (aB 2) (aT bN (hr.mono (by decide)) bM bJ.kp bO rfl (aD (aB 1) (aD aG aJ)))))))) (aK (bG 8 nd (aT bN (hr.mono (by decide)) bM bJ.kp bO rfl (aD (aB 0) (aD (aS bR (cC cO rfl aX cS (aD (aB 7) aJ)) aG) aJ)))) (aK (zE 5 ["_law_k","_law_first","_law_letters","_law_base","_law_at"] [none,some 3,some 6,some 7,some 8] rfl nd (iZ rfl eK (aB 1)) (fun cl C s2 H2 pins fp=>(cX 0 g9)) (fun cl C s2 H2 pins fp=>fR) (fun cl C s2 H2 pins fp=>(aS bR (aS bR (G9 (aB 3) dS (dM (aB 4))) (aO (aB 2) (aS jA (aS bR (aB 1) (aS gY aG (aB 0))) aG))) (G9 (aB 3) (dM (aB 4)) dS)))) aM)))) aM) (aK (bB (cC IH rfl uF J2 (aD (aB 5) aJ))) aM))))))) vc
theorem S6{wK:Addr}{wI:FuncData}(sM:Fu9 K "_law_kinds" oZ wK wI){cH:Addr}{cI:FuncData}(bJ:Fu9 K "_law_draw" fF cH cI)(bO:Binds K cI dW [])(bM:mg "_law_draw"=some (.ref cH))(bN:FnOk P w K mg base aQ 1 cH cI dW (LSp K 2 bS))(eK:mg "range"=none)(bK:mg "tuple"=none)
  (vc:VcT rH zG Gc He):FnOk P w K mg base aQ 2 wK wI rH (LSp K 2 zG) :=
 cR (k:=1) sM K3 (body:=Gc) (fun _ _ _ _ _ _ hr=>have nd:=K3.nd;(aK (zE 2 ["_law_k","_law_feed_here"] [none,some 0] rfl nd (iZ rfl eK (aB 1)) (fun cl C s2 H2 pins fp=>(cX 0 OM)) (fun cl C s2 H2 pins fp=>fR) (fun cl C s2 H2 pins fp=>(aO (dL (aD bH (aD bH aJ))) (aT bN (hr.mono (by decide)) bM bJ.kp bO rfl (aD (aB 1) (aD aG aJ)))))) (aK (bX (bW (dF hr.u100) (aT bN (hr.mono (by decide)) bM bJ.kp bO rfl (aD (aB 0) (aD aG aJ))) aG) (aK (zE 2 ["_law_k"] [none] rfl nd (iZ rfl eK (aB 1)) (fun cl C s2 H2 pins fp=>(cX 0 S4)) (fun cl C s2 H2 pins fp=>fR) (fun cl C s2 H2 pins fp=>bH)) aM) aM) (aK (bB (fX xL rfl bK dN (aD (aB 2) aJ))) aM)))) vc
theorem RZ{wA:Addr}{tM:FuncData}(oD:Fu9 K "_law_things" pE wA tM){xB:Addr}{vW:FuncData}(pZ:Fu9 K "_law_names" qT xB vW)(Pl:Binds K vW oP [])(No:mg "_law_names"=some (.ref xB))(Mk:FnOk P w K mg base aQ 2 xB vW oP (LSp K 2 xY)){cH:Addr}{cI:FuncData}(bJ:Fu9 K "_law_draw" fF cH cI)(bO:Binds K cI dW [])(bM:mg "_law_draw"=some (.ref cH))(bN:FnOk P w K mg base aQ 1 cH cI dW (LSp K 2 bS)){wK:Addr}{wI:FuncData}(sM:Fu9 K "_law_kinds" oZ wK wI)(Mi:Binds K wI rH [])(Jh:mg "_law_kinds"=some (.ref wK))(Ou:FnOk P w K mg base aQ 2 wK wI rH (LSp K 2 zG))(aX:mg "len"=none)(bK:mg "tuple"=none)(eK:mg "range"=none)
  (vc:VcT rW Ah Df Kx):FnOk P w K mg base aQ 3 wA tM rW (LSp K 2 Ah) :=
 cR (k:=2) oD Wj (body:=Df) (fun _ _ _ _ _ _ hr=>have nd:=Wj.nd;(aK (bG 2 nd (aT Mk (hr.mono (by decide)) No pZ.kp Pl rfl (aD (aB 0) (aD (aS bR aG (aT bN (hr.mono (by decide)) bM bJ.kp bO rfl (aD (aB 0) (aD (aB 1) aJ)))) aJ)))) (aK (bG 3 nd (aT Ou (hr.mono (by decide)) Jh sM.kp Mi rfl (aD (aB 0) (aD (cC cO rfl aX cS (aD (aB 2) aJ)) aJ)))) (aK (bB (fX xL rfl bK dN (aD (jQ ["_law_k","_law_names_here","_law_kinds_here"] [none,some 2,some 3] rfl (iZ rfl eK (cC cO rfl aX cS (aD (aB 2) aJ))) (fun cl C s2 H2 pins fp=>(cX 0 BM)) (fun cl C s2 H2 pins fp=>fR) (fun cl C s2 H2 pins fp=>(cL (aD (aO (aB 1) (aB 0)) (aD (aO (aB 2) (aB 0)) aJ))))) aJ))) aM)))) vc
theorem OH{vT:Addr}{xH:FuncData}(qA:Fu9 K "_law_may" rE vT xH){hU:Addr}{gQ:FuncData}(iM:Fu9 K "_law_words" lV hU gQ)(lF:Binds K gQ jI [])(lD:mg "_law_words"=some (.ref hU))(lC:FnOk P w K mg base aQ 1 hU gQ jI (LSp K 1 kA)){cH:Addr}{cI:FuncData}(bJ:Fu9 K "_law_draw" fF cH cI)(bO:Binds K cI dW [])(bM:mg "_law_draw"=some (.ref cH))(bN:FnOk P w K mg base aQ 1 cH cI dW (LSp K 2 bS))(aX:mg "len"=none)(bK:mg "tuple"=none)
  (vc:VcT qW yY Ga Ho):FnOk P w K mg base aQ 2 vT xH qW (LSp K 2 yY) :=
 cR (k:=1) qA Vi (body:=Ga) (fun _ _ _ _ _ _ hr=>have nd:=Vi.nd;(aK (bG 2 nd (aT lC (hr.mono (by decide)) lD iM.kp lF rfl (aD (aB 1) aJ))) (aK (bG 3 nd (aS bR aG (aT bN (hr.mono (by decide)) bM bJ.kp bO rfl (aD (aB 0) (aD aG aJ))))) (aK (zE 4 ["_law_word_here","_law_feed_here","_law_piece"] [none,some 0,some 3] rfl nd (gZ (aB 2)) (fun cl C s2 H2 pins fp=>(cX 0 j6)) (fun cl C s2 H2 pins fp=>(Yb (bW (dF hr.u100) (aT bN (hr.mono (by decide)) bM bJ.kp bO rfl (aD (aB 1) (aD (aB 2) aJ))) aG))) (fun cl C s2 H2 pins fp=>(aB 0))) (aK (bG 5 nd (aT bN (hr.mono (by decide)) bM bJ.kp bO rfl (aD (aB 0) (aD aG aJ)))) (aK (bX (bW (dF hr.u100) (aB 5) aG) (aK (bG 4 nd (dL (aD (aO (aB 2) (aT bN (hr.mono (by decide)) bM bJ.kp bO rfl (aD (aB 0) (aD (cC cO rfl aX cS (aD (aB 2) aJ)) aJ)))) aJ))) aM) aM) (aK (bX (bW (dF hr.u100) (aB 5) aG) (aK (bG 4 nd (dL aJ)) aM) aM) (aK (bB (fX xL rfl bK dN (aD (aB 4) aJ))) aM)))))))) vc
theorem Y7{uV:Addr}{tJ:FuncData}(qL:Fu9 K "_law_times" pK uV tJ){gH:Addr}{gI:FuncData}(fP:Fu9 K "_law_fraction" lG gH gI)(iQ:Binds K gI jV [])(iP:mg "_law_fraction"=some (.ref gH))(jD:FnOk P w K mg base aQ 1 gH gI jV (LSp K 2 hX)){cH:Addr}{cI:FuncData}(bJ:Fu9 K "_law_draw" fF cH cI)(bO:Binds K cI dW [])(bM:mg "_law_draw"=some (.ref cH))(bN:FnOk P w K mg base aQ 1 cH cI dW (LSp K 2 bS))
  (vc:VcT oY tT zP Pg):FnOk P w K mg base aQ 2 uV tJ oY (LSp K 5 tT) :=
 cR (k:=1) qL G5 (body:=zP) (fun _ _ _ _ _ _ hr=>have nd:=G5.nd;(aK (bX (bW (dF hr.u100) (aB 1) bH) (aK (bB (aT jD (hr.mono (by decide)) iP fP.kp iQ rfl (aD (aS bR (aB 2) (aT bN (hr.mono (by decide)) bM bJ.kp bO rfl (aD (aB 0) (aD (aB 3) aJ)))) (aD (aB 4) aJ)))) aM) aM) (aK (bG 5 nd (aT bN (hr.mono (by decide)) bM bJ.kp bO rfl (aD (aB 0) (aD (aS iS (aB 3) aG) aJ)))) (aK (bG 6 nd (aS bR (aS bR (aB 5) aG) (aT bN (hr.mono (by decide)) bM bJ.kp bO rfl (aD (aB 0) (aD (aS iS (aS iS (aB 3) aG) (aB 5)) aJ))))) (aK (bB (cL (aD (aT jD (hr.mono (by decide)) iP fP.kp iQ rfl (aD (aS bR (aB 2) (aB 5)) (aD (aB 4) aJ))) (aD (aT jD (hr.mono (by decide)) iP fP.kp iQ rfl (aD (aS bR (aB 2) (aB 6)) (aD (aB 4) aJ))) aJ)))) aM))))) vc
theorem NW{uU:Addr}{wJ:FuncData}(sX:Fu9 K "_law_telling" pP uU wJ){cH:Addr}{cI:FuncData}(bJ:Fu9 K "_law_draw" fF cH cI)(bO:Binds K cI dW [])(bM:mg "_law_draw"=some (.ref cH))(bN:FnOk P w K mg base aQ 1 cH cI dW (LSp K 2 bS)){uV:Addr}{tJ:FuncData}(qL:Fu9 K "_law_times" pK uV tJ)(Mq:Binds K tJ oY [])(Na:mg "_law_times"=some (.ref uV))(Ra:FnOk P w K mg base aQ 2 uV tJ oY (LSp K 5 tT))(bK:mg "tuple"=none)
  (vc:VcT qO zA Co Ja):FnOk P w K mg base aQ 3 uU wJ qO (LSp K 2 zA) :=
 cR (k:=2) sX Wl (body:=Co) (fun _ _ _ _ _ _ hr=>have nd:=Wl.nd;(aK (bG 2 nd (aS bR aG (aT bN (hr.mono (by decide)) bM bJ.kp bO rfl (aD (aB 0) (aD aG aJ))))) (aK (bG 3 nd (aO (dL (aD aG (aD aG (aD aG (aD aG (aD aG (aD aG aJ))))))) (aT bN (hr.mono (by decide)) bM bJ.kp bO rfl (aD (aB 0) (aD aG aJ))))) (aK (bG 4 nd (aS iS (aO (dL (aD aG (aD aG (aD (xX aG) (aD aG (aD aG aJ)))))) (aT bN (hr.mono (by decide)) bM bJ.kp bO rfl (aD (aB 0) (aD aG aJ)))) (aT bN (hr.mono (by decide)) bM bJ.kp bO rfl (aD (aB 0) (aD aG aJ))))) (aK (bB (fX xL rfl bK dN (aD (jQ ["_law_name","_law_kind","_law_feed_here","_law_many","_law_bottom","_law_base"] [none,none,some 0,some 2,some 3,some 4] rfl (gZ (aB 1)) (fun cl C s2 H2 pins fp=>(nO rfl (fH (cX 0 M7) (fH (cX 1 M7) qF)))) (fun cl C s2 H2 pins fp=>fR) (fun cl C s2 H2 pins fp=>(aT Ra (hr.mono (by decide)) Na qL.kp Mq rfl (aD (aB 2) (aD (aB 1) (aD (aB 5) (aD (aB 3) (aD (aB 4) aJ)))))))) aJ))) aM))))) vc
theorem OA{hJ:Addr}{gJ:FuncData}(iC:Fu9 K "_law_all_ends" kZ hJ gJ) 
  (vc:VcT jS lH Es Oe):FnOk P w K mg base aQ 1 hJ gJ jS (LSp K 1 lH) :=
 cR (k:=0) iC M0 (body:=Es) (fun _ _ _ _ _ _ hr=>have nd:=M0.nd;(aK (bG 1 nd (wX aJ)) (aK (kB PassesOwn.never rfl (gZ (aB 0)) (nO rfl (fH (cX 2 nd) (fH (cX 3 nd) qF))) (aK (sO (pV (aB 1) (cL (aD (aB 2) (aD aG aJ))))) (aK (bX (bW (dF hr.u100) (aB 3) bH) (aK (sO (pV (aB 1) (cL (aD (aB 2) (aD aG aJ))))) aM) aM) aM))) (aK (bB (aB 1)) aM)))) vc
theorem JG{xO:Addr}{vU:FuncData}(nG:Fu9 K "_law_time" pR xO vU)(eK:mg "range"=none)(aX:mg "len"=none)
  (vc:VcT pO tD Di Kk):FnOk P w K mg base aQ 1 xO vU pO (LSp K 3 tD) :=
 cR (k:=0) nG K5 (body:=Di) (fun _ _ _ _ _ _ hr=>have nd:=K5.nd;(aK (kB PassesOwn.never rfl (iZ rfl eK (cC cO rfl aX cS (aD (aB 0) aJ))) (cX 3 nd) (aK (bX (bW (dF hr.u100) (aO (aO (aB 0) (aB 3)) aG) (aO (aB 2) aG)) (aK (bB (tQ (bW (dF hr.u100) (aO (aO (aB 0) (aB 3)) aG) bH) (aO (aB 1) (aB 3)) (aO (aO (aB 1) (aB 3)) (aO (aB 2) aG)))) aM) aM) aM)) (aK (bB Ab) aM))) vc
theorem EI{wQ:Addr}{xM:FuncData}(oE:Fu9 K "_law_may_saying" rG wQ xM){cH:Addr}{cI:FuncData}(bJ:Fu9 K "_law_draw" fF cH cI)(bO:Binds K cI dW [])(bM:mg "_law_draw"=some (.ref cH))(bN:FnOk P w K mg base aQ 1 cH cI dW (LSp K 2 bS)){vD:Addr}{vI:FuncData}(pY:Fu9 K "_law_word" rO vD vI)(Gv:Binds K vI qM [])(Mp:mg "_law_word"=some (.ref vD))(Gn:FnOk P w K mg base aQ 2 vD vI qM (LSp K 2 yZ)){vT:Addr}{xH:FuncData}(qA:Fu9 K "_law_may" rE vT xH)(Ow:Binds K xH qW [])(Ic:mg "_law_may"=some (.ref vT))(Hb:FnOk P w K mg base aQ 2 vT xH qW (LSp K 2 yY)){hU:Addr}{gQ:FuncData}(iM:Fu9 K "_law_words" lV hU gQ)(lF:Binds K gQ jI [])(lD:mg "_law_words"=some (.ref hU))(lC:FnOk P w K mg base aQ 1 hU gQ jI (LSp K 1 kA))(aX:mg "len"=none)(bK:mg "tuple"=none)
  (vc:VcT rX zR Ew Hf):FnOk P w K mg base aQ 3 wQ xM rX (LSp K 3 zR) :=
 cR (k:=2) oE Wr (body:=Ew) (fun _ _ _ _ _ _ hr=>have nd:=Wr.nd;(aK (bG 3 nd (aT bN (hr.mono (by decide)) bM bJ.kp bO rfl (aD (aB 0) (aD (cC cO rfl aX cS (aD (aB 1) aJ)) aJ)))) (aK (bG 4 nd (aS jA (aS bR (aS bR (aB 3) aG) (aT bN (hr.mono (by decide)) bM bJ.kp bO rfl (aD (aB 0) (aD (aS iS (cC cO rfl aX cS (aD (aB 1) aJ)) aG) aJ)))) (cC cO rfl aX cS (aD (aB 1) aJ)))) (aK (bG 5 nd (cL (aD (aO (aO (aB 1) (aB 3)) aG) (aD (aO (aO (aB 1) (aB 4)) aG) aJ)))) (aK (bG 6 nd (aT Gn (hr.mono (by decide)) Mp pY.kp Gv rfl (aD (aO (aB 2) (aB 3)) (aD (aO (aB 2) (aB 4)) aJ)))) (aK (bG 7 nd (aT Hb (hr.mono (by decide)) Ic qA.kp Ow rfl (aD (aB 0) (aD (aB 5) aJ)))) (aK (bX (QW.pt (cY (bW (dF hr.u100) (aB 7) (cL aJ)) (eG (bW fT (aT bN (hr.mono (by decide)) bM bJ.kp bO rfl (aD (aB 0) (aD aG aJ))) aG)))) (aK (bG 7 nd (fX xL rfl bK dN (aD (jQ ["_law_word_here","_law_there","_law_words_here"] [none,some 6,some 7] rfl (gZ (aT lC (hr.mono (by decide)) lD iM.kp lF rfl (aD (aB 5) aJ))) (fun cl C s2 H2 pins fp=>(cX 0 KC)) (fun cl C s2 H2 pins fp=>(Yb (QW.pt (cY (bW HJ (aB 0) (aB 2) (hm:=by with_unfolding_all rfl)) (eG (bW (dF hr.u100) (aB 0) (aB 1))))))) (fun cl C s2 H2 pins fp=>(aB 0))) aJ))) aM) aM) (aK (bB (cL (aD bH (aD (aO (aO (aB 1) (aB 3)) aG) (aD (aO (aO (aB 1) (aB 4)) aG) (aD (aB 7) aJ)))))) aM)))))))) vc
theorem j3{xT:Addr}{xR:FuncData}(rP:Fu9 K "_law_gap_saying" pJ xT xR){hJ:Addr}{gJ:FuncData}(iC:Fu9 K "_law_all_ends" kZ hJ gJ)(lK:Binds K gJ jS [])(lU:mg "_law_all_ends"=some (.ref hJ))(lP:FnOk P w K mg base aQ 1 hJ gJ jS (LSp K 1 lH)){cH:Addr}{cI:FuncData}(bJ:Fu9 K "_law_draw" fF cH cI)(bO:Binds K cI dW [])(bM:mg "_law_draw"=some (.ref cH))(bN:FnOk P w K mg base aQ 1 cH cI dW (LSp K 2 bS)){xO:Addr}{vU:FuncData}(nG:Fu9 K "_law_time" pR xO vU)(Dw:Binds K vU pO [])(Fv:mg "_law_time"=some (.ref xO))(Ek:FnOk P w K mg base aQ 1 xO vU pO (LSp K 3 tD)){gH:Addr}{gI:FuncData}(fP:Fu9 K "_law_fraction" lG gH gI)(iQ:Binds K gI jV [])(iP:mg "_law_fraction"=some (.ref gH))(jD:FnOk P w K mg base aQ 1 gH gI jV (LSp K 2 hX))(aX:mg "len"=none)(lJ:mg "abs"=none)
  (vc:VcT oT wM Pt Oh):FnOk P w K mg base aQ 2 xT xR oT (LSp K 3 wM) :=
 cR (k:=1) rP E3 (body:=Pt) (fun _ _ _ _ _ _ hr=>have nd:=E3.nd;(aK (bG 3 nd (aT lP (hr.mono (by decide)) lU iC.kp lK rfl (aD (aB 1) aJ))) (aK (bG 4 nd (aT bN (hr.mono (by decide)) bM bJ.kp bO rfl (aD (aB 0) (aD (cC cO rfl aX cS (aD (aB 3) aJ)) aJ)))) (aK (bG 5 nd (aO (aB 3) (aB 4))) (aK (bG 6 nd (aO (aB 3) (aS jA (aS bR (aS bR (aB 4) aG) (aT bN (hr.mono (by decide)) bM bJ.kp bO rfl (aD (aB 0) (aD (aS iS (cC cO rfl aX cS (aD (aB 3) aJ)) aG) aJ)))) (cC cO rfl aX cS (aD (aB 3) aJ))))) (aK (bG 7 nd (aT Ek (hr.mono (by decide)) Fv nG.kp Dw rfl (aD (aB 1) (aD (aB 2) (aD (aB 5) aJ))))) (aK (bG 8 nd (aT Ek (hr.mono (by decide)) Fv nG.kp Dw rfl (aD (aB 1) (aD (aB 2) (aD (aB 6) aJ))))) (aK (bG 9 nd (aS iS (aS gY (aO (aB 7) aG) (aO (aB 8) aG)) (aS gY (aO (aB 8) aG) (aO (aB 7) aG)))) (aK (bG 10 nd (aS gY (aO (aB 7) aG) (aO (aB 8) aG))) (aK (bG 11 nd (aT bN (hr.mono (by decide)) bM bJ.kp bO rfl (aD (aB 0) (aD aG aJ)))) (aK (bX (bW yW (aB 11) aG) (aK (bG 9 nd (aS bR (aB 9) (aO (dL (aD aG (aD aG (aD (xX aG) aJ)))) (aT bN (hr.mono (by decide)) bM bJ.kp bO rfl (aD (aB 0) (aD aG aJ)))))) aM) aM) (aK (bG 12 nd (aT jD (hr.mono (by decide)) iP fP.kp iQ rfl (aD (aB 9) (aD (aB 10) aJ)))) (aK (bX (QW.pt (cY (bW (dF hr.u100) (aB 11) aG) (cY (bW fT (cC Pj rfl lJ Jr (aD (aO (aB 12) aG) aJ)) aG) (eG (bW fT (aO (aB 12) aG) aG))))) (aK (bG 9 nd (aO (dL (aD aG (aD aG (aD (xX aG) (aD aG (aD aG aJ)))))) (aT bN (hr.mono (by decide)) bM bJ.kp bO rfl (aD (aB 0) (aD aG aJ))))) (aK (bG 12 nd (aT jD (hr.mono (by decide)) iP fP.kp iQ rfl (aD (aB 9) (aD (aO (dL (aD aG (aD aG (aD aG (aD aG aJ))))) (aT bN (hr.mono (by decide)) bM bJ.kp bO rfl (aD (aB 0) (aD aG aJ)))) aJ)))) aM)) aM) (aK (bB (cL (aD bH (aD (aB 5) (aD (aB 6) (aD (aB 12) (aD (eM (dF hr.u100) (aT bN (hr.mono (by decide)) bM bJ.kp bO rfl (aD (aB 0) (aD aG aJ))) aG) aJ))))))) aM)))))))))))))) vc
theorem GN{wZ:Addr}{uT:FuncData}(oA:Fu9 K "_law_talk" nX wZ uT){hJ:Addr}{gJ:FuncData}(iC:Fu9 K "_law_all_ends" kZ hJ gJ)(lK:Binds K gJ jS [])(lU:mg "_law_all_ends"=some (.ref hJ))(lP:FnOk P w K mg base aQ 1 hJ gJ jS (LSp K 1 lH)){cH:Addr}{cI:FuncData}(bJ:Fu9 K "_law_draw" fF cH cI)(bO:Binds K cI dW [])(bM:mg "_law_draw"=some (.ref cH))(bN:FnOk P w K mg base aQ 1 cH cI dW (LSp K 2 bS)){wQ:Addr}{xM:FuncData}(oE:Fu9 K "_law_may_saying" rG wQ xM)(Nj:Binds K xM rX [])(Jb:mg "_law_may_saying"=some (.ref wQ))(Qz:FnOk P w K mg base aQ 3 wQ xM rX (LSp K 3 zR)){xT:Addr}{xR:FuncData}(rP:Fu9 K "_law_gap_saying" pJ xT xR)(Mv:Binds K xR oT [])(Oz:mg "_law_gap_saying"=some (.ref xT))(Pp:FnOk P w K mg base aQ 2 xT xR oT (LSp K 3 wM))(aX:mg "len"=none)(eK:mg "range"=none)(bK:mg "tuple"=none)
  (vc:VcT sF Au Fp Lq):FnOk P w K mg base aQ 4 wZ uT sF (LSp K 4 Au) :=
 cR (k:=3) oA Vo (body:=Fp) (fun _ _ _ _ _ _ hr=>have nd:=Vo.nd;(aK (bG 4 nd (aT lP (hr.mono (by decide)) lU iC.kp lK rfl (aD (aB 1) aJ))) (aK (bG 5 nd (wX aJ)) (aK (kB PassesOwn.never rfl (iZ rfl eK (aT bN (hr.mono (by decide)) bM bJ.kp bO rfl (aD (aB 0) (aD (aS bR (aB 3) aG) aJ)))) (cX 6 nd) (aK (bX (QW.pt (wY (bW fT (cC cO rfl aX cS (aD (aB 1) aJ)) aG) (zY (bW yW (aT bN (hr.mono (by decide)) bM bJ.kp bO rfl (aD (aB 0) (aD aG aJ))) aG)))) (aK (sO (pV (aB 5) (aT Qz (hr.mono (by decide)) Jb oE.kp Nj rfl (aD (aB 0) (aD (aB 1) (aD (aB 2) aJ)))))) aM) (aK (bX (bW fT (cC cO rfl aX cS (aD (aB 4) aJ)) aG) (aK (sO (pV (aB 5) (aT Pp (hr.mono (by decide)) Oz rP.kp Mv rfl (aD (aB 0) (aD (aB 1) (aD (aB 2) aJ)))))) aM) aM) aM)) aM)) (aK (bB (cL (aD (aB 1) (aD (fX xL rfl bK dN (aD (aB 5) aJ)) aJ)))) aM))))) vc
theorem TC{tU:Addr}{uR:FuncData}(mD:Fu9 K "_law_is_end" pM tU uR){hJ:Addr}{gJ:FuncData}(iC:Fu9 K "_law_all_ends" kZ hJ gJ)(lK:Binds K gJ jS [])(lU:mg "_law_all_ends"=some (.ref hJ))(lP:FnOk P w K mg base aQ 1 hJ gJ jS (LSp K 1 lH))(bD:mg "isinstance"=none)(bK:mg "tuple"=none)(aX:mg "len"=none)(dY:mg "str"=none)(eU:mg "int"=none)(eV:mg "bool"=none)
  (vc:VcT sQ vF Lm Pq):FnOk P w K mg base aQ 2 tU uR sQ (LSp K 2 vF) :=
 cR (k:=1) mD Wc (body:=Lm) (fun _ _ _ _ _ _ hr=>have nd:=Wc.nd;(aK (bX (QW.pt (cY (cZ (cF (cT rfl bD rfl bK dN (Or.inr (Or.inr (Or.inr (Or.inl rfl)))) (aB 1)))) (cY (bW (gC hr.u100) (cC cO rfl aX cS (aD (aB 1) aJ)) aG) (eG (cZ (cF (cT rfl bD rfl dY jH (Or.inr (Or.inr (Or.inl rfl))) (aO (aB 1) aG)))))))) (aK (bB dB) aM) aM) (aK (bX (QW.pt (cY (cZ (cF (cT rfl bD rfl eU xN (Or.inl rfl) (aO (aB 1) aG)))) (eG (cF (cT rfl bD rfl eV tI (Or.inr (Or.inl rfl)) (aO (aB 1) aG)))))) (aK (bB dB) aM) aM) (aK (bB (eM (zJ hr.u100) (aB 1) (w9 (aT lP (hr.mono (by decide)) lU iC.kp lK rfl (aD (aB 0) aJ))) (hm:=by with_unfolding_all rfl))) aM)))) vc
theorem j0{uE:Addr}{xA:FuncData}(sU:Fu9 K "_law_is_may_saying" pS uE xA){hU:Addr}{gQ:FuncData}(iM:Fu9 K "_law_words" lV hU gQ)(lF:Binds K gQ jI [])(lD:mg "_law_words"=some (.ref hU))(lC:FnOk P w K mg base aQ 1 hU gQ jI (LSp K 1 kA))(uD:mg "dict"=none)(aX:mg "len"=none)(bD:mg "isinstance"=none)(dY:mg "str"=none)(bK:mg "tuple"=none)
  (vc:VcT sC zO Bp Kg):FnOk P w K mg base aQ 2 uE xA sC (LSp K 2 zO) :=
 cR (k:=1) sU Zv (body:=Bp) (fun _ _ _ _ _ _ hr=>have nd:=Zv.nd;(aK (bG 2 nd (C4 rfl rfl uD (aB 0))) (aK (bX (QW.pt (cY (bW (gC hr.u100) (cC cO rfl aX cS (aD (aB 1) aJ)) aG) (cY (cZ (cF (cT rfl bD rfl dY jH (Or.inr (Or.inr (Or.inl rfl))) (aO (aB 1) aG)))) (eG (cZ (cF (cT rfl bD rfl dY jH (Or.inr (Or.inr (Or.inl rfl))) (aO (aB 1) aG)))))))) (aK (bB dB) aM) aM) (aK (bX (QW.pt (cY (bW (Yh hr.u100) (aO (aB 1) aG) (aB 2) (hm:=by with_unfolding_all rfl)) (cY (bW (Yh hr.u100) (aO (aB 1) aG) (aB 2) (hm:=by with_unfolding_all rfl)) (cY (bW (dF hr.u100) (aO (aB 1) aG) (aO (aB 1) aG)) (eG (cZ (cF (cT rfl bD rfl bK dN (Or.inr (Or.inr (Or.inr (Or.inl rfl)))) (aO (aB 1) aG))))))))) (aK (bB dB) aM) aM) (aK (bG 3 nd (aT lC (hr.mono (by decide)) lD iM.kp lF rfl (aD (cL (aD (Cl hr.u100 (aB 2) (aO (aB 1) aG)) (aD (Cl hr.u100 (aB 2) (aO (aB 1) aG)) aJ))) aJ))) (aK (kB PassesOwn.never rfl (gZ (aO (aB 1) aG)) (cX 4 nd) (aK (bX (QW.pt (cY (cZ (cF (cT rfl bD rfl dY jH (Or.inr (Or.inr (Or.inl rfl))) (aB 4)))) (eG (bW Ar (aB 4) (aB 3) (hm:=by with_unfolding_all rfl))))) (aK (bB dB) aM) aM) (aK (bG 3 nd (Sj (aB 3) (dM (aS bR (Sa (aB 3) (aB 4)) aG)) dS)) aM))) (aK (bB (eM fT (cC cO rfl aX cS (aD (aO (aB 1) aG) aJ)) aG)) aM))))))) vc
theorem RK{uC:Addr}{wR:FuncData}(sI:Fu9 K "_law_is_gap_saying" rA uC wR){tU:Addr}{uR:FuncData}(mD:Fu9 K "_law_is_end" pM tU uR)(Cj:Binds K uR sQ [])(Fy:mg "_law_is_end"=some (.ref tU))(Fx:FnOk P w K mg base aQ 2 tU uR sQ (LSp K 2 vF)){gH:Addr}{gI:FuncData}(fP:Fu9 K "_law_fraction" lG gH gI)(iQ:Binds K gI jV [])(iP:mg "_law_fraction"=some (.ref gH))(jD:FnOk P w K mg base aQ 1 gH gI jV (LSp K 2 hX))(aX:mg "len"=none)(bD:mg "isinstance"=none)(bK:mg "tuple"=none)(eV:mg "bool"=none)(eU:mg "int"=none)
  (vc:VcT qD yO Qm Ib):FnOk P w K mg base aQ 3 uC wR qD (LSp K 2 yO) :=
 cR (k:=2) sI O9 (body:=Qm) (fun _ _ _ _ _ _ hr=>have nd:=O9.nd;(aK (bX (QW.pt (cY (bW (gC hr.u100) (cC cO rfl aX cS (aD (aB 1) aJ)) aG) (cY (cZ (cF (aT Fx (hr.mono (by decide)) Fy mD.kp Cj rfl (aD (aB 0) (aD (aO (aB 1) aG) aJ))))) (eG (cZ (cF (aT Fx (hr.mono (by decide)) Fy mD.kp Cj rfl (aD (aB 0) (aD (aO (aB 1) aG) aJ))))))))) (aK (bB dB) aM) aM) (aK (bX (QW.pt (cY (bW (dF hr.u100) (aO (aB 1) aG) (aO (aB 1) aG)) (cY (cZ (cF (cT rfl bD rfl bK dN (Or.inr (Or.inr (Or.inr (Or.inl rfl)))) (aO (aB 1) aG)))) (cY (bW (gC hr.u100) (cC cO rfl aX cS (aD (aO (aB 1) aG) aJ)) aG) (eG (cZ (cF (cT rfl bD rfl eV tI (Or.inr (Or.inl rfl)) (aO (aB 1) aG))))))))) (aK (bB dB) aM) aM) (aK (kB PassesOwn.never rfl (gZ (aO (aB 1) aG)) (cX 2 nd) (aK (bX (QW.pt (cY (cZ (cF (cT rfl bD rfl eU xN (Or.inl rfl) (aB 2)))) (eG (cF (cT rfl bD rfl eV tI (Or.inr (Or.inl rfl)) (aB 2)))))) (aK (bB dB) aM) aM) aM)) (aK (bB (gF (eM fT (aO (aO (aB 1) aG) aG) aG) (iO (eM (dF hr.u100) (aT jD (hr.mono (by decide)) iP fP.kp iQ rfl (aD (aO (aO (aB 1) aG) aG) (aD (aO (aO (aB 1) aG) aG) aJ))) (aO (aB 1) aG))))) aM))))) vc
theorem DQ{wH:Addr}{xG:FuncData}(pA:Fu9 K "_law_is_saying" oW wH xG){uE:Addr}{xA:FuncData}(sU:Fu9 K "_law_is_may_saying" pS uE xA)(Lj:Binds K xA sC [])(Rs:mg "_law_is_may_saying"=some (.ref uE))(Qf:FnOk P w K mg base aQ 2 uE xA sC (LSp K 2 zO)){uC:Addr}{wR:FuncData}(sI:Fu9 K "_law_is_gap_saying" rA uC wR)(Hh:Binds K wR qD [])(Qk:mg "_law_is_gap_saying"=some (.ref uC))(Js:FnOk P w K mg base aQ 3 uC wR qD (LSp K 2 yO))(bD:mg "isinstance"=none)(bK:mg "tuple"=none)(aX:mg "len"=none)(dY:mg "str"=none)
  (vc:VcT qN Ad Jv Lh):FnOk P w K mg base aQ 4 wH xG qN (LSp K 2 Ad) :=
 cR (k:=3) pA Ts (body:=Jv) (fun _ _ _ _ _ _ hr=>have nd:=Ts.nd;(aK (bX (QW.pt (cY (cZ (cF (cT rfl bD rfl bK dN (Or.inr (Or.inr (Or.inr (Or.inl rfl)))) (aB 1)))) (cY (bW (dF hr.u100) (cC cO rfl aX cS (aD (aB 1) aJ)) aG) (eG (cZ (cF (cT rfl bD rfl dY jH (Or.inr (Or.inr (Or.inl rfl))) (aO (aB 1) aG)))))))) (aK (bB dB) aM) aM) (aK (bX (bW (dF hr.u100) (aO (aB 1) aG) bH) (aK (bB (aT Qf (hr.mono (by decide)) Rs sU.kp Lj rfl (aD (aB 0) (aD (aB 1) aJ)))) aM) aM) (aK (bB (gF (eM (dF hr.u100) (aO (aB 1) aG) bH) (iO (aT Js (hr.mono (by decide)) Qk sI.kp Hh rfl (aD (aB 0) (aD (aB 1) aJ)))))) aM)))) vc
theorem RN{vY:Addr}{vJ:FuncData}(qP:Fu9 K "_law_bent_saying" sW vY vJ){cH:Addr}{cI:FuncData}(bJ:Fu9 K "_law_draw" fF cH cI)(bO:Binds K cI dW [])(bM:mg "_law_draw"=some (.ref cH))(bN:FnOk P w K mg base aQ 1 cH cI dW (LSp K 2 bS))(aX:mg "len"=none)(bD:mg "isinstance"=none)(bK:mg "tuple"=none)(gD:mg "list"=none)
  (vc:VcT pX xV Mm Jx):FnOk P w K mg base aQ 2 vY vJ pX (LSp K 3 xV) :=
 cR (k:=1) qP Vy (body:=Mm) (fun _ _ _ _ _ _ hr=>have nd:=Vy.nd;(aK (bG 3 nd (aT bN (hr.mono (by decide)) bM bJ.kp bO rfl (aD (aB 0) (aD (cC cO rfl aX cS (aD (aB 1) aJ)) aJ)))) (aK (bG 4 nd (aO (aB 1) (aB 3))) (aK (bG 5 nd (dL (aD (aB 2) (aD (tQ (cF (cT rfl bD rfl bK dN (Or.inr (Or.inr (Or.inr (Or.inl rfl)))) (aB 4))) (fX Aa rfl gD zZ (aD (aB 4) aJ)) (aB 4)) (aD (tQ (cF (cT rfl bD rfl bK dN (Or.inr (Or.inr (Or.inr (Or.inl rfl)))) (aB 4))) (eF (aB 4) dS (dM aG)) (aB 2)) aJ))))) (aK (bX (QW.pt (wY (cF (cT rfl bD rfl bK dN (Or.inr (Or.inr (Or.inr (Or.inl rfl)))) (aB 4))) (zY (bW fT (cC cO rfl aX cS (aD (aB 4) aJ)) aG)))) (aK (bG 6 nd (aT bN (hr.mono (by decide)) bM bJ.kp bO rfl (aD (aB 0) (aD (cC cO rfl aX cS (aD (aB 4) aJ)) aJ)))) (aK (bG 5 nd (aS bR (aB 5) (dL (aD (aS bR (aS bR (eF (aB 4) dS (dM (aB 6))) (cL (aD (aB 2) aJ))) (eF (aB 4) (dM (aS bR (aB 6) aG)) dS)) (aD (Rx (aB 4)) (aD (aS bR (aB 4) (eF (aB 4) (dM (xX aG)) dS)) (aD (aS bR (eF (aB 4) dS (dM (aB 6))) (eF (aB 4) (dM (aS bR (aB 6) aG)) dS)) aJ))))))) aM)) aM) (aK (bG 7 nd (aS bR (aS bR (eF (aB 1) dS (dM (aB 3))) (cL (aD (aO (aB 5) (aT bN (hr.mono (by decide)) bM bJ.kp bO rfl (aD (aB 0) (aD (cC cO rfl aX cS (aD (aB 5) aJ)) aJ)))) aJ))) (eF (aB 1) (dM (aS bR (aB 3) aG)) dS))) (aK (bG 8 nd (wX (aD (aS bR (eF (aB 1) dS (dM (aB 3))) (eF (aB 1) (dM (aS bR (aB 3) aG)) dS)) (aD (aS bR (aB 1) (cL (aD (aB 2) aJ))) (aD (fX Aa rfl gD zZ (aD (aB 1) aJ)) (aD Ab (aD (cL (aD bH aJ)) (aD (cL (aD bH aJ)) (aD (cL aJ) (aD bH aJ)))))))))) (aK (bX (bW (dF hr.u100) (aO (aB 1) aG) bH) (aK (sO (pV (aB 8) (cL (aD (aO (aB 1) aG) (aD (aO (aB 1) aG) (aD (aO (aB 1) aG) (aD (aO (aB 1) aG) aJ))))))) aM) aM) (aK (bB (aO (dL (aD (aB 7) (aD (aB 7) (aD (aB 7) (aD (aO (aB 8) (aT bN (hr.mono (by decide)) bM bJ.kp bO rfl (aD (aB 0) (aD (cC cO rfl aX cS (aD (aB 8) aJ)) aJ)))) aJ))))) (aT bN (hr.mono (by decide)) bM bJ.kp bO rfl (aD (aB 0) (aD aG aJ))))) aM))))))))) vc
theorem P8{uQ:Addr}{vA:FuncData}(nT:Fu9 K "_law_is_name" qV uQ vA)(bD:mg "isinstance"=none)(dY:mg "str"=none)(aX:mg "len"=none)
  (vc:VcT oR zV Ak Ha):FnOk P w K mg base aQ 1 uQ vA oR (LSp K 1 zV) :=
 cR (k:=0) nT D4 (body:=Ak) (fun _ _ _ _ _ _ hr=>have nd:=D4.nd;(aK (bX (QW.pt (cY (cZ (cF (cT rfl bD rfl dY jH (Or.inr (Or.inr (Or.inl rfl))) (aB 0)))) (eG (cZ (Fb lY lY aG (cC cO rfl aX cS (aD (aB 0) aJ)) aG))))) (aK (bB dB) aM) aM) (aK (bB (eM Ar dB (jQ ["_law_sign"] [none] rfl (Wt (aB 0)) (fun cl C s2 H2 pins fp=>(cX 0 x6)) (fun cl C s2 H2 pins fp=>fR) (fun cl C s2 H2 pins fp=>(eM G1 (aB 0) bH (hm:=by with_unfolding_all rfl)))) (hm:=by with_unfolding_all rfl))) aM))) vc
theorem LR{uA:Addr}{vP:FuncData}(rK:Fu9 K "_law_is_things" qK uA vP){uQ:Addr}{vA:FuncData}(nT:Fu9 K "_law_is_name" qV uQ vA)(Qc:Binds K vA oR [])(Gu:mg "_law_is_name"=some (.ref uQ))(Qh:FnOk P w K mg base aQ 1 uQ vA oR (LSp K 1 zV))(bD:mg "isinstance"=none)(bK:mg "tuple"=none)(aX:mg "len"=none)(dY:mg "str"=none)
  (vc:VcT rZ zB yP Hi):FnOk P w K mg base aQ 2 uA vP rZ (LSp K 1 zB) :=
 cR (k:=1) rK G3 (body:=yP) (fun _ _ _ _ _ _ hr=>have nd:=G3.nd;(aK (bX (QW.pt (cY (cZ (cF (cT rfl bD rfl bK dN (Or.inr (Or.inr (Or.inr (Or.inl rfl)))) (aB 0)))) (eG (cZ (Fb lY lY aG (cC cO rfl aX cS (aD (aB 0) aJ)) aG))))) (aK (bB dB) aM) aM) (aK (bG 1 nd bH) (aK (kB PassesOwn.never rfl (gZ (aB 0)) (cX 2 nd) (aK (bX (QW.pt (cY (cZ (cF (cT rfl bD rfl bK dN (Or.inr (Or.inr (Or.inr (Or.inl rfl)))) (aB 2)))) (cY (bW (gC hr.u100) (cC cO rfl aX cS (aD (aB 2) aJ)) aG) (cY (cZ (cF (aT Qh (hr.mono (by decide)) Gu nT.kp Qc rfl (aD (aO (aB 2) aG) aJ)))) (eG (bW NI (aO (aB 2) aG) (aB 1))))))) (aK (bB dB) aM) aM) (aK (bX (QW.pt (cY (cZ (cF (cT rfl bD rfl dY jH (Or.inr (Or.inr (Or.inl rfl))) (aO (aB 2) aG)))) (eG (bW Ar (aO (aB 2) aG) (dL (aD bH (aD bH aJ))) (hm:=by with_unfolding_all rfl))))) (aK (bB dB) aM) aM) (aK (bG 1 nd (aO (aB 2) aG)) aM)))) (aK (bB dB) aM))))) vc
theorem Z7{wV:Addr}{tX:FuncData}(qR:Fu9 K "_law_is_any_talk" rV wV tX){uA:Addr}{vP:FuncData}(rK:Fu9 K "_law_is_things" qK uA vP)(Jd:Binds K vP rZ [])(Qw:mg "_law_is_things"=some (.ref uA))(Ll:FnOk P w K mg base aQ 2 uA vP rZ (LSp K 1 zB)){wH:Addr}{xG:FuncData}(pA:Fu9 K "_law_is_saying" oW wH xG)(Kd:Binds K xG qN [])(Rm:mg "_law_is_saying"=some (.ref wH))(Ma:FnOk P w K mg base aQ 4 wH xG qN (LSp K 2 Ad))(bD:mg "isinstance"=none)(bK:mg "tuple"=none)(aX:mg "len"=none)
  (vc:VcT oO zD Hz On):FnOk P w K mg base aQ 5 wV tX oO (LSp K 1 zD) :=
 cR (k:=4) qR A9 (body:=Hz) (fun _ _ _ _ _ _ hr=>have nd:=A9.nd;(aK (bX (QW.pt (cY (cZ (cF (cT rfl bD rfl bK dN (Or.inr (Or.inr (Or.inr (Or.inl rfl)))) (aB 0)))) (cY (bW (gC hr.u100) (cC cO rfl aX cS (aD (aB 0) aJ)) aG) (eG (cZ (cF (aT Ll (hr.mono (by decide)) Qw rK.kp Jd rfl (aD (aO (aB 0) aG) aJ)))))))) (aK (bB dB) aM) aM) (aK (bX (cZ (cF (cT rfl bD rfl bK dN (Or.inr (Or.inr (Or.inr (Or.inl rfl)))) (aO (aB 0) aG)))) (aK (bB dB) aM) aM) (aK (bB (gF (eM lY (cC cO rfl aX cS (aD (aO (aB 0) aG) aJ)) aG) (iO (eM Ar dB (jQ ["_law_one","_law_thing"] [none,some 0] rfl (gZ (aO (aB 0) aG)) (fun cl C s2 H2 pins fp=>(cX 0 FQ)) (fun cl C s2 H2 pins fp=>fR) (fun cl C s2 H2 pins fp=>(aT Ma (hr.mono (by decide)) Rm pA.kp Kd rfl (aD (aO (aB 1) aG) (aD (aB 0) aJ))))) (hm:=by with_unfolding_all rfl))))) aM)))) vc
theorem xW{j:Nat}{mF:Addr}{nB:FuncData}(iY:Fu9 K "_law_spoilt" jZ mF nB){cH:Addr}{cI:FuncData}(bJ:Fu9 K "_law_draw" fF cH cI)(bO:Binds K cI dW [])(bM:mg "_law_draw"=some (.ref cH))(bN:FnOk P w K mg base aQ 1 cH cI dW (LSp K 2 bS))(kN:Binds K nB fU [])(kM:mg "_law_spoilt"=some (.ref mF))(Ac:FnOk P w K mg base aQ (j+2) mF nB fU (LSp K 2 (hZ j)))(bD:mg "isinstance"=none)(bK:mg "tuple"=none)(dY:mg "str"=none)(aX:mg "len"=none)(gD:mg "list"=none)(eV:mg "bool"=none)(eU:mg "int"=none)
  (vc:VcT fU (hZ (j+1)) (mB j) mL):FnOk P w K mg base aQ (j+2+1) mF nB fU (LSp K 2 (hZ (j+1))) :=
 cR (k:=j+2) iY Us (body:=(mB j)) (fun _ _ _ _ _ _ hr=>have nd:=Us.nd;(aK (bG 2 nd (tQ (cF (MP rfl bD rfl bK dN (Or.inr (Or.inr (Or.inr (Or.inl rfl)))) rfl dY jH (Or.inr (Or.inr (Or.inl rfl))) (aB 1))) (aT bN (hr.mono (by omega)) bM bJ.kp bO rfl (aD (aB 0) (aD (aS bR (cC cO rfl aX cS (aD (aB 1) aJ)) aG) aJ))) aG)) (aK (bX (QW.pt (wY (cF (cT rfl bD rfl bK dN (Or.inr (Or.inr (Or.inr (Or.inl rfl)))) (aB 1))) (wY (bW yW (aB 2) (cC cO rfl aX cS (aD (aB 1) aJ))) (zY (bW fT (aT bN (hr.mono (by omega)) bM bJ.kp bO rfl (aD (aB 0) (aD aG aJ))) aG))))) (aK (bB (aS bR (aS bR (eF (aB 1) dS (dM (aB 2))) (cL (aD (aT Ac (hr.mono (by omega)) kM iY.kp kN rfl (aD (aB 0) (aD (aO (aB 1) (aB 2)) aJ))) aJ))) (eF (aB 1) (dM (aS bR (aB 2) aG)) dS))) aM) aM) (aK (bX (cF (cT rfl bD rfl bK dN (Or.inr (Or.inr (Or.inr (Or.inl rfl)))) (aB 1))) (aK (bG 3 nd (dL (aD (fX Aa rfl gD zZ (aD (aB 1) aJ)) (aD (aS bR (eF (aB 1) dS (dM (aB 2))) (eF (aB 1) (dM (aS bR (aB 2) aG)) dS)) (aD (aS bR (aS bR (eF (aB 1) dS (dM (aB 2))) (eF (aB 1) (dM (aB 2)) (dM (aS bR (aB 2) aG)))) (eF (aB 1) (dM (aB 2)) dS)) (aD (Rx (aB 1)) aJ)))))) (aK (bB (aO (aS bR (aB 3) (dL (aD (aS bR (aB 1) (cL (aD aG aJ))) aJ))) (aT bN (hr.mono (by omega)) bM bJ.kp bO rfl (aD (aB 0) (aD aG aJ))))) aM)) aM) (aK (bX (cF (cT rfl bD rfl dY jH (Or.inr (Or.inr (Or.inl rfl))) (aB 1))) (aK (bG 4 nd (aO bH (aT bN (hr.mono (by omega)) bM bJ.kp bO rfl (aD (aB 0) (aD aG aJ))))) (aK (bG 3 nd (dL (aD (aS bR (aS bR (eF (aB 1) dS (dM (aB 2))) (aB 4)) (eF (aB 1) (dM (aS bR (aB 2) aG)) dS)) (aD (aS bR (aS bR (eF (aB 1) dS (dM (aB 2))) (aB 4)) (eF (aB 1) (dM (aB 2)) dS)) (aD (aS bR (eF (aB 1) dS (dM (aB 2))) (eF (aB 1) (dM (aS bR (aB 2) aG)) dS)) aJ))))) (aK (bB (aO (aS bR (aB 3) (dL (aD (cL (aD (aB 1) aJ)) aJ))) (aT bN (hr.mono (by omega)) bM bJ.kp bO rfl (aD (aB 0) (aD aG aJ))))) aM))) aM) (aK (bX (cF (cT rfl bD rfl eV tI (Or.inr (Or.inl rfl)) (aB 1))) (aK (bB (aO (dL (aD (fX Mh rfl eU xN (aD (aB 1) aJ)) (aD (G7 (aB 1)) (aD Ab aJ)))) (aT bN (hr.mono (by omega)) bM bJ.kp bO rfl (aD (aB 0) (aD aG aJ))))) aM) aM) (aK (bB (aO (dL (aD (aS bR (aB 1) aG) (aD (aS iS (aB 1) aG) (aD (aS iS aG (aB 1)) (aD (eM (dF hr.u100) (aB 1) aG) (aD (fX JZ rfl dY jH (aD (aB 1) aJ)) (aD (dL (aD (aB 1) aJ)) aJ))))))) (aT bN (hr.mono (by omega)) bM bJ.kp bO rfl (aD (aB 0) (aD aG aJ))))) aM))))))) vc
theorem VO{Uy:Addr}{Um:FuncData}(Ig:Fu9 K "law" lQ Uy Um){tH:Addr}{wS:FuncData}(rL:Fu9 K "_law_feed" pG tH wS)(Jn:Binds K wS rQ [])(Og:mg "_law_feed"=some (.ref tH))(Nw:FnOk P w K mg base aQ 1 tH wS rQ (LSp K 2 yF)){wA:Addr}{tM:FuncData}(oD:Fu9 K "_law_things" pE wA tM)(My:Binds K tM rW [])(Gr:mg "_law_things"=some (.ref wA))(Nx:FnOk P w K mg base aQ 3 wA tM rW (LSp K 2 Ah)){wZ:Addr}{uT:FuncData}(oA:Fu9 K "_law_talk" nX wZ uT)(Gz:Binds K uT sF [])(Jz:mg "_law_talk"=some (.ref wZ))(Ki:FnOk P w K mg base aQ 4 wZ uT sF (LSp K 4 Au)){cH:Addr}{cI:FuncData}(bJ:Fu9 K "_law_draw" fF cH cI)(bO:Binds K cI dW [])(bM:mg "_law_draw"=some (.ref cH))(bN:FnOk P w K mg base aQ 1 cH cI dW (LSp K 2 bS)){uU:Addr}{wJ:FuncData}(sX:Fu9 K "_law_telling" pP uU wJ)(Jo:Binds K wJ qO [])(Jq:mg "_law_telling"=some (.ref uU))(Mr:FnOk P w K mg base aQ 3 uU wJ qO (LSp K 2 zA)){vY:Addr}{vJ:FuncData}(qP:Fu9 K "_law_bent_saying" sW vY vJ)(Pw:Binds K vJ pX [])(Qr:mg "_law_bent_saying"=some (.ref vY))(Mj:FnOk P w K mg base aQ 2 vY vJ pX (LSp K 3 xV)){wN:Addr}{tN:FuncData}(sV:Fu9 K "is_talk" pC wN tN)(Ka:Binds K tN nP [])(Hq:mg "is_talk"=some (.ref wN))(Gy:FnOk P w K mg base aQ 5 wN tN nP (LSp K 1 vG)){wV:Addr}{tX:FuncData}(qR:Fu9 K "_law_is_any_talk" rV wV tX)(Rc:Binds K tX oO [])(Py:mg "_law_is_any_talk"=some (.ref wV))(Pm:FnOk P w K mg base aQ 5 wV tX oO (LSp K 1 zD)){mF:Addr}{nB:FuncData}(iY:Fu9 K "_law_spoilt" jZ mF nB)(kN:Binds K nB fU [])(kM:mg "_law_spoilt"=some (.ref mF))(Ac:FnOk P w K mg base aQ 7 mF nB fU (LSp K 2 (hZ 5)))(gD:mg "list"=none)(aX:mg "len"=none)(eK:mg "range"=none)(Fh:mg "repr"=none)
  (vc:VcT Br tW Gi Lb):FnOk P w K mg base aQ 8 Uy Um Br (LSp K 1 tW) :=
 cR (k:=7) Ig O3 (body:=Gi) (fun _ _ _ _ _ _ hr=>have nd:=O3.nd;(aK (kB PassesOwn.never rfl (iZ rfl eK aG) (cX 1 nd) (aK (bG 2 nd (aT Nw (hr.mono (by decide)) Og rL.kp Jn rfl (aD (aB 0) (aD (aB 1) aJ)))) (aK (bG 3 nd (aT Nx (hr.mono (by decide)) Gr oD.kp My rfl (aD (aB 2) (aD aG aJ)))) (aK (bG 4 nd (aO (aT Ki (hr.mono (by decide)) Jz oA.kp Gz rfl (aD (aB 2) (aD (aB 3) (aD (aT Mr (hr.mono (by decide)) Jq sX.kp Jo rfl (aD (aB 2) (aD (aB 3) aJ))) (aD (aO (dL (aD aG (aD aG (aD aG aJ)))) (aT bN (hr.mono (by decide)) bM bJ.kp bO rfl (aD (aB 2) (aD aG aJ)))) aJ))))) aG)) (aK (bG 5 nd (wX (aD (cL (aD (aB 3) (aD (aB 4) aJ))) (aD (dL (aD (aB 3) (aD (aB 4) aJ))) (aD (cL (aD (aB 3) (aD (fX Aa rfl gD zZ (aD (aB 4) aJ)) aJ))) (aD (cL (aD (aB 3) aJ)) (aD (cL (aD (aB 4) (aD (aB 3) aJ))) (aD Ab aJ)))))))) (aK (bG 5 nd (aS W7 (aB 5) (dL (aD (cL (aD (aB 3) (aD (cL aJ) aJ))) (aD (cL (aD (fX Aa rfl gD zZ (aD (aB 3) aJ)) (aD (aB 4) aJ))) (aD (cL (aD (eF (aB 3) dS (dM aG)) (aD (aB 4) aJ))) aJ)))))) (aK (sO (pV (aB 5) (cL (aD (aB 3) (aD (eF (aS IB (aB 4) aG) dS (dM (aS bR aG (aT bN (hr.mono (by decide)) bM bJ.kp bO rfl (aD (aB 2) (aD aG aJ)))))) aJ))))) (aK (kB PassesOwn.never rfl (iZ rfl eK aG) (cX 6 nd) (aK (bG 7 nd (dL (aD aG (aD aG (aD aG (aD dB (aD dB (aD Ab (aD bH (aD (aO (aO (aB 3) aG) aG) (aD bH (aD bH (aD (cL (aD aG (aD aG aJ))) (aD (cL (aD aG (aD aG aJ))) (aD (xX aG) (aD (dL aJ) (aD (dL (aD bH aJ)) aJ))))))))))))))))) (aK (bG 7 nd (aO (aB 7) (aT bN (hr.mono (by decide)) bM bJ.kp bO rfl (aD (aB 2) (aD aG aJ))))) (aK (bX (bW fT (cC cO rfl aX cS (aD (aB 4) aJ)) aG) (aK (bG 8 nd (aT bN (hr.mono (by decide)) bM bJ.kp bO rfl (aD (aB 2) (aD (cC cO rfl aX cS (aD (aB 4) aJ)) aJ)))) (aK (sO (pV (aB 5) (cL (aD (aB 3) (aD (aS bR (aS bR (eF (aB 4) dS (dM (aB 8))) (cL (aD (aT Mj (hr.mono (by decide)) Qr qP.kp Pw rfl (aD (aB 2) (aD (aO (aB 4) (aB 8)) (aD (aB 7) aJ)))) aJ))) (eF (aB 4) (dM (aS bR (aB 8) aG)) dS)) aJ))))) aM)) aM) aM)))) (aK (kB PassesOwn.never rfl (gZ (aS bR (aB 5) (jQ ["_law_j","_law_feed_here","_law_things_here","_law_sayings"] [none,some 2,some 3,some 4] rfl (iZ rfl eK aG) (fun cl C s2 H2 pins fp=>(cX 0 VM)) (fun cl C s2 H2 pins fp=>fR) (fun cl C s2 H2 pins fp=>(aT Ac (hr.mono (by decide)) kM iY.kp kN rfl (aD (aB 1) (aD (cL (aD (aB 2) (aD (aB 3) aJ))) aJ))))))) (cX 9 nd) (aK (bX (bW (gC hr.u100) (cC (N7 hr.u200 hr.gd) rfl Fh Xr (aD (aT Gy (hr.mono (by decide)) Hq sV.kp Ka rfl (aD (aB 9) aJ)) aJ)) (cC (N7 hr.u200 hr.gd) rfl Fh Xr (aD (aT Pm (hr.mono (by decide)) Py qR.kp Rc rfl (aD (aB 9) aJ)) aJ))) (aK (bB dB) aM) aM) aM)) aM))))))))) (aK (bB dB) aM))) vc
end
abbrev EN(R:DK):Ends2:={nx:=fun _ m=>R (.dat .none) m,rt:=R}
abbrev VcE(p:List Str)(q:DC)(b:DS)(N:List Str):Prop:=∀ ds m R,ds.length=p.length->q ds m R->b (EN R) (aW N ds) m
theorem sz{n:Nat}(h:n<=1000):n<=sizeLine:=Nat.le_trans h (by rw[sizeLine_eq];decide)
theorem Dn{m:Mu}{a:Addr}{x y z w:Int}:Feeds (cK m a (.l [.int x,.int y,.int z,.int w])) a:=⟨_,eI,x,y,z,w,rfl⟩
theorem R6{ns:List Int}{i:Int}(h0:0<=i)(h:i<(ns.length:Int)):∃ v:Int,cA (ns.map PyData.int) i=some (.int v):=by
 obtain⟨k,rfl⟩:∃ k:Nat,i=k:=⟨i.toNat,by omega⟩
 have hk:k<ns.length:=by omega
 exact⟨ns[k],iF (by rw[List.getElem?_map,List.getElem?_eq_getElem hk]<;>rfl)⟩
theorem QM:VcT rQ yF yR Gw:=by
 rintro ds m R hl ⟨ns,k,rfl,hn,h0,h1,h⟩
 by_cases hz:ns.length=0
 ·have e:ns=[]:=List.length_eq_zero_iff.mp hz
  subst e;simp[Of,Pc,yR,PyData.eqv,PyData.canLay0,PyData.depth];exact⟨sz (by decide),fun a _=>h a _ Dn⟩
 ·have hz':¬ ((ns.length:Int)=0):=by omega
  have hp:(0:Int)<ns.length:=by omega
  obtain⟨v,hv⟩:=R6 (ns:=ns) (i:=k.fmod ns.length) (Int.fmod_nonneg_of_pos _ hp) (Int.fmod_lt_of_pos _ hp);simp[Of,Pc,yR,PyData.eqv,PyData.canLay0,PyData.depth,hz',hz];refine⟨_,hv,?_⟩;simp;exact⟨sz (by decide),fun a _=>h a _ Dn⟩
theorem tY{i j:Int}(h:Bd 64 i):IntMulOk i j:=IntMulOk.of_left (intBits_le_iff.mpr h)
theorem Dk{x p:Int}(h:0<p)(hp:p<=2147483629):Bd 31 (x.fmod p):=by
 have h1:=Int.fmod_lt_of_pos x h
 have h2:=Int.fmod_nonneg_of_pos x h
 unfold Bd;have e:(2:Nat)^31=2147483648:=by decide
 omega
set_option exponentiation.threshold 3000 in
theorem nC{i:Int}{n:Nat}(h:i.natAbs<2^n:=by decide):Bd n i:=h
theorem V5:VcT jV hX Cn Li:=by
 rintro ds m R hl ⟨t,b,rfl,h0,hb,h⟩;have g0:=Kf (t:=t) (b:=b) (by omega)
 have gb:Bd 2000 ((t.gcd b:Nat):Int):=by
  have:=Int.gcd_le_natAbs_right t (b:=b) (by omega)
  unfold Bd at *;omega
 have gl:=gb.log (by decide)
 simp[Ta,G6,B9,Xp,Ty,E7,Cn];refine⟨fun n d m'=>m'=m/\∃ (x y:Int) (z:Option D),d=[some (I t),some (I b),some (I x),some (I y),z]/\n=y.natAbs/\0<=y/\0<=x/\Int.gcd x y=Int.gcd t b,⟨_,rfl,b,(if t<0 then -t else t),none,rfl,rfl,by split<;>omega,by omega,?_⟩,?_⟩
 ·rw[Int.gcd_comm]
  split
  ·rw[Int.neg_gcd]
  ·rfl
 rintro n d m' ⟨rfl,x,y,z,rfl,rfl,hy0,hx0,hg⟩
 by_cases hy:y=0
 ·subst hy;rw[Int.gcd_zero_right]at hg;have ex:x=((t.gcd b:Nat):Int):=by rw[<- hg];omega
  subst ex;simp;refine⟨fun _=>by omega,Nat.lt_of_lt_of_le (by simpa using gl) (show 2000<=9000 by decide),fun _=>by omega,Nat.lt_of_lt_of_le (by simpa using gl) (show 2000<=9000 by decide),sz (by decide),?_⟩
  rw[Int.fdiv_eq_ediv_of_nonneg _ (by omega),Int.fdiv_eq_ediv_of_nonneg _ (by omega)]
  exact h
 ·have hp:0<y:=by omega
  simp[hy,hp];refine⟨fun d' m''=>m''=m'/\d'=[some (I t),some (I b),some (I y),some (I (x.fmod y)),some (I (x.fmod y))],?_,by simp⟩
  rintro d' m'' ⟨rfl,rfl⟩;exact⟨_,Vt x y hy,rfl,y,x.fmod y,⟨_,rfl⟩,rfl,Int.fmod_nonneg_of_pos _ hp,hy0,by rw[Yi];exact hg⟩
theorem Qd{g:DG}{b:DS}{E:Ends2}(J:bZ->Mu->Prop)(hd:∀ d m,J d m->E.nx d m):∀ (xs:List D),
  (∀ x∈xs,∀ (k:bZ->Mu->Prop),(∀ d m,J d m->k d m)->∀ d m,J d m->g x d m fun d' m'=>b {E with nx:=k,ct:=k,bk:=E.nx} d' m')->∀ d m,J d m->eP g b E xs d m
 | [],_,d,m,h=>hd d m h
 | x::xs,step,d,m,h=>step x List.mem_cons_self _ (Qd J hd xs fun y hy=>step y (List.mem_cons_of_mem _ hy)) d m h
theorem oC{xs:List PyData}{P:PyData->Prop}{r:Int}(h:∀ p∈xs,P p)(h0:0<=r)(h1:r<(xs.length:Int)):∃ p,cA xs r=some p/\P p:=by
 obtain⟨k,rfl⟩:∃ k:Nat,r=k:=⟨r.toNat,by omega⟩
 have hk:k<xs.length:=by omega
 exact⟨xs[k],iF (List.getElem?_eq_getElem hk),h _ (List.getElem_mem hk)⟩
theorem Ag{g:DG}{t:DT}{f:DE}{Q:List PyData->Mu->Prop}(J:List D->List PyData->bZ->Mu->Prop)(fin:∀ acc d m,J [] acc d m->Q acc m)
  (step:∀ x xs acc d m (k:List PyData->bZ->Mu->Prop),J (x::xs) acc d m->(∀ acc' d' m',J xs acc' d' m'->k acc' d' m')->g x d m fun d1 m1=>t d1 m1 fun b m2=>if b=true then f d1 m2 fun y m3=>∃ p,y=.dat p/\acc.length<sizeLine/\k (acc++[p]) d1 m3 else k acc d1 m2) :
  ∀ xs acc d m,J xs acc d m->eJ g t f xs acc d m Q
 | [],acc,d,m,h=>fin acc d m h
 | x::xs,acc,d,m,h=>step x xs acc d m (fun acc' d' m'=>eJ g t f xs acc' d' m' Q) h (Ag J fin step xs)
theorem Kp.refl{a:Addr}{m:Mu}:Kp a m m:=fun _ _ _=>rfl
theorem Kp.trans{a:Addr}{m m1 m2:Mu}(h:Kp a m m1)(g:Kp a m1 m2):Kp a m m2:=fun c h1 h2=>by
 have e:=h c h1 h2
 rw[g c h1 (by rw[e];exact h2),e]
theorem Kp.upd{a:Addr}{m:Mu}{x:Cel}:Kp a m (cK m a x):=fun c h1 _=>eR h1
theorem GD:VcT dW bS Fq Md:=by
 rintro ds m R hl ⟨a,n,rfl,h0,hb,⟨xs,hm,f0,f1,f2,f3,rfl⟩,h⟩;simp[C7,Zz,A3,C6,Uu,Ux,C2,Yy,Fq,cA,fG,hm,eI,Jf,and_assoc]
 by_cases hf:f0<=0
 ·left
  refine⟨hf,tY nC,tY nC,(Dk (by decide) (by decide)).mulOk (Dk (by decide) (by decide)) (by decide),tY nC,(Dk (by decide) (by decide)).mulOk (Dk (by decide) (by decide)) (by decide),tY nC,by omega,?_⟩
  exact h _ _ (Int.fmod_nonneg_of_pos _ h0) (Int.fmod_lt_of_pos _ h0) Dn .upd
 ·right
  refine⟨by omega,by omega,Nat.lt_of_lt_of_le (hb.log (by decide)) (by decide),?_⟩
  exact h _ _ (Int.fmod_nonneg_of_pos _ h0) (Int.fmod_lt_of_pos _ h0) Dn .upd
theorem dG{a:Addr}{n:Int}{m:Mu}{R:DK}(h0:0<n)(hb:n<1000000)(hf:Feeds m a)(h:∀ (r:Int) m',0<=r->r<n->Feeds m' a->Kp a m m'->R (I r) m'):bS [.cel a,I n] m R:=by
 refine⟨a,n,rfl,h0,?_,hf,h⟩;refine Bd.mono (m:=20) ?_ (by decide)
 unfold Bd;have e:(2:Nat)^20=1048576:=by decide
 omega
theorem fO{a:Addr}{n:Int}{m:Mu}{R:DK}(h0:0<n)(hb:n<1000000)(hf:Feeds m a)(h:∀ (r:Int) m',0<=r->r<n->Feeds m' a->R (I r) m'):bS [.cel a,I n] m R :=
 dG h0 hb hf fun r m' h1 h2 h3 _=>h r m' h1 h2 h3
theorem OT:VcE rB jU Bg Lz:=by
 rintro ds m R hl ⟨⟨a,b⟩,⟨c,d⟩,rfl,b1,b2,b3,b4,h⟩;simp[Bg,Wd,cA,fG,and_assoc];refine⟨b1.mulOk b4 (by decide),b3.mulOk b2 (by decide),?_⟩
 simpa[fZ,wC] using h
@[simp] theorem XO:PyData.strOk (Str.ofString "point")=true:=by decide +kernel
@[simp] theorem XR:PyData.strOk (Str.ofString "stretch")=true:=by decide +kernel
@[simp] theorem hV(x:PyData)(xs:List PyData):cA (x::xs) 0=some x:=by simp[cA,fG]
@[simp] theorem jT(x y:PyData)(xs:List PyData):cA (x::y::xs) 1=some y:=by
 have:(1:Int)<xs.length+1+1:=by omega
 simp[cA,fG,this]
theorem OE(i j:Int)(hi:i=-1\/i=0\/i=1)(hj:j=-1\/j=0\/j=1):∃ xs,cA [PyData.tuple [.str "overlaps",.str "ended",.str "holds"],.tuple [.str "begins",.str "same",.str "begun"],.tuple [.str "within",.str "ends",.str "lapped"]] (1+i)=some (.tuple xs)/\cA xs (1+j)=some (.str (row i j)):=by
 rcases hi with rfl | rfl | rfl<;>rcases hj with rfl | rfl | rfl<;>exact⟨_,rfl,rfl⟩
theorem J3(x:Int):wC x=-1\/wC x=0\/wC x=1:=by
 unfold wC
 split<;>split<;>simp<;>omega
theorem uY{x y:Int×Int}{m:Mu}{R:DK}(h1:Bd 800 x.1/\Bd 800 x.2)(h2:Bd 800 y.1/\Bd 800 y.2)(h:R (I (fZ x y)) m):jU [.dat (fq x),.dat (fq y)] m R:=⟨x,y,rfl,h1.1.mono (by decide),h1.2.mono (by decide),h2.1.mono (by decide),h2.2.mono (by decide),h⟩
theorem P2{m:Mu}{R:DK}{x0 x1 z:Option D}{both:Bool}{a0 a1 b0 b1:Int×Int}(h1:Bd 800 a0.1/\Bd 800 a0.2)(h2:Bd 800 a1.1/\Bd 800 a1.2)(h3:Bd 800 b0.1/\Bd 800 b0.2)(h4:Bd 800 b1.1/\Bd 800 b1.2)
  (h:R (.dat (.str (wd both a0 a1 b0 b1))) m):Qs (EN R) [x0,x1,some (.dat (.bool both)),some (.dat (.tuple [fq a0,fq a1])),some (.dat (.tuple [fq b0,fq b1])),z] m:=by
 obtain⟨xs,r1,r2⟩:=OE (fZ a0 b0) (fZ a1 b1) (J3 _) (J3 _);unfold wd wc at h;simp[Qs];refine uY h2 h3 ?_
 by_cases c1:fZ a1 b0<0
 ·rw[if_pos c1]at h;simp[c1];exact h
 rw[if_neg c1]at h;simp[c1,Xb];refine uY h1 h4 ?_
 by_cases c2:0<fZ a0 b1
 ·rw[if_pos c2]at h;simp[c2];exact h
 rw[if_neg c2]at h;simp[c2,G0];have last:R (.dat (.str (row (fZ a0 b0) (fZ a1 b1)))) m->Ln (EN R) [x0,x1,some (.dat (.bool both)),some (.dat (.tuple [fq a0,fq a1])),some (.dat (.tuple [fq b0,fq b1])),z] m:=fun h=>by
  simp[Ln,Sh,sz];refine uY h1 h3 ⟨_,r1,?_⟩;exact uY h2 h4 ⟨_,r2,h⟩
 cases both with
 | false =>
  simp[Nk];exact last (by simpa using h)
 | true =>
  simp;refine uY h2 h3 ?_
  by_cases c3:fZ a1 b0=0
  ·rw[if_pos ⟨rfl,c3⟩]at h;simp[c3,PyData.eqv,PyData.canLay0,PyData.depth];exact h
  rw[if_neg (fun q=>c3 q.2)]at h;simp[c3,Nk,PyData.eqv,PyData.canLay0,PyData.depth];refine uY h1 h4 ?_
  by_cases c4:fZ a0 b1=0
  ·rw[if_pos ⟨rfl,c4⟩]at h;simp[c4,PyData.eqv,PyData.canLay0,PyData.depth];exact h
  rw[if_neg (fun q=>c4 q.2)]at h;simp[c4,PyData.eqv,PyData.canLay0,PyData.depth];exact last h
theorem bF{c:Bool}{a b:Prop}(e:c=true)(h:a):if c=true then a else b:=by rw[if_pos e];exact h
theorem bP{c:Bool}{a b:Prop}(e:c=false)(h:b):if c=true then a else b:=by rw[if_neg (by rw[e];decide)];exact h
theorem qJ{W}:bV (.tuple W) "tuple"=true:=by simp
theorem zT{W}:bV (.int W) "tuple"=false:=by simp
theorem z2:2<=sizeLine:=sz (by decide)
theorem NU:VcE qM yZ Rf Ox:=by
 rintro ds m R hl ⟨p,q,k,l,a0,a1,b0,b1,rfl,ha,hb,h⟩;have e1:=ha.eq
 have e2:=hb.eq
 subst e1 e2;have W:=fun x0 x1 z=>P2 (x0:=x0) (x1:=x1) (z:=z) (R:=R) (m:=m) (both:=k&&l) ⟨ha.b1,ha.b2⟩ ⟨ha.b3,ha.b4⟩ ⟨hb.b1,hb.b2⟩ ⟨hb.b3,hb.b4⟩ h
 cases k with
 | true =>
  cases l with
  | true =>
   repeat first | exact W _ _ _ | refine bF qJ ?_ | refine bP zT ?_ | refine⟨_,rfl,?_⟩ | refine⟨z2,?_⟩
  | false =>
   cases hb.pt rfl
   repeat first | exact W _ _ _ | refine bF qJ ?_ | refine bP zT ?_ | refine⟨_,rfl,?_⟩ | refine⟨z2,?_⟩
 | false =>
  cases ha.pt rfl
  cases l with
  | true =>
   repeat first | exact W _ _ _ | refine bF qJ ?_ | refine bP zT ?_ | refine⟨_,rfl,?_⟩ | refine⟨z2,?_⟩
  | false =>
   cases hb.pt rfl
   repeat first | exact W _ _ _ | refine bF qJ ?_ | refine bP zT ?_ | refine⟨_,rfl,?_⟩ | refine⟨z2,?_⟩
theorem Bf{t b:Int}(hb:0<b):∃ n d g:Int,fr t b=.tuple [.int n,.int d]/\0<g/\t=g*n/\b=g*d/\0<d:=by
 have g0:=Kf (t:=t) (b:=b) (by omega)
 have d1:((t.gcd b:Nat):Int)∣t:=Int.gcd_dvd_left ..
 have d2:((t.gcd b:Nat):Int)∣b:=Int.gcd_dvd_right ..
 exact⟨_,_,((t.gcd b:Nat):Int),rfl,g0,(Int.mul_ediv_cancel' d1).symm,(Int.mul_ediv_cancel' d2).symm,(BK g0 d2).mpr hb⟩
theorem mH{g n x:Int}(h:x=g*n)(hg:0<g)(h1:-2000000<=x)(h2:x<=2000000):Bd 800 n:=by
 refine Bd.mono (m:=60) ?_ (by decide)
 unfold Bd;have q:n.natAbs<=x.natAbs:=by
  rw[h,Int.natAbs_mul];exact Nat.le_mul_of_pos_left _ (by omega)
 have e:(2:Nat)^60=1152921504606846976:=by decide
 omega
theorem bx{g n x:Int}(h:x=g*n)(hg:0<g)(h1:-2000000<=x)(h2:x<=2000000):Bd 60 n:=by
 unfold Bd;have q:n.natAbs<=x.natAbs:=by
  rw[h,Int.natAbs_mul];exact Nat.le_mul_of_pos_left _ (by omega)
 have e:(2:Nat)^60=1152921504606846976:=by decide
 omega
theorem Nr{t b:Int}{m:Mu}{R:DK}(h0:0<b)(hb:b<=1000000)(h:R (.dat (fr t b)) m):hX [I t,I b] m R:=by
 refine⟨t,b,rfl,h0,?_,h⟩;refine Bd.mono (m:=20) ?_ (by decide)
 unfold Bd;have e:(2:Nat)^20=1048576:=by decide
 omega
theorem QR:VcE oY tT zP Pg:=by
 rintro ds m R hl ⟨a,k,base,jJ,bottom,rfl,m1,m2,s1,s2,t1,t2,hf,h⟩
 cases k with
 | false =>
  simp[zP,kd];refine fO (by omega) (by omega) hf fun q n1 q0 q1 hf1=>?_
  refine Nr (by omega) (by omega) ?_
  obtain⟨n,d,g,e,g0,e1,e2,d0⟩:=Bf (t:=base+q) (b:=bottom) (by omega)
  rw[e];exact h _ (n,d) (n,d) _ ⟨rfl,d0,d0,(fun z=>absurd z (by decide)),fun _=>rfl,mH e1 g0 (by omega) (by omega),mH e2 g0 (by omega) (by omega),mH e1 g0 (by omega) (by omega),mH e2 g0 (by omega) (by omega)⟩ ⟨bx e1 g0 (by omega) (by omega),bx e2 g0 (by omega) (by omega),bx e1 g0 (by omega) (by omega),bx e2 g0 (by omega) (by omega)⟩ hf1
 | true =>
  simp (decide:=true) [zP,kd,A1];refine fO (by omega) (by omega) hf fun f n1 f0 f1 hf1=>?_
  simp[Xe];refine fO (by omega) (by omega) hf1 fun q n2 q0 q1 hf2=>?_
  simp[N4];refine Nr (by omega) (by omega) ?_
  refine Nr (by omega) (by omega) ?_
  obtain⟨n,d,g,e,g0,e1,e2,d0⟩:=Bf (t:=base+f) (b:=bottom) (by omega)
  obtain⟨n',d',g',e',g0',e1',e2',d0'⟩:=Bf (t:=base+(f+1+q)) (b:=bottom) (by omega)
  rw[e,e'];simp[sz];refine h _ (n,d) (n',d') _ ⟨rfl,d0,d0',fun _=>?_,(fun z=>absurd z (by decide)),mH e1 g0 (by omega) (by omega),mH e2 g0 (by omega) (by omega),mH e1' g0' (by omega) (by omega),mH e2' g0' (by omega) (by omega)⟩ ⟨bx e1 g0 (by omega) (by omega),bx e2 g0 (by omega) (by omega),bx e1' g0' (by omega) (by omega),bx e2' g0' (by omega) (by omega)⟩ hf2
  show n*d'<n'*d
  have gg:0<g*g':=Int.mul_pos g0 g0'
  refine Int.lt_of_mul_lt_mul_left (a:=g*g') ?_ (Int.le_of_lt gg);have x1:g*g'*(n*d')=(base+f)*bottom:=by rw[e1,e2'];ac_rfl
  have x2:g*g'*(n'*d)=(base+(f+1+q))*bottom:=by rw[e1',e2];ac_rfl
  rw[x1,x2];exact Int.mul_lt_mul_of_pos_right (by omega) (by omega)
theorem CM{a:Addr}{k:Bool}{base jJ bottom:Int}{m:Mu}{R:DK}(m1:2<=jJ)(m2:jJ<=9)(s1:-1000<=base)(s2:base<=1000000)(t1:1<=bottom)(t2:bottom<=1000000)(hf:Feeds m a)
  (h:∀ p x y m',Tm p k x y->mN 60 p->Feeds m' a->R (.dat p) m'):tT [.cel a,.dat (.str (kd k)),I base,I jJ,I bottom] m R:=⟨a,k,base,jJ,bottom,rfl,m1,m2,s1,s2,t1,t2,hf,h⟩
theorem Tn{a b c d e f:Int}(hb:0<b)(hd:0<d)(hf:0<f)(h1:a*d<=c*b)(h2:c*f<e*d):a*f<e*b:=by
 refine Int.lt_of_mul_lt_mul_left (a:=d) ?_ (Int.le_of_lt hd);have x1:a*d*f<=c*b*f:=Int.mul_le_mul_of_nonneg_right h1 (Int.le_of_lt hf)
 have x2:c*f*b<e*d*b:=Int.mul_lt_mul_of_pos_right h2 hb
 have y1:d*(a*f)=a*d*f:=by ac_rfl
 have y2:d*(e*b)=e*d*b:=by ac_rfl
 have y3:c*b*f=c*f*b:=by ac_rfl
 omega
theorem Tm.le{p:PyData}{k:Bool}{x y:Int×Int}(h:Tm p k x y):x.1*y.2<=y.1*x.2:=by
 cases k with
 | true=>exact Int.le_of_lt (h.st rfl)
 | false=>rw[h.pt rfl];exact Int.le_refl _
theorem j7:VcE oV Ai Em Pe:=by
 rintro ds m R hl ⟨k,l,rfl,h⟩;unfold Em;simp only[aI,bA,Bm,aA,aE,aW];refine⟨_,rfl,[kd k,kd l],rfl,?_⟩
 cases k<;>cases l<;>exact h
theorem Ft(k l:Bool):∀ z∈WS k l,z∈sE:=by cases k<;>cases l<;>decide +kernel
def S3:List Int:=[-1,0,1]
theorem Dy(k l:Bool):1<=(WS k l).length/\(WS k l).length<=13:=by cases k<;>cases l<;>decide
theorem X2:VcE jI kA Fj Mn:=by
 rintro ds m R hl ⟨k,l,rfl,h⟩
 cases k<;>cases l<;>simp (decide:=true) [Fj,Vu,Tb,Ss,Ry,Yw,kd,PyData.eqv,PyData.eqvAll,PyData.canLay0,PyData.canLayAll0,PyData.depth,PyData.depthAll,cA,fG,and_assoc,sz]<;>exact h
theorem DY:VcE qW yY Ga Ho:=by
 rintro ds m R hl ⟨a,k,l,rfl,hf,h⟩;obtain⟨w1,w2⟩:=Dy k l;simp[Ga];refine⟨k,l,rfl,?_⟩;simp[P0];refine dG (by decide) (by decide) hf fun r m1 r0 r1 hf1 kp1=>?_
 simp[A0,cV];refine Ag (fun bC acc d m'=>(Feeds m' a/\Kp a m m')/\(∃ o,d=[o,some (.cel a),some (I (1+r))])/\∃ done todo sel,WS k l=done++todo/\bC=todo.map (fun z=>.dat (.str z))/\acc=sel.map .str/\List.Sublist sel done) ?_ ?_ _ _ _ _ ⟨⟨hf1,kp1⟩,⟨none,rfl⟩,[],WS k l,[],rfl,by simp,rfl,List.Sublist.refl _⟩
 ·rintro acc d m2 ⟨⟨hf2,kp2⟩,_,done,todo,sel,e1,e2,rfl,hs⟩;have e3:todo=[]:=by simpa using e2.symm
  subst e3;rw[List.append_nil]at e1;subst e1;simp[A8];refine dG (by decide) (by decide) hf2 fun way m3 _ _ hf3 kp3=>?_
  have kp3:=kp2.trans kp3
  have fin:∀ sel m',Feeds m' a->Kp a m m'->List.Sublist sel (WS k l)->Ii (EN R) [some (.cel a),some (.dat (lS k l)),some (.dat (.list ((WS k l).map .str))),some (I (1+r)),some (.dat (.list (sel.map .str))),some (I way)] m':=fun sel m' hf' kp' hs'=>by
   simp[Ii];exact h sel m' hs' hf' kp'
  simp[L6,Vb,PyData.eqv,PyData.canLay0,PyData.depth]
  by_cases c0:way=0
  ·right
   refine⟨c0,dG (by omega) (by omega) hf3 fun q m4 q0 q1 hf4 kp4=>?_⟩
   obtain⟨j,rfl⟩:∃ j:Nat,q=j:=⟨q.toNat,by omega⟩
   have hj:j<(WS k l).length:=by omega
   refine⟨.str (WS k l)[j],iF (by rw[List.getElem?_map,List.getElem?_eq_getElem hj];rfl),_,rfl,sz (by show 1<=1000;decide),.inl ⟨by omega,fin [(WS k l)[j]] m4 hf4 (kp3.trans kp4) (List.singleton_sublist.mpr (List.getElem_mem hj))⟩⟩
  ·left
   refine⟨c0,?_⟩
   by_cases c1:way=1
   ·exact .inr ⟨c1,fin [] m3 hf3 kp3 (List.nil_sublist _)⟩
   ·exact .inl ⟨c1,fin sel m3 hf3 kp3 hs⟩
 ·rintro x xs acc d m2 k2 ⟨⟨hf2,kp2⟩,⟨o,rfl⟩,done,todo,sel,e1,e2,rfl,hs⟩ hk
  cases todo with
  | nil=>simp at e2
  | cons z todo =>
   obtain⟨rfl,rfl⟩:=List.cons.inj e2;have e3:WS k l=(done++[z])++todo:=by rw[e1];simp
   have hsl:sel.length<14:=by
    have q1:=hs.length_le
    have q2:=congrArg List.length e1
    simp at q2;omega
   simp;refine dG (by omega) (by omega) hf2 fun q m3 _ _ hf3 kp3=>?_
   simp[PyData.eqv,PyData.canLay0,PyData.depth]
   by_cases c:q=0
   ·right
    refine⟨c,Nat.lt_of_lt_of_le hsl (sz (by decide)),hk _ _ _ ⟨⟨hf3,kp2.trans kp3⟩,⟨_,rfl⟩,done++[z],todo,sel++[z],e3,rfl,by simp,hs.append (List.Sublist.refl _)⟩⟩
   ·left
    exact⟨c,hk _ _ _ ⟨⟨hf3,kp2.trans kp3⟩,⟨_,rfl⟩,done++[z],todo,sel,e3,rfl,rfl,hs.trans (List.sublist_append_left _ _)⟩⟩
theorem TN{n i:Nat}(h:i<n):(eZ 0 n).drop i=I (i:Int)::(eZ 0 n).drop (i+1):=by
 have hl:i<(eZ 0 n).length:=by unfold eZ;simpa using h
 rw[List.drop_eq_getElem_cons hl]
 congr 1
 unfold eZ;simp
theorem qY{g:DG}{t:DT}{f:DE}{Q:List PyData->Mu->Prop}{n:Nat}(J:Nat->List PyData->bZ->Mu->Prop)(fin:∀ acc d m,J n acc d m->Q acc m)
  (step:∀ i acc d m (k:List PyData->bZ->Mu->Prop),i<n->J i acc d m->(∀ acc' d' m',J (i+1) acc' d' m'->k acc' d' m')->g (I (i:Int)) d m fun d1 m1=>t d1 m1 fun b m2=>if b=true then f d1 m2 fun y m3=>∃ p,y=.dat p/\acc.length<sizeLine/\k (acc++[p]) d1 m3 else k acc d1 m2) :
  ∀ acc d m,J 0 acc d m->eJ g t f (eZ 0 n) acc d m Q:=by
 intro acc d m h;refine Ag (fun bC acc d m=>∃ i,i<=n/\bC=(eZ 0 n).drop i/\J i acc d m) ?_ ?_ _ _ _ _ ⟨0,Nat.zero_le _,rfl,h⟩
 ·rintro acc d m ⟨i,hi,e,hj⟩;have:i=n:=by
   have:=congrArg List.length e
   unfold eZ at this;simp at this;omega
  subst this;exact fin _ _ _ hj
 ·rintro x xs acc d m k ⟨i,hi,e,hj⟩ hk;have hlt:i<n:=by
   have:=congrArg List.length e
   unfold eZ at this;simp at this;omega
  rw[TN hlt]at e;obtain⟨rfl,rfl⟩:=List.cons.inj e;exact step i acc d m k hlt hj fun acc' d' m' h'=>hk _ _ _ ⟨i+1,hlt,rfl,h'⟩
def Knds(n:Nat)(acc:List PyData):Prop:=∃ ks:List Bool,acc=ks.map (fun k=>.str (kd k))/\ks.length=n
theorem Knds.snoc{n:Nat}{acc:List PyData}{k:Bool}(h:Knds n acc):Knds (n+1) (acc++[.str (kd k)]):=by
 obtain⟨zs,rfl,hl⟩:=h;exact⟨zs++[k],by simp,by simp[hl]⟩
theorem Knds.len{n:Nat}{acc:List PyData}(h:Knds n acc):acc.length=n:=by
 obtain⟨zs,rfl,hl⟩:=h;simpa using hl
theorem P6{i:Int}(h0:0<=i)(h1:i<2):∃ b,cA [PyData.str "point",.str "stretch"] i=some (.str (kd b)):=by
 obtain rfl | rfl:i=0\/i=1:=by omega
 ·exact⟨false,rfl⟩
 ·exact⟨true,rfl⟩
theorem b7:VcE rH zG Gc He:=by
 rintro ds m R hl ⟨a,n,rfl,n1,n2,hf,h⟩;obtain⟨nn,rfl⟩:∃ nn:Nat,n=nn:=⟨n.toNat,by omega⟩
 have fin:∀ (ks:List Bool) m',ks.length=nn->Feeds m' a->Lg (EN R) [some (.cel a),some (I nn),some (.dat (.list (ks.map fun k=>.str (kd k))))] m':=fun ks m' hk hf'=>by
  simp[Lg];exact h ks m' (by omega) hf'
 simp[Gc,cV];refine⟨by omega,?_⟩
 refine qY (fun i acc d m'=>Feeds m' a/\(∃ o,d=[o,some (.cel a)])/\Knds i acc) ?_ ?_ _ _ _ ⟨hf,⟨none,rfl⟩,[],rfl,rfl⟩
 ·rintro acc d m1 ⟨hf1,_,ks,rfl,hk⟩;simp[C8];refine fO (by decide) (by decide) hf1 fun w m2 w0 w1 hf2=>?_
  simp[PyData.eqv,PyData.canLay0,PyData.depth,cV]
  by_cases c:w=0
  ·right
   refine⟨c,by omega,?_⟩
   refine qY (fun i acc d m'=>m'=m2/\(∃ o,d=[o])/\Knds i acc) ?_ ?_ _ _ _ ⟨rfl,⟨none,rfl⟩,[],rfl,rfl⟩
   ·rintro acc d m3 ⟨rfl,_,ks,rfl,hk⟩;exact fin ks _ hk hf2
   ·rintro i acc d m3 k hi ⟨rfl,⟨o,rfl⟩,ht⟩ hk';simp;exact⟨Nat.lt_of_lt_of_le (by rw[ht.len];omega) (sz (n:=100) (by decide)),hk' _ _ _ ⟨rfl,⟨_,rfl⟩,ht.snoc (k:=true)⟩⟩
  ·left
   exact⟨c,fin ks _ hk hf2⟩
 ·rintro i acc d m1 k hi ⟨hf1,⟨o,rfl⟩,ht⟩ hk;simp[sz];refine fO (by decide) (by decide) hf1 fun q m2 q0 q1 hf2=>?_
  obtain⟨b,e⟩:=P6 q0 q1;exact⟨_,e,_,rfl,Nat.lt_of_lt_of_le (by rw[ht.len];omega) (sz (n:=100) (by decide)),hk _ _ _ ⟨hf2,⟨_,rfl⟩,ht.snoc⟩⟩
theorem KF:VcE rW Ah Df Kx:=by
 rintro ds m R hl ⟨a,n,rfl,n1,n2,hf,h⟩;simp[Df];refine fO (by omega) (by omega) hf fun w m1 w0 w1 hf1=>?_
 refine⟨a,1+w,rfl,by omega,by omega,hf1,fun zs m2 hz hnm hf2=>?_⟩
 simp[Wy];refine⟨a,zs.length,rfl,by omega,by omega,hf2,fun ks m3 hk hf3=>?_⟩
 have hkl:ks.length=zs.length:=by omega
 simp[Zu,cV];refine⟨by omega,?_⟩
 refine qY (fun i acc d m'=>m'=m3/\(∃ o,d=[o,some (.dat (.list (zs.map .str))),some (.dat (.tuple (ks.map fun k=>.str (kd k))))])/\acc=((zs.zip ks).take i).map fun t=>.tuple [.str t.1,.str (kd t.2)]) ?_ ?_ _ _ _ ⟨rfl,⟨none,rfl⟩,rfl⟩
 ·rintro acc d m4 ⟨rfl,_,rfl⟩;rw[List.take_of_length_le (by rw[List.length_zip];omega)]
  exact h (zs.zip ks) _ (by rw[List.length_zip];omega) (by rw[List.map_fst_zip (by omega)];exact hnm) hf3
 ·rintro i acc d m4 k hi ⟨rfl,⟨o,rfl⟩,rfl⟩ hk';have e1:cA (zs.map PyData.str) (i:Int)=some (.str zs[i]):=iF (by rw[List.getElem?_map,List.getElem?_eq_getElem hi];rfl)
  have hi2:i<ks.length:=by omega
  have e2:cA (ks.map fun k=>PyData.str (kd k)) (i:Int)=some (.str (kd ks[i])):=iF (by rw[List.getElem?_map,List.getElem?_eq_getElem hi2];rfl)
  simp;refine⟨_,e1,_,e2,sz (by decide),Nat.lt_of_lt_of_le (by omega) (sz (n:=100) (by decide)),hk' _ _ _ ⟨rfl,⟨_,rfl⟩,?_⟩⟩
  rw[List.take_succ_eq_append_getElem (by rw[List.length_zip];omega)]
  simp
theorem TmAll.len:∀ {ts:List (Str×Bool)} {ps:List PyData},TmAll ts ps->ps.length=ts.length
 | [],[],_=>rfl
 | t::ts,p::ps,h=>by rw[List.length_cons,List.length_cons,TmAll.len h.2]
 | [],_::_,h=>h.elim
 | _::_,[],h=>h.elim
theorem TmAll.snoc:∀ {ts:List (Str×Bool)} {ps:List PyData} {t:Str×Bool} {p:PyData},TmAll ts ps->(∃ x y,Tm p t.2 x y)->TmAll (ts++[t]) (ps++[p])
 | [],[],_,_,_,q=>⟨q,True.intro⟩
 | t::ts,p::ps,_,_,h,q=>⟨h.1,TmAll.snoc h.2 q⟩
 | [],_::_,_,_,h,_=>h.elim
 | _::_,[],_,_,h,_=>h.elim
theorem AA:VcE qO zA Co Ja:=by
 rintro ds m R hl ⟨a,ts,rfl,hn,hf,h⟩;simp[Co];refine fO (by decide) (by decide) hf fun mn m1 n0 n1 hf1=>?_
 simp[Ur,sz];refine fO (by decide) (by decide) hf1 fun r m2 r0 r1 hf2=>?_
 obtain⟨p,e,bo,rfl,u0,u1⟩:=oC (xs:=[.int 1,.int 1,.int 2,.int 3,.int 7,.int 999983]) (P:=fun p=>∃ i:Int,p=.int i/\1<=i/\i<=999983) (r:=r) (by simp) r0 r1
 refine⟨_,e,?_⟩;simp[Uv,sz];refine fO (by decide) (by decide) hf2 fun q m3 q0 q1 hf3=>?_
 obtain⟨p,e,bs,rfl,v0,v1⟩:=oC (xs:=[.int 0,.int 0,.int (-5),.int 12,.int 900000]) (P:=fun p=>∃ i:Int,p=.int i/\-5<=i/\i<=900000) (r:=q) (by simp) q0 q1
 refine⟨_,e,?_⟩;refine fO (by decide) (by decide) hf3 fun w m4 w0 w1 hf4=>?_
 simp[To,cV];refine Ag (fun bC acc d m'=>Feeds m' a/\(∃ o1 o2,d=[o1,o2,some (.cel a),some (I (2+mn)),some (I bo),some (I (bs-w))])/\∃ done todo,ts=done++todo/\bC=todo.map (fun t=>.dat (.tuple [.str t.1,.str (kd t.2)]))/\TmAll done acc/\∀ p∈acc,mN 60 p) ?_ ?_ _ _ _ _ ⟨hf4,⟨_,_,rfl⟩,[],ts,rfl,by first | rfl | (rw[List.map_map];rfl) | simp,True.intro,by simp⟩
 ·rintro acc d m5 ⟨hf5,_,done,todo,e1,e2,hla,hbd⟩;have e3:todo=[]:=by simpa using e2.symm
  subst e3;rw[List.append_nil]at e1;subst e1;exact h acc m5 hla hbd hf5
 ·rintro x xs acc d m5 k ⟨hf5,⟨o1,o2,rfl⟩,done,todo,e1,e2,hla,hbd⟩ hk
  cases todo with
  | nil=>simp at e2
  | cons t todo =>
   obtain⟨rfl,rfl⟩:=List.cons.inj e2;have hln:acc.length<7:=by
    have:=congrArg List.length e1
    have:=hla.len
    simp at *;omega
   simp;refine CM (by omega) (by omega) (by omega) (by omega) (by omega) (by omega) hf5 fun p x y m6 tp bp hf6=>⟨p,rfl,Nat.lt_of_lt_of_le hln (sz (n:=7) (by decide)),hk _ _ _ ⟨hf6,⟨_,_,rfl⟩,done++[t],todo,by rw[e1];simp,rfl,hla.snoc ⟨x,y,tp⟩,fun z hz=>(List.mem_append.mp hz).elim (hbd z) fun q=>by cases List.mem_singleton.mp q;exact bp⟩⟩
theorem P3{p:PyData}{k:Bool}{x y:Int×Int}(h:Tm p k x y):rN p=(k,x,y):=by
 have e:=h.eq
 subst e
 cases k with
 | true=>rfl
 | false =>
  cases h.pt rfl
  rfl
theorem TmAll.at:∀ {ts:List (Str×Bool)} {ps:List PyData} {i:Nat} {p:PyData},TmAll ts ps->ps[i]?=some p->∃ k x y,Tm p k x y
 | t::ts,q::ps,0,p,h,e=>by
  cases e
  obtain⟨x,y,g⟩:=h.1;exact⟨_,x,y,g⟩
 | t::ts,q::ps,i+1,p,h,e=>TmAll.at h.2 (by simpa using e)
 | [],[],i,p,_,e=>by simp at e
 | [],_::_,_,_,h,_=>h.elim
 | _::_,[],_,_,h,_=>h.elim
theorem Jm{ts:List (Str×Bool)}{i:Nat}{t:Str×Bool}(h:ts[i]?=some t):cA (ts.map fun t=>PyData.tuple [.str t.1,.str (kd t.2)]) (i:Int)=some (.tuple [.str t.1,.str (kd t.2)]):=iF (by rw[List.getElem?_map,h];rfl)
def nW:List Str:=["a","ab","abc","b","point","may","gap","begin","strict","o","stretch","zzzzzzzz"]
def f1(a s k:Nat):Str:=nW.getD ((a+s*k)%12) ""
theorem x8:∀ a<12,∀ s∈[1,5,7,11],((List.range 6).map (f1 a s)).Nodup:=by decide +kernel
theorem JQ:∀ z∈nW,z.cps.toList.all (fun c=>decide (c<1114112))=true/\z.length<=20:=by decide +kernel
theorem Zh{n:Nat}(h:n<=6):List.Sublist (List.range n) (List.range 6):=by
 have:List.range n=(List.range 6).take n:=by
  rw[List.take_range]
  congr 1
  omega
 rw[this];exact List.take_sublist _ _
theorem ME(a s k:Nat):f1 a s k∈nW:=by
 unfold f1;have h:(a+s*k)%12<nW.length:=by
  show _<12
  omega
 rw[List.getD_eq_getElem?_getD,List.getElem?_eq_getElem h];exact List.getElem_mem h
theorem OK{a s n:Nat}(ha:a<12)(hs:s∈[1,5,7,11])(hn:n<=6):Nm ((List.range n).map (f1 a s)):=by
 refine⟨List.Nodup.sublist ((Zh hn).map _) (x8 a ha s hs),by simpa using hn,fun z hz=>?_⟩
 obtain⟨k,_,rfl⟩:=List.mem_map.mp hz;exact JQ _ (ME a s k)
theorem BZ(a s k:Nat):cA (nW.map PyData.str) (((a:Int)+(s:Int)*(k:Int)).fmod 12)=some (.str (f1 a s k)):=by
 have e:((a:Int)+(s:Int)*(k:Int)).fmod 12=(((a+s*k)%12:Nat):Int):=by
  rw[Int.fmod_eq_emod_of_nonneg _ (by decide)]
  simp
 rw[e];have h:(a+s*k)%12<nW.length:=by
  show _<12
  omega
 refine iF ?_;unfold f1;rw[List.getElem?_map,List.getD_eq_getElem?_getD,List.getElem?_eq_getElem h];rfl
theorem Vc:∀ i<26,(Str.ofString "abcdefghijklmnopqrstuvwxyz").cps.toList[i]?=some (97+i):=by decide +kernel
theorem NQ:∀ a<12,((List.range 6).map fun k=>(a+3*k)%26).Nodup:=by decide +kernel
def nE(x y:Str)(c:Nat):Str:=x++(⟨#[c]⟩:Str)++y
def f2(x y:Str)(a k:Nat):Str:=nE x y (97+(a+3*k)%26)
theorem KI{x y:Str}{c d:Nat}(h:nE x y c=nE x y d):c=d:=by
 have e:=congrArg (fun z:Str=>z.cps.toList) h
 simp[nE,Str.cps_append]at e;exact e
def gc(z:Str):Prop:=∀ c∈z.cps.toList,c<1114112
theorem oU{x y:Str}(h:gc x)(g:gc y):gc (x++y):=fun c hc=>by
 rw[Str.cps_append,Array.toList_append]at hc;exact(List.mem_append.mp hc).elim (h c) (g c)
theorem Re{c:Nat}(h:c<1114112):gc (⟨#[c]⟩:Str):=fun d hd=>by
 have:d=c:=by simpa using hd
 omega
theorem Mf{z:Str}(h:gc z)(lo hi:Option Int):gc (Txt.slice z lo hi):=by
 unfold Txt.slice
 split
 ·exact h
 ·intro c hc;simp only[List.mem_filterMap]at hc;obtain⟨i,_,e⟩:=hc;exact h c (by
   have:=Array.mem_of_getElem? e
   simpa using this)
theorem PK{x y:Str}{a n:Nat}(hx:gc x)(hy:gc y)(hl:x.length+y.length<=19)(ha:a<12)(hn:n<=6):Nm ((List.range n).map (f2 x y a)):=by
 refine⟨?_,by simpa using hn,fun z hz=>?_⟩
 ·have nd:=List.Nodup.sublist ((Zh hn).map fun k=>(a+3*k)%26) (NQ a ha)
  have e:(List.range n).map (f2 x y a)=((List.range n).map fun k=>(a+3*k)%26).map fun c=>nE x y (97+c):=by rw[List.map_map];rfl
  rw[e];exact List.Pairwise.map _ (fun p q hpq h=>hpq (by have:=KI h;omega)) nd
 ·obtain⟨k,_,rfl⟩:=List.mem_map.mp hz;refine⟨?_,?_⟩
  ·rw[List.all_eq_true];intro c hc;exact decide_eq_true (oU (oU hx (Re (by omega))) hy c hc)
  ·show(x++(⟨#[_]⟩:Str)++y).length<=20
   rw[strLen_append,strLen_append];show x.length+1+y.length<=20
   omega
theorem IL{zs ys:List Str}(h:Nm zs)(p:ys.Perm zs):Nm ys:=⟨p.nodup_iff.mpr h.1,by rw[p.length_eq];exact h.2.1,fun z hz=>h.2.2 z (p.mem_iff.mp hz)⟩
theorem C9:∀ {us:List Str},(∀ z∈us,z.length=1)->(us.map (·.length)).sum=us.length
 | [],_=>rfl
 | u::us,h=>by
  rw[List.map_cons,List.sum_cons,C9 fun z hz=>h z (List.mem_cons_of_mem _ hz),h u List.mem_cons_self,List.length_cons];omega
theorem K4:gc (Str.ofString ""):=by
 intro c hc;have:(Str.ofString "").cps.toList=[]:=by decide +kernel
 rw[this]at hc
 cases hc
theorem L7:∀ (us:List Str),(∀ u∈us,gc u)->gc (Str.join (Str.ofString "") us)
 | [],_=>K4
 | [u],h=>by
  simp only[Str.join];exact h u List.mem_cons_self
 | u::v::us,h=>by
  simp only[Str.join];exact oU (oU (h u List.mem_cons_self) K4) (L7 (v::us) fun z hz=>h z (List.mem_cons_of_mem _ hz))
theorem Zo{i:Int}(h0:-1000000<=i)(h1:i<=1000000):Bd 64 i:=by
 unfold Bd;have e:(2:Nat)^64=18446744073709551616:=by decide
 omega
abbrev MD:List PyData:=nW.map .str
theorem OZ(a k:Nat):cA (Str.ofString "abcdefghijklmnopqrstuvwxyz").cps.toList (((a:Int)+3*(k:Int)).fmod 26)=some (97+(a+3*k)%26):=by
 have e:((a:Int)+3*(k:Int)).fmod 26=(((a+3*k)%26:Nat):Int):=by
  rw[Int.fmod_eq_emod_of_nonneg _ (by decide)]
  simp
 rw[e];exact iF (Vc _ (by omega))
theorem PH:VcE oP xY Ea Kj:=by
 rintro ds m R hl ⟨a,n,rfl,n1,n2,hf,h⟩;obtain⟨nn,rfl⟩:∃ nn:Nat,n=nn:=⟨n.toNat,by omega⟩
 simp[Ea,sz];simp[Vz];refine fO (by decide) (by decide) hf fun first m1 f0 f1' hf1=>?_
 obtain⟨ff,rfl⟩:∃ ff:Nat,first=ff:=⟨first.toNat,by omega⟩
 simp[Sm,sz];refine fO (by decide) (by decide) hf1 fun st m2 s0 s1 hf2=>?_
 obtain⟨p,e,step,rfl,hst⟩:=oC (xs:=[.int 1,.int 5,.int 7,.int 11]) (P:=fun p=>∃ i:Nat,p=.int i/\i∈[1,5,7,11]) (r:=st) (by
  intro p hp;simp at hp;rcases hp with rfl | rfl | rfl | rfl
  ·exact⟨1,rfl,by decide⟩
  ·exact⟨5,rfl,by decide⟩
  ·exact⟨7,rfl,by decide⟩
  ·exact⟨11,rfl,by decide⟩) s0 s1
 refine⟨_,e,?_⟩;have sl:step<=11:=by
  simp at hst;omega
 have fin:∀ (zs:List Str) m' o6 o7 o8,zs.length=nn->Nm zs->Feeds m' a->Gq (EN R) [some (.cel a),some (I nn),some (.dat (.list MD)),some (I ff),some (I step),some (.dat (.list (zs.map .str))),o6,o7,o8] m':=fun zs m' o6 o7 o8 hz hg hf'=>by
  simp[Gq];exact⟨zs,rfl,by omega,fun ys hp _=>h ys m' (by rw[hp.length_eq,hz]) (IL hg hp) hf'⟩
 simp[Zd,cV];refine⟨by omega,?_⟩
 refine qY (fun i acc d m'=>m'=m2/\(∃ o,d=[o,some (.dat (.list MD)),some (I ff),some (I step)])/\acc=((List.range i).map (f1 ff step)).map .str) ?_ ?_ _ _ _ ⟨rfl,⟨none,rfl⟩,rfl⟩
 ·rintro acc d m3 ⟨rfl,_,rfl⟩;have g1:Nm ((List.range nn).map (f1 ff step)):=OK (by omega) hst (by omega)
  obtain⟨zs,ez⟩:∃ zs,zs=(List.range nn).map (f1 ff step):=⟨_,rfl⟩;have hz:zs.length=nn:=by rw[ez];simp
  rw[<- ez]at g1 ⊢;simp[Tk];refine fO (by decide) (by decide) hf2 fun w m4 w0 w1 hf4=>?_
  simp[PyData.eqv,PyData.canLay0,PyData.depth]
  by_cases c:w=0
  ·right
   refine⟨c,?_⟩;simp[F1];simp[Td,cV];refine fO (by decide) (by decide) hf4 fun e8 m5 v0 v1 hf5=>?_
   obtain⟨en,rfl⟩:∃ en:Nat,e8=en:=⟨e8.toNat,by omega⟩
   refine⟨_,rfl,by omega,by omega,?_⟩
   rw[Int.toNat_natCast];refine qY (fun i acc d m'=>Feeds m' a/\(∃ o,d=[o,some (.cel a),some (.dat (.str "abcdefghijklmnopqrstuvwxyz"))])/\∃ zs:List Str,acc=zs.map .str/\zs.length=i/\(∀ z∈zs,z.length=1)/\∀ z∈zs,gc z) ?_ ?_ _ _ _ ⟨hf5,⟨none,rfl⟩,[],rfl,rfl,by simp,by simp⟩
   ·rintro acc d m6 ⟨hf6,_,us,rfl,hu,hu1,hu2⟩;have hsum:=C9 hu1
    refine⟨us,rfl,by decide,by rw[hsum];omega,?_⟩
    have hbase:(Txt.join (Str.ofString "") us).length<=7:=by
     unfold Txt.join;rw[size_glued,hsum,show(Str.ofString "").length=0 by decide +kernel]
     omega
    have gb:gc (Txt.join (Str.ofString "") us):=by
     unfold Txt.join
     first
      | rw[Str.glued_eq_join]
      | rw[StrLaws.glued_eq_join]
      | rw[glued_eq_join]
     exact L7 us hu2
    obtain⟨base,eb⟩:∃ b,Txt.join (Str.ofString "") us=b:=⟨_,rfl⟩;rw[eb]at hbase gb ⊢;simp[Ww];refine⟨sz (by omega),?_⟩
    refine fO (by omega) (by omega) hf6 fun at_ m7 a0 a1 hf7=>?_
    simp[F3,cV];refine⟨by omega,?_⟩
    obtain⟨x,ex⟩:∃ x,x=Txt.slice base none (some at_):=⟨_,rfl⟩;obtain⟨y,ey⟩:∃ y,y=Txt.slice base (some at_) none:=⟨_,rfl⟩;have lx:x.length<=7:=by rw[ex];exact Nat.le_trans (Ds _ _ _) hbase
    have ly:y.length<=7:=by rw[ey];exact Nat.le_trans (Ds _ _ _) hbase
    have gx:gc x:=by rw[ex];exact Mf gb _ _
    have gy:gc y:=by rw[ey];exact Mf gb _ _
    refine qY (fun i acc d m'=>m'=m7/\(∃ o,d=[o,some (I ff),some (.dat (.str "abcdefghijklmnopqrstuvwxyz")),some (.dat (.str base)),some (I at_)])/\acc=((List.range i).map (f2 x y ff)).map .str) ?_ ?_ _ _ _ ⟨rfl,⟨none,rfl⟩,rfl⟩
    ·rintro acc d m8 ⟨rfl,_,rfl⟩;exact fin _ _ _ _ _ (by simp) (PK gx gy (by omega) (by omega) (by omega)) hf7
    ·rintro i acc d m8 k hi ⟨rfl,⟨o,rfl⟩,rfl⟩ hk;have el:=OZ ff i
     simp[<- ex,<- ey];have l1:∀ c:Nat,(({cps:=#[c]}:Str)).length=1:=fun _=>rfl
     refine⟨sz (by omega),tY (Zo (by decide) (by decide)),sz (by decide +kernel),_,el,sz (by rw[l1];omega),sz (by omega),sz (by rw[strLen_append,l1];omega),Nat.lt_of_lt_of_le (show i<1000 by omega) (sz (by decide)),hk _ _ _ ⟨rfl,⟨_,rfl⟩,?_⟩⟩
     rw[List.range_succ];simp[f2,nE]
   ·rintro i acc d m6 k hi ⟨hf6,⟨o,rfl⟩,us,rfl,hu,hu1,hu2⟩ hk;simp;refine fO (by decide) (by decide) hf6 fun q m7 q0 q1 hf7=>?_
    obtain⟨qn,rfl⟩:∃ qn:Nat,q=qn:=⟨q.toNat,by omega⟩
    have ec:cA (Str.ofString "abcdefghijklmnopqrstuvwxyz").cps.toList (qn:Int)=some (97+qn):=iF (Vc qn (by omega))
    refine⟨sz (by decide),_,ec,_,rfl,Nat.lt_of_lt_of_le (by omega) (sz (n:=100) (by decide)),hk _ _ _ ⟨hf7,⟨_,rfl⟩,us++[⟨#[97+qn]⟩],by simp,by simp[hu],fun z hz=>?_,fun z hz=>?_⟩⟩
    ·rcases List.mem_append.mp hz with hz | hz
     ·exact hu1 z hz
     ·have:z=⟨#[97+qn]⟩:=by simpa using hz
      rw[this];rfl
    ·rcases List.mem_append.mp hz with hz | hz
     ·exact hu2 z hz
     ·have:z=⟨#[97+qn]⟩:=by simpa using hz
      rw[this];exact Re (by omega)
  ·left
   exact⟨c,fin zs m4 _ _ _ hz g1 hf4⟩
 ·rintro i acc d m3 k hi ⟨rfl,⟨o,rfl⟩,rfl⟩ hk;have em:=BZ ff step i
  simp;refine⟨tY (Zo (by omega) (by omega)),_,em,?_⟩
  refine⟨Nat.lt_of_lt_of_le (show i<1000 by omega) (sz (by decide)),hk _ _ _ ⟨rfl,⟨_,rfl⟩,?_⟩⟩
  rw[List.range_succ];simp
theorem MI(i n:Nat):eZ (i:Int) (n+1)=I i::eZ ((i+1:Nat):Int) n:=by
 unfold eZ;rw[List.range_succ_eq_map,List.map_cons,List.map_map]
 congr 1
 refine List.map_congr_left fun k _=>?_;have:(i:Int)+((k+1:Nat):Int)=((i+1:Nat):Int)+(k:Int):=by omega
 show D.dat (.int ((i:Int)+((k+1:Nat):Int)))=D.dat (.int (((i+1:Nat):Int)+(k:Int)))
 rw[this]
theorem Ev{g:DG}{b:DS}{E:Ends2}(N:Nat)(J:Nat->bZ->Mu->Prop)(fin:∀ d m,J N d m->E.nx d m)
  (step:∀ i d m (k:bZ->Mu->Prop),i<N->J i d m->(∀ d' m',J (i+1) d' m'->k d' m')->g (I i) d m fun d' m'=>b {E with nx:=k,ct:=k,bk:=E.nx} d' m') :
  ∀ (n i:Nat),i+n=N->∀ d m,J i d m->eP g b E (eZ (i:Int) n) d m
 | 0,i,e,d,m,h=>by
  have:i=N:=by omega
  subst this;exact fin d m h
 | n+1,i,e,d,m,h=>by
  rw[MI];exact step i d m _ (by omega) h (Ev N J fin step n (i+1) (by omega))
theorem u7{n:Nat}{x:D}(h:x∈eZ 0 n):∃ i:Int,x=I i/\0<=i/\i<n:=by
 unfold eZ at h;obtain⟨i,hi,rfl⟩:=List.mem_map.mp h;have:=List.mem_range.mp hi
 exact⟨_,rfl,by omega,by omega⟩
theorem MQ{xs:List PyData}{n:Nat}(h:n<=xs.length):bY xs (some (n:Int)) none=xs.drop n:=by
 unfold bY;have e1:HT.sIx xs.length 0 (some (n:Int))=n:=by
  have q:¬ ((n:Int)<0):=by omega
  simp[HT.sIx,q];exact Nat.min_eq_left h
 have e2:HT.sIx xs.length xs.length none=xs.length:=rfl
 rw[e1,e2];exact List.take_of_length_le (by rw[List.length_drop];omega)
theorem Y6:VcE rS yX By Ku:=by
 rintro ds m R hl ⟨a,b,rfl,h⟩;simp[By,Yq,Tl];refine⟨fun n d m'=>m'=m/\∃ x y:Int,d=[some (I x),some (I y)]/\n=y.natAbs/\Int.gcd x y=Int.gcd a b,⟨_,rfl,a,b,rfl,rfl,rfl⟩,?_⟩;rintro n d m' ⟨rfl,x,y,rfl,rfl,hg⟩
 by_cases hy:y=0
 ·subst hy;rw[Int.gcd_zero_right]at hg;have e:(if x<0 then -x else x)=((a.gcd b:Nat):Int):=by rw[<- hg];split<;>omega
  simp[PyData.eqv,PyData.canLay0,PyData.depth];rw[e];exact h
 ·simp[PyData.eqv,PyData.canLay0,PyData.depth,hy];refine⟨fun d' m''=>m''=m'/\d'=[some (I y),some (I (x.fmod y))],?_,by simp⟩
  rintro d' m'' ⟨rfl,rfl⟩;exact⟨_,Vt x y hy,rfl,y,x.fmod y,rfl,rfl,by rw[Yi];exact hg⟩
theorem Kn.refl{m:Mu}:Kn m m:=fun _ _=>rfl
theorem Kn.trans{m m1 m2:Mu}(h:Kn m m1)(g:Kn m1 m2):Kn m m2:=fun c h2=>by
 have e:=h c h2
 rw[g c (by rw[e];exact h2),e]
theorem Kn.new{m:Mu}{c:Addr}{x:Cel}(h:m c=none):Kn m (cK m c x):=fun b hb=>eR fun e=>by rw[e,h]at hb;cases hb
theorem Kn.kp{a:Addr}{m m':Mu}(h:Kn m m'):Kp a m m':=fun c _ hc=>h c hc
theorem Kn.get{m m':Mu}{c:Addr}{x:Cel}(h:Kn m m')(hc:m c=some x):m' c=some x:=by rw[h c (by rw[hc];rfl)];exact hc
theorem Kp.get{a:Addr}{m m':Mu}{c:Addr}{x:Cel}(h:Kp a m m')(ne:c≠a)(hc:m c=some x):m' c=some x:=by rw[h c ne (by rw[hc];rfl)];exact hc
theorem Feeds.kn{a:Addr}{m m':Mu}(h:Feeds m a)(k:Kn m m'):Feeds m' a:=by
 obtain⟨xs,e,f⟩:=h;exact⟨xs,k.get e,f⟩
theorem TmAll.of:∀ {ts:List (Str×Bool)} {ps:List PyData} {i:Nat} {t:Str×Bool},TmAll ts ps->ts[i]?=some t->∃ p x y,ps[i]?=some p/\Tm p t.2 x y
 | t::ts,q::ps,0,u,h,e=>by
  cases e
  obtain⟨x,y,g⟩:=h.1;exact⟨_,x,y,rfl,g⟩
 | t::ts,q::ps,i+1,u,h,e=>by
  obtain⟨p,x,y,e2,g⟩:=TmAll.of h.2 (by simpa using e)
  exact⟨p,x,y,by simpa using e2,g⟩
 | [],[],i,p,_,e=>by simp at e
 | [],_::_,_,_,h,_=>h.elim
 | _::_,[],_,_,h,_=>h.elim
theorem N6{ts:List (Str×Bool)}{ps:List PyData}{z:Str}(ht:TmAll ts ps)(hz:z∈ts.map (·.1)):∃ k x y,ps[(ts.map (·.1)).idxOf z]?=some (FT ts ps z)/\Tm (FT ts ps z) k x y/\ts[(ts.map (·.1)).idxOf z]?=some (z,k)/\(z,k)∈ts:=by
 have hj:(ts.map (·.1)).idxOf z<ts.length:=by
  have:=List.idxOf_lt_length_iff.mpr hz
  simpa using this
 have e0:(ts[(ts.map (·.1)).idxOf z]).1=z:=by
  have:=List.getElem_idxOf (x:=z) (xs:=ts.map (·.1)) (by simpa using hj)
  rw[List.getElem_map]at this;exact this
 obtain⟨p,x,y,e1,t1⟩:=ht.of (List.getElem?_eq_getElem hj);have e2:FT ts ps z=p:=by
  show ps.getD _ _=p
  rw[List.getD_eq_getElem?_getD,e1];rfl
 have e3:ts[(ts.map (·.1)).idxOf z]=(z,(ts[(ts.map (·.1)).idxOf z]).2):=Prod.ext e0 rfl
 exact⟨(ts[(ts.map (·.1)).idxOf z]).2,x,y,by rw[e2];exact e1,by rw[e2];exact t1,by rw[List.getElem?_eq_getElem hj];exact congrArg some e3,by rw[<- e3];exact List.getElem_mem hj⟩
theorem Wb{ts:List (Str×Bool)}{ps:List PyData}{e:Str×Bool}{k:Bool}{x y:Int×Int}(h:Tm (FT ts ps e.1) k x y):iT ts ps e=if e.2 then y else x:=by
 unfold iT;rw[P3 h]
theorem Zt{ts:List (Str×Bool)}{ps:List PyData}{e:Str×Bool}(ht:TmAll ts ps)(he:e.1∈ts.map (·.1)):0<(iT ts ps e).2/\Bd 800 (iT ts ps e).1/\Bd 800 (iT ts ps e).2:=by
 obtain⟨k,x,y,_,h,_,_⟩:=N6 ht he;rw[Wb h]
 cases e.2
 ·exact⟨h.px,h.b1,h.b2⟩
 ·exact⟨h.py,h.b3,h.b4⟩
theorem WJ(k:Bool):decide (kd k=Str.ofString "point")=!k:=by cases k<;>decide +kernel
theorem Bd.part{n:Nat}{g a t:Int}(h:t=g*a)(hg:0<g)(b:Bd n t):Bd n a:=by
 unfold Bd at *;have:a.natAbs<=t.natAbs:=by
  rw[h,Int.natAbs_mul];exact Nat.le_mul_of_pos_left _ (by omega)
 omega
@[simp] theorem G4(x y z:PyData)(xs:List PyData):cA (x::y::z::xs) 2=some z:=by
 have:(2:Int)<xs.length+1+1+1:=by omega
 simp[cA,fG,this]
@[simp] theorem XS(x y z w:PyData)(xs:List PyData):cA (x::y::z::w::xs) 3=some w:=by
 have:(3:Int)<xs.length+1+1+1+1:=by omega
 simp[cA,fG,this]
@[simp] theorem XQ(x y z w v:PyData)(xs:List PyData):cA (x::y::z::w::v::xs) 4=some v:=by
 have:(4:Int)<xs.length+1+1+1+1+1:=by omega
 simp[cA,fG,this]
theorem Vl{m0:Mu}{c:Addr}{th:Option D}{L:List PyData}{E:Ends2}(hc:m0 c=none):∀ (todo:List (Str×Bool)) (acc:List PyData) (o2 o3:Option D) (m:Mu),acc.length+2*todo.length<=40->Kn m0 m->m c=some (.l acc)->acc++(dU todo).map eD=L->(∀ o2 o3 m',Kn m0 m'->m' c=some (.l L)->E.nx [th,some (.cel c),o2,o3] m') ->
  eP (gT 2 (eE (gN 2) (eE (gN 3) iN))) yJ E (todo.map fun t=>.dat (.tuple [.str t.1,.str (kd t.2)])) [th,some (.cel c),o2,o3] m
 | [],acc,o2,o3,m,_,hk,hm,e,h=>by
  simp[dU]at e;subst e;simpa[eP] using h o2 o3 m hk hm
 | t::todo,acc,o2,o3,m,hl,hk,hm,e,h=>by
  rw[List.length_cons]at hl;have ih:=Vl (th:=th) (L:=L) (E:=E) hc todo
  simp only[List.map_cons,eP];obtain⟨K,hK⟩:∃ K,K=eP (gT 2 (eE (gN 2) (eE (gN 3) iN))) yJ E (todo.map fun t=>.dat (.tuple [.str t.1,.str (kd t.2)])):=⟨_,rfl⟩;rw[<- hK]at ih ⊢;have q1:acc.length<sizeLine:=Nat.lt_of_lt_of_le (show acc.length<1000 by omega) (sz (by decide))
  have q2:acc.length+1<sizeLine:=Nat.lt_of_lt_of_le (show acc.length+1<1000 by omega) (sz (by decide))
  have kn:∀ {m:Mu} {x:Cel},Kn m0 m->Kn m0 (cK m c x):=fun hk b hb=>by
   rw[eR fun z=>by rw[z,hc]at hb;cases hb]
   exact hk b hb
  obtain⟨z,k⟩:=t
  cases k with
  | false =>
   simp (decide:=true) [yJ,Iz,hm,q1,q2,sz,kd,eI,Jf];refine ih _ _ _ _ ?_ (kn hk) eI ?_ h
   ·simp;omega
   ·rw[<- e];simp[dU]
  | true =>
   simp (decide:=true) [yJ,Iz,hm,q1,q2,sz,kd,eI,Jf];refine ih _ _ _ _ ?_ (kn hk) eI ?_ h
   ·simp;omega
   ·rw[<- e];simp[dU]
theorem CN:VcE jS lH Es Oe:=by
 rintro ds m R hl ⟨ts,rfl,hn,h⟩;simp[Es,sz];intro c hc;simp[F8];have q:=Vl (m0:=m) (c:=c) (th:=some (.dat (TH ts))) (L:=(dU ts).map eD) (E:={nx:=Px (EN R),rt:=R}) hc ts [] none none (cK m c (.l [])) (by simp;omega) (.new hc) eI rfl (fun o2 o3 m' k' hm'=>by
  simp[Px];exact h c m' hc k' hm')
 simpa[Function.comp_def] using q
theorem SG:VcE pO tD Di Kk:=by
 rintro ds m R hl ⟨ts,ps,e,rfl,nm,ht,he,h⟩;have n6:ts.length<=6:=by simpa using nm.2.1
 obtain⟨k,x,y,e1,h1,e2,e3⟩:=N6 ht he;rw[Wb h1]at h;have hj:(ts.map (·.1)).idxOf e.1<ts.length:=(List.getElem?_eq_some_iff.mp e2).1
 simp[Di];refine⟨by omega,?_⟩
 refine Ev (N:=ts.length) (fun i d m'=>m'=m/\(∃ o,d=[some (.dat (TH ts)),some (.dat (.tuple ps)),some (.dat (eD e)),o])/\i<=(ts.map (·.1)).idxOf e.1) ?_ ?_ ts.length 0 (by omega) _ _ ⟨rfl,⟨_,rfl⟩,Nat.zero_le _⟩
 ·rintro d m1 ⟨_,_,hi⟩;omega
 ·rintro i d m1 K hi ⟨rfl,⟨o,rfl⟩,hi2⟩ hk;have ti:=List.getElem?_eq_getElem hi
  have et:=Jm ti
  by_cases c:i=(ts.map (·.1)).idxOf e.1
  ·have e4:ts[i]=(e.1,k):=by
    rw[<- c,ti]at e2;exact Option.some.inj e2
   have e5:cA ps (i:Int)=some (FT ts ps e.1):=iF (by rw[c];exact e1)
   rw[e4]at et;have eq:=h1.eq
   simp[Kr];refine⟨_,et,?_⟩;simp;refine⟨_,et,?_⟩;simp[WJ,e5];rw[eq]
   cases k with
   | false =>
    cases h1.pt rfl
    have e6:(if e.2=true then x else x)=x:=by split<;>rfl
    rw[e6]at h;simpa using h
   | true =>
    cases hb:e.2 with
    | false=>rw[hb]at h;simpa using h
    | true=>rw[hb]at h;simpa using h
  ·have ne:¬ (ts[i].1=e.1):=fun z=>by
    have:(ts.map (·.1)).idxOf e.1<=i:=by
     have h3:i<(ts.map (·.1)).length:=by simpa using hi
     have h4:(ts.map (·.1))[i]=e.1:=by simpa using z
     rw[<- h4,List.Nodup.idxOf_getElem nm.1];exact Nat.le_refl _
    omega
   simp[Kr];refine⟨_,et,?_⟩;simp[ne];exact hk _ _ ⟨rfl,⟨_,rfl⟩,by omega⟩
theorem B2{ts:List (Str×Bool)}{ps:List PyData}{x:Str×Bool}{m:Mu}{R:DK}(nm:Nm (ts.map (·.1)))(ht:TmAll ts ps)(hx:x.1∈ts.map (·.1))(h:R (.dat (fq (iT ts ps x))) m):tD [.dat (TH ts),.dat (.tuple ps),.dat (eD x)] m R:=⟨ts,ps,x,rfl,nm,ht,hx,h⟩
theorem Kh{zs:List Str}(h:∀ z∈zs,PyData.strOk z=true):PyData.canLayAll0 (zs.map .str)=true:=by
 induction zs with
 | nil=>simp[PyData.canLayAll0]
 | cons z zs ih =>
  simp only[List.map_cons,PyData.canLayAll0,PyData.canLay0,h z List.mem_cons_self,ih fun y hy=>h y (List.mem_cons_of_mem _ hy),Bool.and_self]
theorem Ws:∀ zs:List Str,PyData.depthAll (zs.map .str)<=1
 | []=>by simp[PyData.depthAll]
 | z::zs=>by
  have:=Ws zs
  simp only[List.map_cons,PyData.depthAll,PyData.depth];omega
theorem Sy:∀ z∈sE,PyData.strOk z=true:=by decide +kernel
theorem Yx{n:Nat}{x:Int}(hn:0<n):∃ j:Nat,x.fmod (n:Int)=j/\j<n:=by
 have h1:=Int.fmod_nonneg_of_pos x (b:=(n:Int)) (by omega)
 have h2:=Int.fmod_lt_of_pos x (b:=(n:Int)) (by omega)
 exact⟨(x.fmod n).toNat,by omega,by omega⟩
theorem Tv{ws:List Str}{w:Str}{Q:List PyData->Mu->Prop}{m:Mu}:∀ (todo:List Str) (acc:List Str) (o:Option D),acc.length+todo.length<=100->(∀ zs:List Str,zs.length<=acc.length+todo.length->(∀ z∈zs,z∈acc\/z∈todo)->Q (zs.map .str) m) ->
  eJ (gN 0) (cJ (aP (aF tL (aA 0) (aA 2))) (aP (aF dA (aA 0) (aA 1)))) (aA 0) (todo.map fun z=>.dat (.str z)) (acc.map .str) [o,some (.dat (.str w)),some (.dat (.tuple (ws.map .str)))] m Q
 | [],acc,o,_,h=>by simpa[eJ] using h acc (by simp) (fun z hz=>.inl hz)
 | z::todo,acc,o,hl,h=>by
  rw[List.length_cons]at hl;have ih:=Tv (ws:=ws) (w:=w) (Q:=Q) (m:=m) todo
  simp only[List.map_cons,eJ];obtain⟨K,hK⟩:∃ K,K=eJ (gN 0) (cJ (aP (aF tL (aA 0) (aA 2))) (aP (aF dA (aA 0) (aA 1)))) (aA 0) (todo.map fun z=>D.dat (.str z)):=⟨_,rfl⟩;rw[<- hK]at ih ⊢;have q:acc.length<sizeLine:=Nat.lt_of_lt_of_le (show acc.length<1000 by omega) (sz (by decide))
  have y1:=ih (acc++[z]) (some (.dat (.str z))) (by simp;omega) fun zs zl zm=>h zs (by simp at zl ⊢;omega) fun y hy=>by
   rcases zm y hy with g | g
   ·rcases List.mem_append.mp g with g | g
    ·exact .inl g
    ·cases List.mem_singleton.mp g
     exact .inr List.mem_cons_self
   ·exact .inr (List.mem_cons_of_mem _ g)
  have y2:=ih acc (some (.dat (.str z))) (by omega) fun zs zl zm=>h zs (by simp;omega) fun y hy=>(zm y hy).imp id (List.mem_cons_of_mem _)
  rw[List.map_append]at y1;simp[q];refine⟨ws,rfl,?_⟩
  by_cases c1:z∈ws
  ·exact .inr ⟨c1,y1⟩
  ·refine .inl ⟨c1,?_⟩
   by_cases c2:z=w
   ·exact .inr ⟨c2,y1⟩
   ·exact .inl ⟨c2,y2⟩
theorem SW:VcE rX zR Ew Hf:=by
 rintro ds m R hl ⟨a,ts,ps,rfl,nm,ht,h2,hf,h⟩;have n6:ts.length<=6:=by simpa using nm.2.1
 simp[Ew];refine dG (by omega) (by omega) hf fun k m1 k0 k1 hf1 kp1=>?_
 obtain⟨kk,rfl⟩:∃ kk:Nat,k=kk:=⟨k.toNat,by omega⟩
 have hk:kk<ts.length:=by omega
 simp[Rz];refine dG (by omega) (by omega) hf1 fun r m2 r0 r1 hf2 kp2=>?_
 obtain⟨j,ej,hj⟩:=Yx (n:=ts.length) (x:=(kk:Int)+1+r) (by omega)
 refine⟨by intro z;omega,?_⟩
 rw[ej];have e1:=Jm (List.getElem?_eq_getElem hk)
 have e2:=Jm (List.getElem?_eq_getElem hj)
 obtain⟨p,x,y,f1,t1⟩:=ht.of (List.getElem?_eq_getElem hk);obtain⟨q,z,w,f2,t2⟩:=ht.of (List.getElem?_eq_getElem hj);obtain⟨t,et⟩:∃ t,t=ts[kk]:=⟨_,rfl⟩;obtain⟨u,eu⟩:∃ u,u=ts[j]:=⟨_,rfl⟩;have mt:t.1∈ts.map (·.1):=List.mem_map.mpr ⟨t,by rw[et];exact List.getElem_mem hk,rfl⟩
 have mu:u.1∈ts.map (·.1):=List.mem_map.mpr ⟨u,by rw[eu];exact List.getElem_mem hj,rfl⟩
 rw[<- et]at e1 t1;rw[<- eu]at e2 t2;have g1:cA ps (kk:Int)=some p:=iF f1
 have g2:cA ps (j:Int)=some q:=iF f2
 have kp12:=kp1.trans kp2
 have fin:∀ (zs:List Str) (w:Str) m',(zs.length<=13/\∀ z∈zs,z∈sE)->Feeds m' a->Kp a m m'->xZ (EN R) [some (.cel a),some (.dat (TH ts)),some (.dat (.tuple ps)),some (I kk),some (I j),some (.dat (lS t.2 u.2)),some (.dat (.str w)),some (.dat (.tuple (zs.map .str)))] m':=fun zs w m' zo hf' kp'=>by
  simp[xZ];refine⟨_,e1,?_⟩;simp;refine⟨_,e2,?_⟩;simp[sz];exact h (.may t.1 u.1 zs) m' ⟨mt,mu,zo.1,zo.2⟩ hf' kp'
 simp[Wo];refine⟨_,e1,?_⟩;simp;refine⟨_,e2,?_⟩;simp[sz];simp[O2,g1,g2];refine⟨p,q,t.2,u.2,x,y,z,w,rfl,t1,t2,?_⟩;simp[Vv];refine⟨a,t.2,u.2,rfl,hf2,fun zs m3 hs hf3 kp3=>?_⟩;have kp3:=kp12.trans kp3
 have lz:=Kh fun z hz=>Sy z (Ft _ _ z (hs.subset hz))
 have dz:=Ws zs
 obtain⟨W,eW⟩:∃ W,W=wd (t.2&&u.2) x y z w:=⟨_,rfl⟩;rw[<- eW];have again:∀ m',Feeds m' a->Kp a m m'->aI (aY 7 (bL kC (aC (eN [none,some 6,some 7] (fE (aR 1 kA (aC (aA 5) aH))) (gN 0) (cJ (aP (aF tL (aA 0) (aA 2))) (aP (aF dA (aA 0) (aA 1)))) (aA 0)) aH))) aL {nx:=xZ (EN R),rt:=R} [some (.cel a),some (.dat (TH ts)),some (.dat (.tuple ps)),some (I kk),some (I j),some (.dat (lS t.2 u.2)),some (.dat (.str W)),some (.dat (.tuple (zs.map .str)))] m':=fun m' hf' kp'=>by
  simp only[aI,aY,bL,aC,aH,eN,fE,aR,aA,cV];refine⟨_,rfl,rfl,t.2,u.2,rfl,.inl ⟨_,rfl,?_⟩⟩;have q:=Tv (ws:=zs) (w:=W) (m:=m') (Q:=fun xs m2=>kC [D.dat (.list xs)] m2 fun x m1=>xZ (EN R) [some (D.cel a),some (D.dat (TH ts)),some (D.dat (.tuple ps)),some (I kk),some (I j),some (D.dat (lS t.2 u.2)),some (D.dat (.str W)),some x] m1) (WS t.2 u.2) [] none (by have:=(Dy t.2 u.2).2;simp;omega) (fun zs' l' m''=>fin zs' W m' ⟨by have:=(Dy t.2 u.2).2;simp at l';omega,fun z hz=>by rcases m'' z hz with g | g;(exact nomatch g);exact Ft _ _ z g⟩ hf' kp')
  rw[List.map_map];exact q
 unfold Sd;show cJ _ _ _ _ _
 refine⟨_,rfl,[],rfl,sz (by decide),?_⟩
 refine⟨by simpa only[PyData.canLay0] using lz,by simp[PyData.canLay0,PyData.canLayAll0],by simp only[PyData.depth];omega,_,rfl,?_⟩
 cases PyData.eqv (.tuple (zs.map .str)) (.tuple []) with
 | true=>exact again m3 hf3 kp3
 | false =>
  rw[if_neg Bool.false_ne_true];refine⟨_,rfl,rfl,dG (by decide) (by decide) hf3 fun r m4 r0 r1 hf4 kp4=>?_⟩
  refine⟨_,rfl,?_⟩;dsimp only
  split
  ·exact again m4 hf4 (kp3.trans kp4)
  ·exact fin zs W m4 ⟨by have:=hs.length_le;have:=(Dy t.2 u.2).2;omega,fun z hz=>Ft _ _ z (hs.subset hz)⟩ hf4 (kp3.trans kp4)
theorem hG{xs:List PyData}{P:PyData->Prop}{r:Int}{K:PyData->Prop}(h:∀ p∈xs,P p)(h0:0<=r)(h1:r<(xs.length:Int))(k:∀ p,P p->K p):∃ p,cA xs r=some p/\K p:=by
 obtain⟨p,e,g⟩:=oC h h0 h1
 exact⟨p,e,k p g⟩
theorem Se:∀ {ts:List (Str×Bool)} {x:Str×Bool},x∈dU ts->x.1∈ts.map (·.1)
 | t::ts,x,h=>by
  simp only[dU,List.mem_cons,List.mem_append]at h;rcases h with rfl | h | h
  ·simp
  ·cases hb:t.2 with
   | true =>
    rw[hb]at h;simp at h;subst h;simp
   | false=>rw[hb]at h;simp at h
  ·exact List.mem_cons_of_mem _ (Se h)
theorem Wz:∀ ts:List (Str×Bool),(dU ts).length<=2*ts.length
 | []=>Nat.le_refl _
 | t::ts=>by
  have:=Wz ts
  cases hb:t.2<;>simp[dU,hb]<;>omega
theorem Xx{t b:Int}{m:Mu}{R:DK}(h0:0<b)(bt:Bd 190 t)(bb:Bd 190 b)(h:∀ n:Int×Int,0<n.2->Bd 200 n.1->Bd 200 n.2->R (.dat (fq n)) m):hX [I t,I b] m R:=by
 refine⟨t,b,rfl,h0,bb.mono (by decide),?_⟩
 obtain⟨n,d,g,e,g0,e1,e2,d0⟩:=Bf (t:=t) (b:=b) h0;rw[e];exact h (n,d) d0 ((Bd.part e1 g0 bt).mono (by decide)) ((Bd.part e2 g0 bb).mono (by decide))
theorem Tx{i:Int}(h1:-2000000<=i)(h2:i<=2000000):Bd 190 i:=by
 refine Bd.mono (m:=30) ?_ (by decide)
 unfold Bd;have e:(2:Nat)^30=1073741824:=by decide
 omega
theorem WZ{A B C:DT}{S N:DS}{E:Ends2}{d:bZ}{m:Mu}(a b c:Bool)(hA:∀ Q:Bool->Mu->Prop,Q a m->A d m Q)(hB:∀ Q:Bool->Mu->Prop,Q b m->B d m Q)(hC:∀ Q:Bool->Mu->Prop,Q c m->C d m Q)(h1:S E d m)(h2:N E d m):bT (cJ A (cJ B C)) S N E d m:=by
 have fin:∀ k:Bool,if k=true then S E d m else N E d m:=fun k=>by cases k<;>simp<;>assumption
 refine hA _ ?_
 cases a with
 | true=>exact fin true
 | false =>
  refine hB _ ?_
  cases b with
  | true=>exact fin true
  | false=>exact hC _ (fin c)
theorem Zl{ts:List (Str×Bool)}{ps:List PyData}{e:Str×Bool}(hb:∀ p∈ps,mN 60 p):Bd 60 (iT ts ps e).1/\Bd 60 (iT ts ps e).2:=by
 have h:mN 60 (FT ts ps e.1):=by
  unfold FT FN;rw[List.getD_eq_getElem?_getD]
  cases q:ps[(ts.map (·.1)).idxOf e.1]? with
  | none=>exact⟨show(0:Int).natAbs<2^60 by decide,show(1:Int).natAbs<2^60 by decide,show(0:Int).natAbs<2^60 by decide,show(1:Int).natAbs<2^60 by decide⟩
  | some p=>exact hb p (List.mem_of_getElem? q)
 unfold iT;obtain⟨h1,h2,h3,h4⟩:=h
 split
 ·exact⟨h3,h4⟩
 ·exact⟨h1,h2⟩
theorem BS:VcE oT wM Pt Oh:=by
 rintro ds m R hl ⟨a,ts,ps,rfl,nm,ht,hb,h2,hf,h⟩;have n6:ts.length<=6:=by simpa using nm.2.1
 have l12:=Wz ts
 have eL:∀ p∈(dU ts).map eD,∃ x,p=eD x/\x.1∈ts.map (·.1):=fun p hp=>by
  obtain⟨x,hx,rfl⟩:=List.mem_map.mp hp;exact⟨x,rfl,Se hx⟩
 obtain⟨L,hL⟩:∃ L,L=(dU ts).map eD:=⟨_,rfl⟩;have lL:L.length=(dU ts).length:=by rw[hL,List.length_map]
 rw[<- hL]at eL;have hfa:(m a).isSome=true:=by obtain⟨xs,e,_⟩:=hf;rw[e];rfl
 refine⟨_,rfl,rfl,ts,rfl,n6,fun c m1 hc kn1 hm1=>?_⟩;have ca:c≠a:=fun e=>by rw[e]at hc;rw[hc]at hfa;cases hfa
 have hf1:=hf.kn kn1
 have kp1:Kp a m m1:=kn1.kp
 rw[<- hL]at hm1;refine⟨_,rfl,_,rfl,_,hm1,rfl,dG (n:=(L.length:Int)) (by omega) (by omega) hf1 fun k m2 k0 k1 hf2 kp2=>?_⟩
 have hm2:=kp2.get ca hm1
 have kp2:=kp1.trans kp2
 obtain⟨_,e5,x,rfl,hx⟩:=oC eL k0 (by omega)
 refine⟨_,rfl,_,rfl,_,_,hm2,e5,?_⟩;refine⟨_,rfl,_,rfl,_,rfl,_,rfl,_,hm2,rfl,dG (n:=(L.length:Int)-1) (by omega) (by omega) hf2 fun r m3 r0 r1 hf3 kp3=>?_⟩
 have hm3:=kp3.get ca hm2
 have kp3:=kp2.trans kp3
 obtain⟨j,ej,hj⟩:=Yx (n:=L.length) (x:=k+1+r) (by omega)
 obtain⟨_,e6,y,rfl,hy⟩:=oC eL (r:=(j:Int)) (by omega) (by omega)
 refine⟨_,rfl,_,hm3,by intro z;omega,_,_,hm3,by rw[ej];exact e6,?_⟩
 obtain⟨x0,-,-⟩:=Zt ht hx;obtain⟨y0,-,-⟩:=Zt ht hy;obtain⟨x1,x2⟩:=Zl (ts:=ts) (e:=x) hb;obtain⟨y1,y2⟩:=Zl (ts:=ts) (e:=y) hb;refine⟨_,rfl,_,rfl,_,rfl,rfl,B2 nm ht hx ?_⟩;refine⟨_,rfl,_,rfl,_,rfl,rfl,B2 nm ht hy ?_⟩;obtain⟨X,eX⟩:∃ X,X=iT ts ps x:=⟨_,rfl⟩;obtain⟨Y,eY⟩:∃ Y,Y=iT ts ps y:=⟨_,rfl⟩;rw[<- eX]at x0 x1 x2 ⊢;rw[<- eY]at y0 y1 y2 ⊢;have fin:∀ (n:Int×Int) o7 o8 o9 o10 o11 m',0<n.2->Bd 200 n.1->Bd 200 n.2->Feeds m' a->Kp a m m'->Eg (EN R) [some (.cel a),some (.dat (TH ts)),some (.dat (.tuple ps)),some (.cel c),some (I k),some (.dat (eD x)),some (.dat (eD y)),o7,o8,o9,o10,o11,some (.dat (fq n))] m':=fun n o7 o8 o9 o10 o11 m' n0 n1 n2 hf' kp'=>by
  simp[Eg];refine dG (by decide) (by decide) hf' fun q m4 q0 q1 hf4 kp4=>?_
  simp[PyData.eqv,PyData.canLay0,PyData.depth,sz];exact h (.gap x y n _) m4 ⟨hx,hy,n0,n1,n2⟩ hf4 (kp'.trans kp4)
 have last:∀ (t:Int) (way:Int) m',Bd 190 t->Feeds m' a->Kp a m m'->Qu (EN R) [some (.cel a),some (.dat (TH ts)),some (.dat (.tuple ps)),some (.cel c),some (I k),some (.dat (eD x)),some (.dat (eD y)),some (.dat (fq X)),some (.dat (fq Y)),some (I t),some (I (X.2*Y.2)),some (I way),none] m':=fun t way m' bt hf' kp'=>by
  have bb:Bd 190 (X.2*Y.2):=(x2.mul y2).mono (by decide)
  have pb:0<X.2*Y.2:=Int.mul_pos x0 y0
  obtain⟨B,eB⟩:∃ B,B=X.2*Y.2:=⟨_,rfl⟩;rw[<- eB]at bb pb ⊢;simp[Qu];refine Xx pb bt bb fun n n0 n1 n2=>?_;have B0:Ps {nx:=Eg (EN R),rt:=R} [some (.cel a),some (.dat (TH ts)),some (.dat (.tuple ps)),some (.cel c),some (I k),some (.dat (eD x)),some (.dat (eD y)),some (.dat (fq X)),some (.dat (fq Y)),some (I t),some (I B),some (I way),some (.dat (fq n))] m':=by
   simp[Ps,sz];refine dG (by decide) (by decide) hf' fun q m4 q0 q1 hf4 kp4=>?_
   refine hG (P:=fun p=>∃ i:Int,p=.int i/\-2000000<=i/\i<=2000000) (by simp) q0 q1 ?_
   rintro _ ⟨i,rfl,i1,i2⟩;simp[B3,sz];refine dG (by decide) (by decide) hf4 fun q' m5 q0' q1' hf5 kp5=>?_
   refine hG (P:=fun p=>∃ i:Int,p=.int i/\0<i/\i<=2000000) (by simp) q0' q1' ?_
   rintro _ ⟨i',rfl,i1',i2'⟩;exact Xx i1' (Tx i1 i2) (Tx (by omega) i2') fun n' n0' n1' n2'=>fin n' _ _ _ _ _ m5 n0' n1' n2' hf5 (kp'.trans (kp4.trans kp5))
  have F0:=fin n (some (.dat (fq X))) (some (.dat (fq Y))) (some (I t)) (some (I B)) (some (I way)) m' n0 n1 n2 hf' kp'
  refine WZ (decide (way=2)) (decide (999999<(if n.1<0 then -n.1 else n.1))) (decide (999999<n.2)) (fun Q q=>?_) (fun Q q=>?_) (fun Q q=>?_) B0 F0
  ·simp[PyData.eqv,PyData.canLay0,PyData.depth]
   by_cases c:way=2
   ·rw[decide_eq_true c]at q;exact .inr ⟨c,q⟩
   ·rw[decide_eq_false c]at q;exact .inl ⟨c,q⟩
  ·simp
   by_cases c:999999<(if n.1<0 then -n.1 else n.1)
   ·rw[decide_eq_true c]at q;exact .inr ⟨c,q⟩
   ·rw[decide_eq_false c]at q;exact .inl ⟨Int.not_lt.mp c,q⟩
  ·simp
   by_cases c:999999<n.2
   ·rw[decide_eq_true c]at q;exact .inr ⟨c,q⟩
   ·rw[decide_eq_false c]at q;exact .inl ⟨Int.not_lt.mp c,q⟩
 simp[B6];refine⟨x1.mulOk y2 (by decide),y1.mulOk x2 (by decide),?_⟩
 simp[Vk];refine⟨x2.mulOk y2 (by decide),?_⟩
 have bt:Bd 121 (X.1*Y.2-Y.1*X.2):=(x1.mul y2).sub (y1.mul x2)
 obtain⟨T,eT⟩:∃ T,T=X.1*Y.2-Y.1*X.2:=⟨_,rfl⟩;rw[<- eT]at bt ⊢;simp[Xf];refine dG (by decide) (by decide) hf3 fun way m4 w0 w1 hf4 kp4=>?_
 have kp4:=kp3.trans kp4
 simp[M3]
 by_cases c1:way<2
 ·refine .inr ⟨c1,sz (by decide),?_⟩
  refine dG (by decide) (by decide) hf4 fun q m5 q0 q1 hf5 kp5=>?_
  refine hG (P:=fun p=>∃ i:Int,p=.int i/\Bd 121 i) ?_ q0 q1 ?_
  ·intro p hp;simp at hp;rcases hp with rfl | rfl | rfl
   ·exact⟨0,rfl,Bd.mono (m:=2) (by unfold Bd;decide) (by decide)⟩
   ·exact⟨1,rfl,Bd.mono (m:=2) (by unfold Bd;decide) (by decide)⟩
   ·exact⟨-1,rfl,Bd.mono (m:=2) (by unfold Bd;decide) (by decide)⟩
  ·rintro _ ⟨i,rfl,bi⟩;exact last (T+i) way m5 ((bt.add bi).mono (by decide)) hf5 (kp4.trans kp5)
 ·exact .inl ⟨by omega,last T way m4 (bt.mono (by decide)) hf4 kp4⟩
theorem QK:VcE sF Au Fp Lq:=by
 rintro ds m R hl ⟨a,ts,ps,n,rfl,nm,ht,hb,n0,n1,hf,h⟩;have n6:ts.length<=6:=by simpa using nm.2.1
 have hfa:(m a).isSome=true:=by obtain⟨xs,e,_⟩:=hf;rw[e];rfl
 simp[Fp];refine⟨ts,rfl,n6,fun e m1 he kn1 hm1=>?_⟩;have ea:e≠a:=fun z=>by rw[z]at he;rw[he]at hfa;cases hfa
 have hf1:=hf.kn kn1
 have hfa1:(m1 a).isSome=true:=by obtain⟨xs,e,_⟩:=hf1;rw[e];rfl
 simp[Wh,sz];intro c hc;have ca:c≠a:=fun z=>by rw[z]at hc;rw[hc]at hfa1;cases hfa1
 have ce:c≠e:=fun z=>by rw[z,hm1]at hc;cases hc
 have kn2:Kn m1 (cK m1 c (.l [])):=.new hc
 have hf2:=hf1.kn kn2
 have hm2:=kn2.get hm1
 obtain⟨m2,em2⟩:∃ m2,m2=cK m1 c (.l []):=⟨_,rfl⟩;have hc2:m2 c=some (.l []):=by rw[em2,eI]
 rw[<- em2]at hf2 hm2 ⊢;simp[M9];refine dG (by omega) (by omega) hf2 fun r m3 r0 r1 hf3 kp3=>?_
 obtain⟨rn,rfl⟩:∃ rn:Nat,r=rn:=⟨r.toNat,by omega⟩
 refine⟨_,rfl,by omega,by omega,?_⟩
 rw[Int.toNat_natCast];refine Ev (N:=rn) (fun i d m'=>(∃ o6,d=[some (.cel a),some (.dat (TH ts)),some (.dat (.tuple ps)),some (I n),some (.cel e),some (.cel c),o6])/\Feeds m' a/\m' e=some (.l ((dU ts).map eD))/\∃ ss:List Say,m' c=some (.l (ss.map fB))/\ss.length<=i/\∀ s∈ss,kF ts s) ?_ ?_ rn 0 (by omega) _ _ ⟨⟨_,rfl⟩,hf3,kp3.get ea hm2,[],kp3.get ca hc2,by simp,by simp⟩
 ·rintro d m4 ⟨⟨o6,rfl⟩,hf4,_,ss,hs,hl,ok⟩;simp[Zf,hs,sz];exact h ss m4 (by omega) ok hf4
 ·rintro i d m4 K hi ⟨⟨o6,rfl⟩,hf4,he4,ss,hs,hl,ok⟩ hk;have q1:(ss.map fB).length<sizeLine:=Nat.lt_of_lt_of_le (show _<1000 by rw[List.length_map];omega) (sz (by decide))
  -- what an item does
  have add:∀ s m5,kF ts s->Feeds m5 a->Kp a m4 m5->K [some (.cel a),some (.dat (TH ts)),some (.dat (.tuple ps)),some (I n),some (.cel e),some (.cel c),some (I i)] (cK m5 c (.l (ss.map fB++[fB s]))):=fun s m5 os hf5 kp5=>by
   refine hk _ _ ⟨⟨_,rfl⟩,?_,?_,ss++[s],by rw[eI,List.map_append];rfl,by simp;omega,fun z hz=>?_⟩
   ·obtain⟨xs,q,f⟩:=hf5;exact⟨xs,by rw[eR (Ne.symm ca)];exact q,f⟩
   ·rw[eR (Ne.symm ce)];exact kp5.get ea he4
   ·rcases List.mem_append.mp hz with hz | hz
    ·exact ok z hz
    ·cases List.mem_singleton.mp hz
     exact os
  have skip:∀ m5,Feeds m5 a->Kp a m4 m5->K [some (.cel a),some (.dat (TH ts)),some (.dat (.tuple ps)),some (I n),some (.cel e),some (.cel c),some (I i)] m5:=fun m5 hf5 kp5=>hk _ _ ⟨⟨_,rfl⟩,hf5,kp5.get ea he4,ss,kp5.get ca hs,by omega,ok⟩
  have gap:∀ m5,Feeds m5 a->Kp a m4 m5->1<(dU ts).length->wM [.cel a,.dat (TH ts),.dat (.tuple ps)] m5 fun x m6=>∃ xs p,x=.dat p/\m6 c=some (.l xs)/\xs.length<sizeLine/\K [some (.cel a),some (.dat (TH ts)),some (.dat (.tuple ps)),some (I n),some (.cel e),some (.cel c),some (I i)] (cK m6 c (.l (xs++[p]))):=fun m5 hf5 kp5 c1 =>
   ⟨a,ts,ps,rfl,nm,ht,hb,by omega,hf5,fun s m6 os hf6 kp6=>⟨_,_,rfl,(kp5.trans kp6).get ca hs,q1,add s m6 os hf6 (kp5.trans kp6)⟩⟩
  have le:((List.map eD (dU ts)).length:Int)=((dU ts).length:Int):=by rw[List.length_map]
  simp[E9,hs]
  by_cases c0:1<ts.length
  ·refine .inr ⟨by omega,dG (by decide) (by decide) hf4 fun q m5 q0 q2 hf5 kp5=>?_⟩
   simp
   by_cases c2:q<3
   ·refine .inr ⟨c2,⟨_,kp5.get ca hs⟩,a,ts,ps,rfl,nm,ht,by omega,hf5,fun s m6 os hf6 kp6=>⟨_,_,rfl,(kp5.trans kp6).get ca hs,q1,add s m6 os hf6 (kp5.trans kp6)⟩⟩
   ·refine .inl ⟨by omega,_,kp5.get ea he4,?_⟩
    by_cases c1:1<(dU ts).length
    ·exact .inr ⟨by rw[le];omega,⟨_,kp5.get ca hs⟩,gap m5 hf5 kp5 c1⟩
    ·exact .inl ⟨by rw[le];omega,skip m5 hf5 kp5⟩
  ·refine .inl ⟨by omega,_,he4,?_⟩
   by_cases c1:1<(dU ts).length
   ·exact .inr ⟨by rw[le];omega,gap m4 hf4 .refl c1⟩
   ·exact .inl ⟨by rw[le];omega,skip m4 hf4 .refl⟩
theorem Iw:∀ {xs:List PyData},shA xs=true ↔ ∀ x∈xs,jB x=true
 | []=>by simp[shA]
 | x::xs=>by simp[shA,Iw (xs:=xs)]
theorem Mg{n:Nat}:∀ {xs:List PyData},(∀ x∈xs,Ly n x)->PyData.canLayAll0 xs=true/\PyData.depthAll xs<=n
 | [],_=>by simp[PyData.canLayAll0,PyData.depthAll]
 | x::xs,h=>by
  obtain⟨h1,h2⟩:=Mg fun y hy=>h y (List.mem_cons_of_mem _ hy);obtain⟨g1,g2,_⟩:=h x List.mem_cons_self;exact⟨by simp only[PyData.canLayAll0,h1,g1,Bool.and_self],by simp only[PyData.depthAll];omega⟩
theorem Tr{n:Nat}{xs:List PyData}(h:∀ x∈xs,Ly n x):Ly (n+1) (.tuple xs):=by
 obtain⟨h1,h2⟩:=Mg h;exact⟨by simpa only[PyData.canLay0] using h1,by simp only[PyData.depth];omega,by simp only[jB];exact Iw.mpr fun x hx=>(h x hx).2.2⟩
theorem QJ{n:Nat}{xs:List PyData}(h:∀ x∈xs,Ly n x):Ly (n+1) (.list xs):=by
 obtain⟨h1,h2⟩:=Mg h;exact⟨by simpa only[PyData.canLay0] using h1,by simp only[PyData.depth];omega,by simp only[jB];exact Iw.mpr fun x hx=>(h x hx).2.2⟩
theorem Tq{n:Nat}:∀ {xs:List PyData},PyData.canLayAll0 xs=true->PyData.depthAll xs<=n->shA xs=true->∀ x∈xs,Ly n x
 | y::ys,h1,h2,h3,x,hx=>by
  simp only[PyData.canLayAll0,Bool.and_eq_true]at h1;simp only[PyData.depthAll]at h2;simp only[shA,Bool.and_eq_true]at h3;rcases List.mem_cons.mp hx with rfl | hx
  ·exact⟨h1.1,by omega,h3.1⟩
  ·exact Tq h1.2 (by omega) h3.2 x hx
theorem eQ{n:Nat}{xs:List PyData}(h:Ly n (.tuple xs)):∀ x∈xs,Ly n x:=by
 obtain⟨h1,h2,h3⟩:=h;simp only[PyData.canLay0]at h1;simp only[PyData.depth]at h2;simp only[jB]at h3;exact Tq h1 (by omega) h3
theorem Ly.mono{n k:Nat}{p:PyData}(h:Ly n p)(hk:n<=k):Ly k p:=⟨h.1,Nat.le_trans h.2.1 hk,h.2.2⟩
theorem Vq{n:Nat}{z:Str}(h:Ly n (.str z)):z.length<=sizeLine:=sz (by simpa[jB] using h.2.2)
theorem EF{z:Str}(h:gc z):PyData.strOk z=true:=by
 unfold PyData.strOk;rw[<- Array.all_toList,List.all_eq_true];exact fun c hc=>by simpa using h c hc
theorem Ls{z:Str}(h:kD z):gc z:=fun c hc=>by
 have:=List.all_eq_true.mp h.1 c hc
 simpa using this
theorem oK{z:Str}(h:gc z)(hl:z.length<=1000):Ly 1 (.str z):=⟨by simpa[PyData.canLay0] using EF h,by simp[PyData.depth],by simpa[jB] using hl⟩
theorem Bv:Ly 1 .none:=⟨by simp[PyData.canLay0],by simp[PyData.depth],by simp[jB]⟩
theorem Fe{b:Bool}:Ly 1 (.bool b):=⟨by simp[PyData.canLay0],by simp[PyData.depth],by simp[jB]⟩
theorem kQ{i:Int}(h:Bd 400 i):Ly 1 (.int i):=⟨by simp[PyData.canLay0],by simp[PyData.depth],by simp only[jB];exact decide_eq_true h⟩
theorem Aj:∀ a:List Nat,ltCps a a=false
 | []=>rfl
 | a::r=>by simp[ltCps,Aj r]
theorem Up:∀ a b:List Nat,ltCps a b=false->ltCps b a=false->a=b
 | [],[],_,_=>rfl
 | [],_::_,h,_=>by simp[ltCps]at h
 | _::_,[],_,h=>by simp[ltCps]at h
 | a::r,b::t,h,g=>by
  simp[ltCps]at h g;have e:a=b:=by omega
  subst e;rw[Up r t (by simpa using h) (by simpa using g)]
theorem Po:∀ a b c:List Nat,ltCps a b=true->ltCps b c=true->ltCps a c=true
 | [],[],_,h,_=>by simp[ltCps]at h
 | [],_::_,[],_,g=>by simp[ltCps]at g
 | [],_::_,_::_,_,_=>rfl
 | _::_,[],_,h,_=>by simp[ltCps]at h
 | _::_,_::_,[],_,g=>by simp[ltCps]at g
 | a::r,b::t,c::u,h,g=>by
  simp[ltCps]at h g ⊢;rcases h with h | ⟨rfl,h⟩
  ·rcases g with g | ⟨rfl,g⟩
   ·exact .inl (by omega)
   ·exact .inl h
  ·rcases g with g | ⟨rfl,g⟩
   ·exact .inl g
   ·exact .inr ⟨rfl,Po r t u h g⟩
theorem Uw:∀ a b:List Nat,decide (a<b)=ltCps a b
 | [],[]=>by simp[ltCps]
 | [],_::_=>by simp[ltCps]
 | _::_,[]=>by simp[ltCps]
 | a::r,b::t=>by
  have:=Uw r t
  rw[Bool.eq_iff_iff]at this ⊢;simp[ltCps,List.cons_lt_cons_iff]at this ⊢;rw[this]
abbrev Lt(x y:Str):Prop:=ltCps x.cps.toList y.cps.toList=true
theorem US{x y:Str}(h:x.cps.toList=y.cps.toList):x=y:=by
 cases x;cases y
 simp at h;rw[h]
def up:Str->List Str->Bool
 | _,[]=>true
 | l,z::zs=>ltCps l.cps.toList z.cps.toList&&up z zs
theorem Bt:∀ {zs:List Str} {l:Str},up l zs=true->List.Pairwise Lt (l::zs)
 | [],l,_=>by simp
 | z::zs,l,h=>by
  simp only[up,Bool.and_eq_true]at h;have ih:=Bt h.2
  refine List.pairwise_cons.mpr ⟨fun y hy=>?_,ih⟩;rcases List.mem_cons.mp hy with rfl | hy
  ·exact h.1
  ·exact Po _ _ _ h.1 ((List.pairwise_cons.mp ih).1 y hy)
theorem Xd:∀ {zs:List Str} {l:Str},List.Pairwise Lt (l::zs)->up l zs=true
 | [],l,_=>rfl
 | z::zs,l,h=>by
  obtain⟨h1,h2⟩:=List.pairwise_cons.mp h;simp only[up,Bool.and_eq_true];exact⟨h1 z List.mem_cons_self,Xd h2⟩
theorem F5:∀ {zs:List Str} {l:Str},risingS l zs=true->(l::zs).Nodup->up l zs=true
 | [],l,_,_=>rfl
 | z::zs,l,h,nd=>by
  simp only[risingS,Bool.and_eq_true,Bool.not_eq_true']at h;simp only[up,Bool.and_eq_true];have nd2:=(List.nodup_cons.mp nd)
  refine⟨?_,F5 h.2 nd2.2⟩
  cases e:ltCps l.cps.toList z.cps.toList
  ·exact(nd2.1 (by rw[US (Up _ _ e h.1)];exact List.mem_cons_self)).elim
  ·rfl
theorem GP{ys:List Str}(h:sortedS ys=true)(nd:ys.Nodup):List.Pairwise Lt ys:=by
 cases ys with
 | nil=>simp
 | cons y ys=>exact Bt (F5 h nd)
theorem Ru:∀ {xs ys:List Str},List.Pairwise Lt xs->List.Pairwise Lt ys->(∀ z,z∈xs↔z∈ys)->xs=ys
 | [],[],_,_,_=>rfl
 | [],y::ys,_,_,h=>by have:=(h y).mpr List.mem_cons_self;cases this
 | x::xs,[],_,_,h=>by have:=(h x).mp List.mem_cons_self;cases this
 | x::xs,y::ys,hx,hy,h=>by
  obtain⟨x1,x2⟩:=List.pairwise_cons.mp hx;obtain⟨y1,y2⟩:=List.pairwise_cons.mp hy;have e:x=y:=by
   rcases List.mem_cons.mp ((h x).mp List.mem_cons_self) with e | e
   ·exact e
   ·rcases List.mem_cons.mp ((h y).mpr List.mem_cons_self) with g | g
    ·exact g.symm
    ·have:=Po _ _ _ (x1 y g) (y1 x e)
     rw[Aj]at this
     cases this
  subst e
  congr 1
  refine Ru x2 y2 fun z=>⟨fun hz=>?_,fun hz=>?_⟩
  ·rcases List.mem_cons.mp ((h z).mp (List.mem_cons_of_mem _ hz)) with rfl | g
   ·have:=x1 z hz
    rw[Lt,Aj]at this
    cases this
   ·exact g
  ·rcases List.mem_cons.mp ((h z).mpr (List.mem_cons_of_mem _ hz)) with rfl | g
   ·have:=y1 z hz
    rw[Lt,Aj]at this
    cases this
   ·exact g
theorem NX{zs ys:List Str}(h0:∀ z∈zs,1<=z.length)(hp:ys.Perm (jM zs))(hs:sortedS ys=true):decide (zs=ys)=up "" zs:=by
 obtain⟨n1,n2,n3⟩:=Nd zs;have py:=GP hs (hp.nodup_iff.mpr n1)
 rw[Bool.eq_iff_iff,decide_eq_true_iff]
 constructor
 ·intro e;refine Xd (List.pairwise_cons.mpr ⟨fun z hz=>?_,by rw[e];exact py⟩)
  have:=h0 z hz
  cases e1:z.cps.toList with
  | nil =>
   have:z.length=z.cps.toList.length:=by simp[Str.length]
   rw[e1]at this;simp at this;omega
  | cons c r=>rw[Lt,e1];rfl
 ·intro h;exact Ru (List.pairwise_cons.mp (Bt h)).2 py fun z=>by rw[hp.mem_iff,n2]
theorem A7:∀ xs ys:List Str,PyData.eqvAll (xs.map .str) (ys.map .str)=decide (xs=ys)
 | [],[]=>by simp[PyData.eqvAll]
 | [],_::_=>by simp[PyData.eqvAll]
 | _::_,[]=>by simp[PyData.eqvAll]
 | x::xs,y::ys=>by
  rw[Bool.eq_iff_iff];simp[PyData.eqvAll,PyData.eqv,A7 xs ys]
theorem Qt:∀ (xs:List PyData) (l:Str),sZ l xs=(xs.all fA&&up l (xs.map kK))
 | [],l=>rfl
 | x::xs,l=>by
  rw[sZ,Qt xs,Uw];simp only[List.all_cons,List.map_cons,up]
  cases fA x<;>cases ltCps l.cps.toList (kK x).cps.toList<;>simp
theorem Ax{f:DE}{m:Mu}{bC:List (Option D)}(h:PyData->PyData):∀ (xs:List PyData) (acc:List PyData) (o:Option D) (Q:List PyData->Mu->Prop),(∀ x∈xs,∀ K:DK,K (.dat (h x)) m->f (some (.dat x)::bC) m K)->acc.length+xs.length<=1000->Q (acc++xs.map h) m->eJ (gN 0) eO f (xs.map .dat) acc (o::bC) m Q
 | [],acc,o,Q,_,_,hq=>by simpa[eJ] using hq
 | x::xs,acc,o,Q,hs,hn,hq=>by
  simp only[List.length_cons]at hn;rw[List.map_cons,eJ];show f (some (.dat x)::bC) m _
  refine hs x List.mem_cons_self _ ?_;exact⟨_,rfl,Nat.lt_of_lt_of_le (by omega:acc.length<1000) (sz (by decide)),Ax h xs _ _ Q (fun y hy=>hs y (List.mem_cons_of_mem _ hy)) (by simp;omega) (by simpa using hq)⟩
def tO:PyData->PyData
 | .str z=>.bool (Txt.contains "abcdefghijklmnopqrstuvwxyz" z)
 | _=>.none
theorem Zc(z:Str):(gK z).map tO=(z.cps.toList.map fun c=>Txt.contains "abcdefghijklmnopqrstuvwxyz" ⟨#[c]⟩).map PyData.bool:=by
 simp[gK,tO,Function.comp_def]
theorem L4(z:Str):z.cps.toList.length=z.length:=by simp[Str.length]
theorem EV:VcE nS tR zQ Nz:=by
 rintro ds m R hl ⟨p,rfl,hp,h⟩
 cases p with
 | str z =>
  have zs:=Vq hp
  simp[zQ,zs];simp only[jN]at h
  by_cases c1:1<=z.length
  ·have i1:¬ ((z.length:Int)<1):=by omega
   by_cases c2:z.length<=8
   ·have i2:¬ (8<(z.length:Int)):=by omega
    refine .inr ⟨by omega,.inr ⟨by omega,?_⟩⟩
    simp[Uh,cV];rw[show List.map (D.dat∘fun c=>PyData.str {cps:=#[c]}) z.cps.toList=(gK z).map D.dat from by rw[gK,List.map_map]]
    refine Ax tO (gK z) [] _ _ ?_ ?_ ?_
    ·intro x hx K hK;obtain⟨c,hc,rfl⟩:=List.mem_map.mp hx;simpa[tO] using hK
    ·rw[List.length_nil,gK,List.length_map,L4];omega
    ·rw[List.nil_append,Zc];refine⟨_,rfl,?_⟩;simpa[c1,c2,List.all_map,Function.comp_def] using h
   ·have i2:8<(z.length:Int):=by omega
    exact .inr ⟨by omega,.inl ⟨by omega,by simpa[c2] using h⟩⟩
  ·have i1:(z.length:Int)<1:=by omega
   exact .inl ⟨by omega,by simpa[c1] using h⟩
 | _=>simpa[zQ,jN] using h
theorem y7:VcE oR zV Ak Ha:=by
 rintro ds m R hl ⟨p,rfl,hp,h⟩
 cases p with
 | str z =>
  have zs:=Vq hp
  simp[Ak,zs];simp only[jN]at h
  by_cases c1:1<=z.length
  ·have i1:¬ ((z.length:Int)<1):=by omega
   by_cases c2:z.length<=8
   ·have i2:¬ (8<(z.length:Int)):=by omega
    refine .inr ⟨by omega,.inr ⟨by omega,?_⟩⟩
    simp[Ue,cV];rw[show List.map (D.dat∘fun c=>PyData.str {cps:=#[c]}) z.cps.toList=(gK z).map D.dat from by rw[gK,List.map_map]]
    refine Ax tO (gK z) [] _ _ ?_ ?_ ?_
    ·intro x hx K hK;obtain⟨c,hc,rfl⟩:=List.mem_map.mp hx;simpa[tO] using hK
    ·rw[List.length_nil,gK,List.length_map,L4];omega
    ·rw[List.nil_append,Zc];refine⟨_,rfl,?_⟩;have e:∀ l:List Bool,(!decide (false∈l))=l.all id:=fun l=>by
      rw[Bool.eq_iff_iff];simp[List.all_eq_true]
     rw[e];simpa[c1,c2,List.all_map,Function.comp_def] using h
   ·have i2:8<(z.length:Int):=by omega
    exact .inr ⟨by omega,.inl ⟨by omega,by simpa[c2] using h⟩⟩
  ·have i1:(z.length:Int)<1:=by omega
   exact .inl ⟨by omega,by simpa[c1] using h⟩
 | _=>simpa[Ak,jN] using h
theorem FA(y:PyData):([PyData.str "point",.str "stretch"].any fun z=>z.eqv y)=kE y:=by
 cases y with
 | str z =>
  rw[Bool.eq_iff_iff];simp only[PyData.eqv,kE,List.any_cons,List.any_nil,Bool.or_false,Bool.or_eq_true,decide_eq_true_iff,beq_iff_eq];exact⟨fun h=>h.imp Eq.symm Eq.symm,fun h=>h.imp Eq.symm Eq.symm⟩
 | _=>simp[PyData.eqv,kE]
theorem nH(i j:Int):PyData.eqv (.int i) (.int j)=decide (i=j):=by
 rw[Bool.eq_iff_iff];simp[PyData.eqv]
theorem EC:VcE rC yC uM Is:=by
 rintro ds m R hl ⟨p,rfl,hp,h⟩
 cases p with
 | tuple xs =>
  have hx:=eQ hp
  by_cases c:xs.length=2
  ·obtain⟨x,y,rfl⟩:∃ x y,xs=[x,y]:=by
    match xs,c with
    | [x,y],_=>exact⟨x,y,rfl⟩
   have lx:=hx x (by simp)
   have ly:=hx y (by simp)
   simp[uM,nH,PyData.canLay0,PyData.depth];refine⟨x,rfl,lx,?_⟩;simp only[fA]at h
   cases e:jN x
   ·rw[e]at h;simpa using h
   ·rw[e]at h;simp[sz,ly.1,PyData.canLayAll0,PyData.canLay0];have k:=FA y
    simp at k;refine⟨by have:=ly.2.1;omega,?_⟩
    rw[k];simpa using h
  ·have e:fA (.tuple xs)=false:=by
    match xs,c with
    | [],_=>rfl
    | [_],_=>rfl
    | _::_::_::_,_=>rfl
   rw[e]at h;have i:¬ ((xs.length:Int)=2):=by omega
   simp[uM,nH,PyData.canLay0,PyData.depth,i];exact h
 | _=>simpa[uM,fA] using h
theorem QX:VcE lR sH Fa Kq:=by
 rintro ds m R hl ⟨ts,rfl,hn,h⟩;simp[Fa,cV];refine Ag (fun bC acc d m'=>m'=m/\(∃ o1 o2,d=[o1,o2])/\∃ done todo,ts=done++todo/\bC=todo.map (fun t=>.dat (.tuple [.str t.1,t.2]))/\acc=done.map fun t=>.str t.1) ?_ ?_ _ _ _ _ ⟨rfl,⟨_,_,rfl⟩,[],ts,rfl,by first | rfl | (rw[List.map_map];rfl) | simp,rfl⟩
 ·rintro acc d m1 ⟨rfl,_,done,todo,e1,e2,rfl⟩;have e3:todo=[]:=by simpa using e2.symm
  subst e3;rw[List.append_nil]at e1;subst e1;exact h
 ·rintro x xs acc d m1 k ⟨rfl,⟨o1,o2,rfl⟩,done,todo,e1,e2,rfl⟩ hk
  cases todo with
  | nil=>simp at e2
  | cons t todo =>
   obtain⟨rfl,rfl⟩:=List.cons.inj e2;have hln:done.length<7:=by
    have:=congrArg List.length e1
    simp at this;omega
   simp;exact⟨Nat.lt_of_lt_of_le hln (sz (n:=7) (by decide)),hk _ _ _ ⟨rfl,⟨_,_,rfl⟩,done++[t],todo,by rw[e1];simp,rfl,by simp⟩⟩
def Tz(p:PyData):PyData:=.bool (fA p)
theorem Uz{x:PyData}(h:fA x=true):∃ (z:Str) (y:PyData),x=.tuple [.str z,y]/\jN (.str z)=true/\kE y=true:=by
 unfold fA at h
 split at h
 ·rename_i x y;simp only[Bool.and_eq_true]at h
  cases x with
  | str z=>exact⟨z,y,rfl,h.1,h.2⟩
  | _=>exact nomatch h.1
 ·cases h
theorem B5:∀ {xs:List PyData},xs.all fA=true->∃ ts:List (Str×PyData),xs=ts.map (fun t=>.tuple [.str t.1,t.2])/\∀ t∈ts,jN (.str t.1)=true/\kE t.2=true
 | [],_=>⟨[],rfl,by simp⟩
 | x::xs,h=>by
  simp only[List.all_cons,Bool.and_eq_true]at h;obtain⟨ts,e,q⟩:=B5 h.2;obtain⟨z,y,e1,q1,q2⟩:=Uz h.1;refine⟨(z,y)::ts,by rw[e1,e];rfl,fun t ht=>?_⟩
  rcases List.mem_cons.mp ht with rfl | ht
  ·exact⟨q1,q2⟩
  ·exact q t ht
theorem Yg{zs:List Str}(h:∀ z∈zs,PyData.strOk z=true):(PyData.list (zs.map .str)).canLay0=true:=by
 simp only[PyData.canLay0]
 induction zs with
 | nil=>rfl
 | cons z zs ih =>
  simp only[List.map_cons,PyData.canLayAll0,PyData.canLay0,Bool.and_eq_true];exact⟨h z List.mem_cons_self,ih fun y hy=>h y (List.mem_cons_of_mem _ hy)⟩
theorem DZ(zs:List Str):(PyData.list (zs.map .str)).depth<=100:=by
 simp only[PyData.depth];have:PyData.depthAll (zs.map PyData.str)<=1:=by
  induction zs with
  | nil=>simp[PyData.depthAll]
  | cons z zs ih=>simp only[List.map_cons,PyData.depthAll,PyData.depth];omega
 omega
theorem JJ:VcE rT wW yH Oa:=by
 rintro ds m R hl ⟨p,rfl,hp,h⟩
 cases p with
 | tuple xs =>
  have hx:=eQ hp
  simp[yH];simp only[jR]at h
  by_cases c1:1<=xs.length
  ·have i1:¬ ((xs.length:Int)<1):=by omega
   by_cases c2:xs.length<=6
   ·have i2:¬ (6<(xs.length:Int)):=by omega
    refine .inr ⟨by omega,.inr ⟨by omega,?_⟩⟩
    simp[C3,cV];refine Ax Tz xs [] _ _ ?_ (by simp;omega) ?_
    ·intro x hx' K hK;simp;exact⟨_,rfl,hx x hx',hK⟩
    ·refine⟨xs.map fA,by simp[Tz],?_⟩
     simp only[c1,c2,decide_true,Bool.true_and,Qt]at h
     cases e:xs.all fA
     ·rw[e]at h;have ef:false∈xs.map fA:=by
       obtain⟨x,h1,h2⟩:=List.all_eq_false.mp e;exact List.mem_map.mpr ⟨x,h1,by simpa using h2⟩
      rw[if_pos ef];simpa using h
     ·rw[e]at h;have ef:¬ false∈xs.map fA:=fun g=>by
       obtain⟨x,h1,h2⟩:=List.mem_map.mp g;rw[List.all_eq_true.mp e x h1]at h2
       cases h2
      rw[if_neg ef];simp only[Bool.true_and]at h;obtain⟨ts,rfl,tq⟩:=B5 e;simp[Zw];refine⟨ts,rfl,by simpa using c2,?_⟩
      have e1:(ts.map fun t=>PyData.str t.1)=(ts.map (·.1)).map PyData.str:=by simp
      have n0:∀ z∈ts.map (·.1),1<=z.length:=fun z hz=>by
       obtain⟨t,ht,rfl⟩:=List.mem_map.mp hz;have:=(tq t ht).1
       simp only[jN,Bool.and_eq_true,decide_eq_true_iff]at this;exact this.1
      have so:∀ z∈ts.map (·.1),PyData.strOk z=true:=fun z hz=>by
       obtain⟨t,ht,rfl⟩:=List.mem_map.mp hz;have:=eQ (hx _ (List.mem_map.mpr ⟨t,ht,rfl⟩)) (.str t.1) (by simp)
       simpa[PyData.canLay0] using this.1
      have e2:(ts.map fun t=>PyData.tuple [.str t.1,t.2]).map kK=ts.map (·.1):=by simp[kK,Function.comp_def]
      rw[e2]at h;rw[e1]
      generalize hz:ts.map (·.1)=zs at *
      have zl:zs.length<=60:=by rw[<- hz];simp at c2 ⊢;omega
      simp[Wf];refine⟨zs,rfl,zl,fun ys hpm hs=>?_⟩;have ho:=Nd zs
      refine⟨Yg so,Yg fun z hz=>so z ((ho.2.1 z).mp (hpm.mem_iff.mp hz)),DZ _,?_⟩;rw[show PyData.eqv (.list (zs.map .str)) (.list (ys.map .str))=PyData.eqvAll (zs.map .str) (ys.map .str) from by simp[PyData.eqv],A7,NX n0 hpm hs]
      exact h
   ·have i2:6<(xs.length:Int):=by omega
    exact .inr ⟨by omega,.inl ⟨by omega,by simpa[c2] using h⟩⟩
  ·have i1:(xs.length:Int)<1:=by omega
   exact .inl ⟨by omega,by simpa[c1] using h⟩
 | _=>simpa[yH,jR] using h
theorem JT(y:PyData):(∃ z:Str,y=.str z/\kE y=decide (z∈[Str.ofString "point","stretch"]))\/((∀ z,y≠.str z)/\kE y=false):=by
 cases y with
 | str z=>exact .inl ⟨z,rfl,by simp[kE]⟩
 | _=>exact .inr ⟨by simp,rfl⟩
theorem kJ{W}:(!bV (.tuple W) "tuple")=false:=by simp
theorem kR{p}(h:∀ W,p≠.tuple W):(!bV p "tuple")=true:=by cases p<;>first | exact absurd rfl (h _) | simp
theorem kT{b:Bool}(h:b=true):(!b)=false:=by rw[h];rfl
theorem kU{b:Bool}(h:b=false):(!b)=true:=by rw[h];rfl
theorem jL(i j:Int):PyData.eqv (.int i) (.int j)=(i==j):=by simp[PyData.eqv]
theorem mZ{n:Nat}{k:Int}(h:(n:Int)≠k):PyData.eqv (.int n) (.int k)=false:=by rw[jL,beq_eq_false_iff_ne];exact h
theorem yU{W}:(!bV (.str W) "str")=false:=by simp
theorem yG{p}(h:∀ z,p≠.str z):(!bV p "str")=true:=by cases p<;>first | exact absurd rfl (h _) | simp
theorem Sn{E:Ends2}{m:Mu}{T:D}{R:DK}(hr:E.rt=R)(hn:∀ l o,R (.dat (.bool true)) m->E.nx [some T,some (.dat (.str l)),o] m):∀ (xs:List PyData) (l:Str) (o:Option D),(∀ x∈xs,Ly 40 x)->R (.dat (.bool (sZ l xs))) m ->
  eP (gN 2) Ql E (xs.map .dat) [some T,some (.dat (.str l)),o] m
 | [],l,o,_,h=>hn l o h
 | x::xs,l,o,hx,h=>by
  have lx:=hx x List.mem_cons_self
  have hx':=fun y hy=>hx y (List.mem_cons_of_mem _ hy)
  rw[List.map_cons,eP];have ih:=Sn hr hn xs (kK x) (some (.dat x)) hx'
  obtain⟨K,hK⟩:∃ K,K=eP (gN 2) Ql E (xs.map .dat):=⟨_,rfl⟩;rw[<- hK]at ih ⊢;have bad:fA x=false->E.rt (.dat (.bool false)) m:=fun e=>by rw[sZ,e]at h;rw[hr];exact h
  refine⟨_,rfl,_,rfl,_,rfl,?_⟩
  by_cases tx:∃ ys,x=.tuple ys
  ·obtain⟨ys,rfl⟩:=tx;have hy:=eQ lx
   refine bP kJ ⟨_,rfl,rfl,rfl,Nat.zero_le _,_,rfl,?_⟩
   by_cases c:ys.length=2
   ·obtain⟨u,v,rfl⟩:∃ u v,ys=[u,v]:=by
     match ys,c with
     | [u,v],_=>exact⟨u,v,rfl⟩
    refine bP (kT (by rw[jL];rfl)) ⟨_,rfl,_,hV _ _,rfl,u,rfl,hy u (by simp),_,rfl,?_⟩
    cases e:jN u
    ·exact bF rfl (bF rfl (bad (by simp[fA,e])))
    ·cases u with
     | str z =>
      rw[sZ]at h;simp only[fA,e,kK,Bool.true_and]at h ih;refine bP rfl ⟨_,rfl,_,hV _ _,_,rfl,_,rfl,?_⟩
      by_cases g:l.cps.toList<z.cps.toList
      ·simp only[g,decide_true,Bool.true_and]at h;refine bP (kT (decide_eq_true g)) ⟨_,rfl,_,jT _ _ _,_,rfl,_,rfl,?_⟩;rcases JT v with⟨y,rfl,ky⟩ | ⟨nv,kv⟩
       ·rw[ky]at h;refine bP yU ⟨_,rfl,_,jT _ _ _,_,rfl,z2,?_⟩;refine⟨[Str.ofString "point","stretch"],rfl,_,rfl,?_⟩
        by_cases q:y∈[Str.ofString "point","stretch"]
        ·rw[decide_eq_true q]at h ⊢;exact bP rfl ⟨_,rfl,_,hV _ _,ih h⟩
        ·rw[decide_eq_false q,Bool.false_and,<- hr]at h;exact bF (kU (decide_eq_false q)) h
       ·rw[kv]at h;refine bF (yG nv) (bF rfl ?_);rw[<- hr]at h;exact h
      ·simp only[g,decide_false,Bool.false_and,Bool.and_false]at h;rw[<- hr]at h;exact bF (kU (decide_eq_false g)) h
     | _=>cases e
   ·have e:fA (.tuple ys)=false:=by
     match ys,c with
     | [],_=>rfl
     | [_],_=>rfl
     | _::_::_::_,_=>rfl
    exact bF (kU (mZ (by omega))) (bF rfl (bad e))
  ·refine bF (kR fun W e=>tx ⟨W,e⟩) (bF rfl (bad ?_))
   cases x<;>first | rfl | exact absurd ⟨_,rfl⟩ tx
theorem Z8:VcE rZ zB yP Hi:=by
 rintro ds m R hl ⟨p,rfl,hp,h⟩
 cases p with
 | tuple xs =>
  have hx:=eQ hp
  simp[yP];simp only[jR]at h
  by_cases c1:1<=xs.length
  ·by_cases c2:xs.length<=6
   ·refine .inr ⟨by omega,.inr ⟨by omega,?_⟩⟩
    simp only[c1,c2,decide_true,Bool.true_and]at h;simp[Yl,Uc];exact Sn (R:=R) rfl (fun l o q=>by simpa[Xs] using q) xs "" none hx h
   ·exact .inr ⟨by omega,.inl ⟨by omega,by simpa[c2] using h⟩⟩
  ·exact .inl ⟨by omega,by simpa[c1] using h⟩
 | _=>simpa[yP,jR] using h
theorem A6{k j:aU}{p:PyData}:∀ {kvs:List (aU×PyData)},(∃ q,dZ kvs j=some q)\/j=k->∃ q,dZ (iI kvs k p) j=some q:=by
 intro kvs h;unfold iI
 split
 ·rename_i ha;rcases h with⟨q,hq⟩ | rfl
  ·unfold dZ at hq ⊢;rw[List.find?_map]
   cases e:kvs.find? (fun kv=>decide (kv.1=j)) with
   | none=>rw[e]at hq;cases hq
   | some kv =>
    have:(fun kv:aU×PyData=>decide (kv.1=j))∘(fun kv=>if kv.1=k then (kv.1,p) else kv)=fun kv=>decide (kv.1=j):=by
     funext kv
     simp only[Function.comp]
     split<;>rfl
    rw[this,e];exact⟨_,rfl⟩
  ·unfold dZ;rw[List.find?_map];have:(fun kv:aU×PyData=>decide (kv.1=j))∘(fun kv=>if kv.1=j then (kv.1,p) else kv)=fun kv=>decide (kv.1=j):=by
    funext kv
    simp only[Function.comp]
    split<;>rfl
   rw[this];obtain⟨kv,hm,hd⟩:=List.any_eq_true.mp ha
   cases e:kvs.find? (fun kv=>decide (kv.1=j)) with
   | none=>exact absurd hd (by simpa using List.find?_eq_none.mp e kv hm)
   | some kv=>exact⟨_,rfl⟩
 ·rename_i ha;unfold dZ;rw[List.find?_append];rcases h with⟨q,hq⟩ | rfl
  ·unfold dZ at hq
   cases e:kvs.find? (fun kv=>decide (kv.1=j)) with
   | none=>rw[e]at hq;cases hq
   | some kv=>exact⟨_,rfl⟩
  ·cases e:kvs.find? (fun kv=>decide (kv.1=j)) with
   | none=>exact⟨p,by simp⟩
   | some kv=>exact⟨_,rfl⟩
theorem FR{k:aU}{p:PyData}{kvs:List (aU×PyData)}{kv:aU×PyData}(h:kv∈iI kvs k p):kv∈kvs\/kv=(k,p):=by
 unfold iI at h
 split at h
 ·obtain⟨x,hx,e⟩:=List.mem_map.mp h
  split at e
  ·rename_i hk;subst e;exact .inr (by rw[hk])
  ·subst e;exact .inl hx
 ·rcases List.mem_append.mp h with h | h
  ·exact .inl h
  ·exact .inr (by simpa using h)
theorem Os:∀ {r acc:List (aU×PyData)} {kv:aU×PyData},kv∈fI acc r->kv∈acc\/kv∈r
 | [],acc,kv,h=>.inl h
 | x::r,acc,kv,h=>by
  have:kv∈fI (iI acc x.1 x.2) r:=h
  rcases Os this with h | h
  ·rcases FR h with h | h
   ·exact .inl h
   ·exact .inr (by rw[h];exact List.mem_cons_self)
  ·exact .inr (List.mem_cons_of_mem _ h)
theorem Su:∀ {r acc:List (aU×PyData)} {j:aU},((∃ q,dZ acc j=some q)\/∃ kv∈r,kv.1=j)->∃ q,dZ (fI acc r) j=some q
 | [],acc,j,h=>by
  rcases h with h | ⟨kv,h,_⟩
  ·exact h
  ·cases h
 | x::r,acc,j,h=>by
  show ∃ q,dZ (fI (iI acc x.1 x.2) r) j=some q
  refine Su ?_;rcases h with h | ⟨kv,h,e⟩
  ·exact .inl (A6 (.inl h))
  ·rcases List.mem_cons.mp h with rfl | h
   ·exact .inl (A6 (.inr e.symm))
   ·exact .inr ⟨kv,h,e⟩
theorem L5{k:aU}{p:PyData}{kvs:List (aU×PyData)}(h:dZ kvs k=some p):(k,p)∈kvs:=by
 unfold dZ at h
 cases e:kvs.find? (fun kv=>decide (kv.1=k)) with
 | none=>rw[e]at h;cases h
 | some kv =>
  rw[e]at h
  cases h
  have:=List.find?_some e
  have hk:kv.1=k:=by simpa using this
  rw[<- hk];exact List.mem_of_find?_eq_some e
def iB(ts:List (Str×Bool)):List (aU×PyData):=ts.map fun t=>(Sum.inr t.1,PyData.str (kd t.2))
theorem Ut(ts:List (Str×Bool)):TH ts=.tuple ((iB ts).map fun kv=>.tuple [qU kv.1,kv.2]):=by
 unfold iB;simp[qU,Function.comp_def]
theorem JE{ts:List (Str×Bool)}(nd:(ts.map (·.1)).Nodup){a:Str}{k l:Bool}(h:(a,k)∈ts)(g:(a,l)∈ts):k=l:=by
 induction ts with
 | nil=>cases h
 | cons t ts ih =>
  rw[List.map_cons,List.nodup_cons]at nd;rcases List.mem_cons.mp h with h1 | h1<;>rcases List.mem_cons.mp g with g1 | g1
  ·rw[<- h1]at g1;cases g1;rfl
  ·exact absurd (List.mem_map.mpr ⟨_,g1,by rw[<- h1]⟩) nd.1
  ·exact absurd (List.mem_map.mpr ⟨_,h1,by rw[<- g1]⟩) nd.1
  ·exact ih nd.2 h1 g1
theorem Fn{ts:List (Str×Bool)}(nd:(ts.map (·.1)).Nodup){a:Str}{k:Bool}(h:(a,k)∈ts):dZ (fI [] (iB ts)) (.inr a)=some (.str (kd k)):=by
 obtain⟨q,hq⟩:=Su (r:=iB ts) (acc:=[]) (j:=.inr a) (.inr ⟨_,List.mem_map.mpr ⟨(a,k),h,rfl⟩,rfl⟩);rcases Os (L5 hq) with g | g
 ·cases g
 ·obtain⟨u,hu,e⟩:=List.mem_map.mp g;obtain⟨u1,u2⟩:=u;simp at e;obtain⟨rfl,rfl⟩:=e;rw[hq,JE nd hu h]
theorem HB:VcE rD Ap Dj Rq:=by
 rintro ds m R hl ⟨ts,a,b,k,l,rfl,hn,nd,ha,hb,h⟩;have g1:=Fn nd ha
 have g2:=Fn nd hb
 simp[Dj];refine⟨iB ts,by simpa using Ut ts,sz (by simp[iB];omega),fun c hc=>?_⟩
 simp[Zx];refine⟨_,eI,_,g1,_,eI,_,g2,?_⟩;simp[sz];exact h _
theorem U9:VcE lE nF Dd Je:=by
 rintro ds m R hl ⟨p,rfl,h⟩
 cases p<;>simp[Dd]at h ⊢<;>exact h
theorem Da(p q:PyData):lX (.tuple [p,q])=match p,q with | .int a,.int b=>decide (1<=b)&&decide ((Int.gcd a b:Int)=1) | _,_=>false:=by
 cases p<;>cases q<;>rfl
theorem Tw{xs:List PyData}(h:xs.length≠2):lX (.tuple xs)=false:=by
 match xs,h with
 | [],_=>rfl
 | [p],_=>cases p<;>rfl
 | [_,_],h=>exact absurd rfl h
 | p::q::_::_,_=>cases p<;>cases q<;>rfl
theorem zH{p:PyData}(h:(bV p "int" && !bV p "bool")=true):∃ i,p=.int i:=by cases p<;>simp at h;exact⟨_,rfl⟩
theorem Wi{p q:PyData}(h:(bV p "int" && !bV p "bool")=false):lX (.tuple [p,q])=false:=by
 rw[Da]
 cases p<;>first | rfl | simp at h
theorem N0{i:Int}{q:PyData}(h:(bV q "int" && !bV q "bool")=false):lX (.tuple [.int i,q])=false:=by
 rw[Da]
 cases q<;>first | rfl | simp at h
theorem O8{x:Int}:bV (.int x) "bool"=false:=by simp
theorem Yt{x:Int}:(!bV (.int x) "int")=false:=by simp
theorem GH:VcE rY zI Kc Jj:=by
 rintro ds m R hl ⟨p,rfl,h⟩
 by_cases ht:∃ xs,p=.tuple xs
 ·obtain⟨xs,rfl⟩:=ht;refine⟨_,rfl,_,rfl,_,rfl,bP kJ ⟨_,rfl,rfl,rfl,Nat.zero_le _,_,rfl,?_⟩⟩
  by_cases hx:xs.length=2
  ·match xs,hx with
   | [p,q],_ =>
    refine bP (kT (by rw[jL];rfl)) ?_
    refine⟨_,rfl,?_⟩
    repeat first | refine⟨rfl,?_⟩ | refine⟨_,rfl,?_⟩
    cases hp:(bV p "int" && !bV p "bool") with
    | false =>
     rw[Wi hp]at h;exact bF rfl (bF rfl h)
    | true =>
     obtain⟨x,rfl⟩:=zH hp;refine bP rfl ?_
     repeat first | refine⟨rfl,?_⟩ | refine⟨_,rfl,?_⟩
     cases hq:(bV q "int" && !bV q "bool") with
     | false =>
      rw[N0 hq]at h;exact bF rfl h
     | true =>
      obtain⟨y,rfl⟩:=zH hq;rw[Da]at h;refine bP rfl ?_
      repeat first | refine⟨rfl,?_⟩ | refine⟨_,rfl,?_⟩
      dsimp only at h
      by_cases hy:1<=y
      ·rw[decide_eq_true hy]at h ⊢;refine bF rfl ?_
       repeat first | refine⟨rfl,?_⟩ | refine⟨_,rfl,?_⟩
       refine⟨_,_,rfl,rfl,rfl,Nat.zero_le _,?_⟩;rw[jL];have e:((((x.gcd y:Nat):Int))==1)=decide ((((x.gcd y:Nat):Int))=1):=by rw[Bool.eq_iff_iff];simp
       rw[e];simpa using h
      ·rw[decide_eq_false hy]at h ⊢;exact bP rfl h
  ·rw[Tw hx]at h;refine bF (kU ?_) h;rw[jL,beq_eq_false_iff_ne];omega
 ·refine⟨_,rfl,_,rfl,_,rfl,bF (kR fun W e=>ht ⟨W,e⟩) (bF rfl ?_)⟩;have:lX p=false:=by cases p<;>first | rfl | exact absurd ⟨_,rfl⟩ ht
  rw[this]at h;exact h
theorem AC{x y:Int}(hy:0<y):(fr x y).eqv (.tuple [.int x,.int y])=decide ((((x.gcd y:Nat):Int))=1):=by
 have g0:=Kf (t:=x) (b:=y) (by omega)
 unfold fr;simp only[PyData.eqv,PyData.eqvAll,Bool.and_true]
 by_cases hg:((x.gcd y:Nat):Int)=1
 ·rw[hg];simp
 ·rw[decide_eq_false hg];have:y / ((x.gcd y:Nat):Int)<y:=Int.ediv_lt_self_of_pos_of_ne_one hy (by omega) |> fun z=>z
  have e:(y / ((x.gcd y:Nat):Int)==y)=false:=by
   rw[beq_eq_false_iff_ne];omega
  rw[e,Bool.and_false]
theorem XE{w:Str}{p:PyData}(h:∀ z,p≠.str z):PyData.eqv (.str w) p=false:=by
 cases p with
 | str z=>exact absurd rfl (h z)
 | _=>simp[PyData.eqv]
theorem Tu{ws:List Str}{p:PyData}(h:∀ z,p≠.str z):((ws.map PyData.str).any fun y=>y.eqv p)=false:=by
 rw[List.any_eq_false];intro y hy;obtain⟨w,_,rfl⟩:=List.mem_map.mp hy;rw[XE h];decide
theorem N9{ws:List Str}{z:Str}(c:z∈ws):bY (ws.map PyData.str) (some ((ws.idxOf z:Int)+1)) none=(ws.drop (ws.idxOf z+1)).map .str:=by
 have hj:ws.idxOf z<ws.length:=List.idxOf_lt_length_iff.mpr c
 rw[show((ws.idxOf z:Int)+1)=((ws.idxOf z+1:Nat):Int) by omega,MQ (by rw[List.length_map];omega),List.map_drop]
theorem A5{E:Ends2}{m:Mu}{x0 x1:Option D}{R:DK}(hE:E.rt=R):∀ (xs:List PyData) (ws:List Str) (o:Option D),(∀ x∈xs,El x)->(∀ z∈ws,z∈sE)->(∀ d,may ws xs=true->E.nx d m)->(may ws xs=false->R (.dat (.bool false)) m) ->
  eP (gN 3) yB E (xs.map .dat) [x0,x1,some (.dat (.tuple (ws.map .str))),o] m
 | [],ws,o,_,_,h,_=>by simpa[eP] using h _ rfl
 | x::xs,ws,o,hx,hw,h,hf=>by
  have ih:=A5 (E:=E) (m:=m) (x0:=x0) (x1:=x1) hE xs
  obtain⟨K,hK⟩:∃ K,K=eP (gN 3) yB E (xs.map .dat):=⟨_,rfl⟩;rw[<- hK]at ih;simp only[List.map_cons,eP];rw[<- hK];rcases hx x List.mem_cons_self with⟨z,rfl⟩ | ⟨l1,l2,l3⟩
  ·by_cases c:z∈ws
   ·simp[yB,Ub,c];refine⟨ws,rfl,.inl ⟨c,ws,rfl,c,?_⟩⟩;rw[N9 c];have e:may ws (.str z::xs)=may (ws.drop (ws.idxOf z+1)) xs:=by simp[may,c]
    rw[e]at h hf;exact ih _ _ (fun y hy=>hx y (List.mem_cons_of_mem _ hy)) (fun y hy=>hw y (List.mem_of_mem_drop hy)) h hf
   ·simp[yB,c,hE];exact⟨ws,rfl,.inr ⟨c,hf (by simp[may,c])⟩⟩
  ·have e:may ws (x::xs)=false:=by
    cases x with
    | str z=>exact absurd rfl (l3 z)
    | _=>rfl
   have y1:=Kh fun z hz=>Sy z (hw z hz)
   have y2:=Tu (ws:=ws) l3
   have tst:∀ {Q:Bool->Mu->Prop},Q true m->aP (aF Dg (aA 3) (aA 2)) [x0,x1,some (.dat (.tuple (ws.map .str))),some (.dat x)] m Q:=fun hQ=>by
    cases x with
    | str z=>exact absurd rfl (l3 z)
    | _ =>
     refine⟨_,rfl,_,rfl,?_⟩;refine⟨y1,l1,by omega,_,rfl,?_⟩
     rw[y2];exact hQ
   show aI (bT _ _ _) _ _ [x0,x1,some (.dat (.tuple (ws.map .str))),some (.dat x)] m
   refine tst ?_;simp[hE];exact hf e
theorem JK:VcE sY zC yL Ht:=by
 rintro ds m R hl ⟨k,l,p,rfl,hp,h⟩
 cases p with
 | tuple xs =>
  simp[yL,Uj];refine⟨k,l,rfl,?_⟩;simp[J9];have e:mQ k l (.tuple xs)=may (WS k l) xs:=rfl
  rw[e]at h;refine A5 (R:=R) rfl xs (WS k l) none (hp xs rfl) (Ft k l) (fun d c=>?_) (fun c=>?_)
  ·simp[N8]
   rwa [c]at h
  ·rwa [c]at h
 | _=>simp[yL];exact h
theorem y8(k:Bool):dZ wP (kd k)=some (.int (if k then 2 else 1)):=by cases k<;>with_unfolding_all rfl
theorem Ua{m:Mu}{Q:List PyData->bZ->Mu->Prop}:∀ (ts:List (Str×Bool)) (acc:List PyData) (o0 o1 o2:Option D),acc.length+2*ts.length<=100->(∀ d,Q (acc++(dU ts).map eD) d m) ->
  dJ (iE (gT 2 (eE (gN 0) (eE (gN 1) iN))) eO (fN (Aq wP (aA 1))) (DL.stepI (gN 2) eO (cE (aC (aA 0) (aC (aA 2) aH))))) (ts.map fun t=>.dat (.tuple [.str t.1,.str (kd t.2)])) acc [o0,o1,o2] m Q
 | [],acc,o0,o1,o2,_,h=>by simpa[dJ,dU] using h _
 | t::ts,acc,o0,o1,o2,hl,h=>by
  simp at hl;have hz:∀ n,n<=100->n<=sizeLine:=fun n hn=>sz (by omega)
  have hz1:acc.length<sizeLine:=Nat.lt_of_lt_of_le (by omega) (sz (n:=100) (by decide))
  have hz2:acc.length+1<sizeLine:=Nat.lt_of_lt_of_le (by omega) (sz (n:=100) (by decide))
  obtain⟨K,hK⟩:∃ K,K=dJ (iE (gT 2 (eE (gN 0) (eE (gN 1) iN))) eO (fN (Aq wP (aA 1))) (DL.stepI (gN 2) eO (cE (aC (aA 0) (aC (aA 2) aH))))) (ts.map fun t=>.dat (.tuple [.str t.1,.str (kd t.2)])):=⟨_,rfl⟩;simp only[List.map_cons,dJ,iE];rw[<- hK];have ih:=fun acc' o0 o1 o2 q1 q2=>Ua (m:=m) (Q:=Q) ts acc' o0 o1 o2 q1 q2
  rw[<- hK]at ih;have g:=y8 t.2
  cases hk:t.2 with
  | false =>
   rw[hk]at g;simp;refine⟨_,g,?_⟩;simp;show dJ _ [I 0] acc _ m _
   simp[dJ,DL.stepI,sz,hz1];refine ih _ _ _ _ (by simp;omega) fun d=>?_
   simpa[dU,eD,hk] using h d
  | true =>
   rw[hk]at g;simp;refine⟨_,g,?_⟩;simp;show dJ _ [I 0,I 1] acc _ m _
   simp[dJ,DL.stepI,sz,hz1,hz2];refine ih _ _ _ _ (by simp;omega) fun d=>?_
   simpa[dU,eD,hk] using h d
theorem Y1:VcE qG At Bo Lx:=by
 rintro ds m R hl ⟨ts,rfl,hn,h⟩;simp[Bo,cV];have:=Ua (m:=m) (Q:=fun ps _ m2=>R (.dat (.list ps)) m2) ts [] none none none (by simp;omega) fun d=>by simpa using h
 simpa[Function.comp_def] using this
theorem E6{n:Nat}{p:PyData}(h:Ly n p)(hn:n<=40):El p:=by
 cases p with
 | str z=>exact .inl ⟨z,rfl⟩
 | _=>exact .inr ⟨h.1,Nat.le_trans h.2.1 hn,by simp⟩
theorem DU{n:Nat}{p:PyData}(h:Ly n p)(hn:n<=40):Gd p:=fun xs e x hx=>by
 subst e;exact E6 (eQ h x hx) hn
def jF(zs:List Str):PyData->Bool
 | .str z=>decide (z∈zs)
 | _=>false
theorem Xl(zs:List Str)(a:PyData):((zs.map PyData.str).any fun y=>y.eqv a)=jF zs a:=by
 cases a with
 | str z =>
  rw[Bool.eq_iff_iff];simp[jF,PyData.eqv,List.any_eq_true]
 | _=>exact Tu (by simp)
theorem O7{zs:List Str}{a:PyData}(h:jF zs a=true):∃ x,x∈zs/\(PyData.str x).eqv a=true:=by
 rw[<- Xl,List.any_map,List.any_eq_true]at h;exact h
theorem Zy{zs:List Str}{a:PyData}(h:jF zs a=false):∀ x,x∈zs->(PyData.str x).eqv a=false:=by
 rw[<- Xl,List.any_map,List.any_eq_false]at h;intro x hx;simpa using h x hx
theorem Be{zs:List Str}{a:PyData}(h:jF zs a=true):∃ z,a=.str z/\z∈zs:=by
 cases a with
 | str z=>exact⟨z,rfl,by simpa[jF] using h⟩
 | _=>cases h
theorem A4(ts:List (Str×Bool))(a b:PyData):iX ts a b=(jF (ts.map (·.1)) a&&(jF (ts.map (·.1)) b && !(a.eqv b))):=by
 cases a with
 | str a =>
  cases b with
  | str b =>
   have e:PyData.eqv (.str a) (.str b)=decide (a=b):=by
    rw[Bool.eq_iff_iff];simp[PyData.eqv]
   rw[e];rfl
  | _=>simp[iX,jF]
 | _=>simp[iX,jF]
theorem PC{ts:List (Str×Bool)}(h:nZ ts):PyData.canLayAll0 ((ts.map (·.1)).map .str)=true:=Kh fun z hz=>by
 obtain⟨t,ht,rfl⟩:=List.mem_map.mp hz;exact h.2.2 t ht
theorem TF:VcE nU yD Cf Qo:=by
 rintro ds m R hl ⟨ts,a,b,rfl,hk,la,lb,h⟩;simp[Cf];refine⟨ts.map fun t=>(t.1,.str (kd t.2)),by simp,by simpa using hk.1,?_⟩
 have e1:((ts.map fun t=>(t.1,PyData.str (kd t.2))).map fun t=>PyData.str t.1)=(ts.map (·.1)).map .str:=by simp
 rw[e1];have n1:=PC hk
 rw[A4]at h
 generalize ts.map (·.1)=N at h n1
 simp[Yk,-List.map_map];refine⟨n1,la.1,by have:=la.2.1;omega,?_⟩
 cases ea:jF N a
 ·rw[ea]at h;exact .inl ⟨Zy ea,by simpa using h⟩
 ·rw[ea]at h;refine .inr ⟨O7 ea,n1,lb.1,by have:=lb.2.1;omega,?_⟩
  cases eb:jF N b
  ·rw[eb]at h;exact .inl ⟨Zy eb,by simpa using h⟩
  ·rw[eb]at h;refine .inr ⟨O7 eb,?_⟩;obtain⟨x,rfl,_⟩:=Be ea;obtain⟨y,rfl,_⟩:=Be eb;have e:PyData.eqv (.str x) (.str y)=decide (x=y):=by
    rw[Bool.eq_iff_iff];simp[PyData.eqv]
   rw[e]at h;simpa using h
theorem Zg{ts:List (Str×Bool)}(h:∀ t∈ts,PyData.strOk t.1=true):PyData.canLayAll0 ((dU ts).map eD)=true:=by
 induction ts with
 | nil=>rfl
 | cons t ts ih =>
  have h1:=h t List.mem_cons_self
  have h2:=ih fun u hu=>h u (List.mem_cons_of_mem _ hu)
  cases hk:t.2<;>simp[dU,hk,eD,PyData.canLayAll0,PyData.canLay0,h1,h2]
theorem J5{ts:List (Str×Bool)}{xs:List PyData}(h:xs.length≠2):gE ts (.tuple xs)=false:=by
 match xs,h with
 | [],_=>rfl
 | [_],_=>rfl
 | [_,_],h=>exact absurd rfl h
 | _::y::_::_,_=>cases y<;>rfl
theorem t9:VcE sP pB tK Mb:=by
 rintro ds m R hl ⟨ts,p,rfl,hk,lp,h⟩
 cases p with
 | tuple xs =>
  by_cases c:xs.length=2
  ·obtain⟨x,y,rfl⟩:∃ x y,xs=[x,y]:=by
    match xs,c with
    | [x,y],_=>exact⟨x,y,rfl⟩
   simp[tK,nH,PyData.canLay0,PyData.depth];simp[D5];refine⟨y,rfl,?_⟩
   cases y with
   | int i =>
    simp[bV];refine⟨ts,rfl,hk.1,Zg hk.2.2,lp.1,by have:=lp.2.1;omega,?_⟩
    exact h m
   | _=>simpa[bV,gE] using h m
  ·have i:¬ ((xs.length:Int)=2):=by omega
   simp[tK,nH,PyData.canLay0,PyData.depth,i];have:=h m
   rwa [J5 c]at this
 | _=>simpa[tK,gE] using h m
theorem Fc{ts:List (Str×Bool)}(nd:(ts.map (·.1)).Nodup){a:Str}(h:a∈ts.map (·.1)):(a,fQ ts a)∈ts:=by
 obtain⟨t,ht,rfl⟩:=List.mem_map.mp h;have q:(ts.find? fun u=>decide (u.1=t.1)).isSome=true:=by
  rw[List.find?_isSome];exact⟨t,ht,by simp⟩
 obtain⟨u,hu⟩:=Option.isSome_iff_exists.mp q;have h1:=List.find?_some hu
 have h2:=List.mem_of_find?_eq_some hu
 simp at h1;unfold fQ;rw[hu];simp;rw[<- h1];exact h2
theorem l4{xs:List PyData}(h:xs.length=4):∃ a b c d,xs=[a,b,c,d]:=by
 match xs,h with
 | [a,b,c,d],_=>exact⟨a,b,c,d,rfl⟩
theorem l5{xs:List PyData}(h:xs.length=5):∃ a b c d e,xs=[a,b,c,d,e]:=by
 match xs,h with
 | [a,b,c,d,e],_=>exact⟨a,b,c,d,e,rfl⟩
theorem Uf{ts:List (Str×Bool)}{xs:List PyData}(h:xs.length≠4):nQ ts xs=false:=by
 unfold nQ
 split
 ·exact absurd rfl h
 ·rfl
theorem D7{ts:List (Str×Bool)}{xs:List PyData}(h:xs.length≠5):wF ts xs=false:=by
 unfold wF
 split
 ·exact absurd rfl h
 ·rfl
theorem Wp(ts:List (Str×Bool))(z a b w:PyData):nQ ts [z,a,b,w]=(iX ts a b&&(match a,b with | .str a,.str b=>mQ (fQ ts a) (fQ ts b) w && !(w.eqv (.tuple [])) | _,_=>false)):=by
 cases a with
 | str a =>
  cases b with
  | str b=>rfl
  | _=>simp[nQ,iX]
 | _=>simp[nQ,iX]
theorem UR{k l:Bool}{w:PyData}(h:mQ k l w=true):∃ xs,w=.tuple xs:=by
 cases w with
 | tuple xs=>exact⟨xs,rfl⟩
 | _=>cases h
theorem VG:VcE sJ xQ yA Hn:=by
 rintro ds m R hl ⟨ts,xs,rfl,hk,lp,h⟩;have hx:=eQ lp
 by_cases c:xs.length=4
 ·obtain⟨z,a,b,w,rfl⟩:=l4 c;have la:=hx a (by simp)
  have lb:=hx b (by simp)
  have lw:=hx w (by simp)
  rw[Wp]at h;simp[yA,nH,PyData.canLay0,PyData.depth];refine⟨ts,a,b,rfl,hk,la,lb,?_⟩
  cases e:iX ts a b
  ·rw[e]at h;simpa using h m
  ·rw[e]at h;rw[A4]at e;simp only[Bool.and_eq_true]at e;obtain⟨a,rfl,ha⟩:=Be e.1;obtain⟨b,rfl,hb⟩:=Be e.2.1;simp only[Bool.true_and]at h;simp[F9];refine⟨ts,a,b,fQ ts a,fQ ts b,rfl,hk.1,hk.2.1,Fc hk.2.1 ha,Fc hk.2.1 hb,fun m1=>?_⟩;refine⟨_,_,w,rfl,DU lw (by decide),?_⟩
   cases em:mQ (fQ ts a) (fQ ts b) w
   ·have:=h m1
    rw[em]at this;simpa using this
   ·have:=h m1
    rw[em]at this;simp only[Bool.true_and]at this;obtain⟨ys,rfl⟩:=UR em;simp;refine⟨lw.1,by simp[PyData.canLay0,PyData.canLayAll0],by have:=lw.2.1;omega,?_⟩
    exact this
 ·have i:¬ ((xs.length:Int)=4):=by omega
  simp[yA,nH,PyData.canLay0,PyData.depth,i];have:=h m
  rwa [Uf c]at this
theorem JA:VcE sN uB xU Hd:=by
 rintro ds m R hl ⟨ts,xs,rfl,hk,lp,h⟩;have hx:=eQ lp
 by_cases c:xs.length=5
 ·obtain⟨z,x,y,n,s,rfl⟩:=l5 c;have lx:=hx x (by simp)
  have ly:=hx y (by simp)
  have lw:=hx n (by simp)
  simp only[wF]at h;simp[xU,nH,PyData.canLay0,PyData.depth];simp[L8];simp[Xa];refine⟨ts,x,rfl,hk,lx,fun m1=>?_⟩
  cases e1:gE ts x
  ·rw[e1]at h;simpa using h m1
  rw[e1]at h;simp only[Bool.true_and]at h;simp;refine⟨ts,y,rfl,hk,ly,fun m2=>?_⟩
  cases e2:gE ts y
  ·rw[e2]at h;simpa using h m2
  rw[e2]at h;simp only[Bool.true_and]at h;have tx:∃ us,x=.tuple us:=by
   cases x with
   | tuple us=>exact⟨us,rfl⟩
   | _=>cases e1
  obtain⟨us,rfl⟩:=tx;simp;refine⟨lx.1,ly.1,by have:=lx.2.1;omega,?_⟩
  cases e3:PyData.eqv (.tuple us) y
  ·rw[e3]at h;simp[Yc];refine⟨n,rfl,?_⟩
   cases e4:lX n
   ·rw[e4]at h;simpa using h m2
   ·rw[e4]at h;have:=h m2
    cases s<;>simpa[bV,zN] using this
  ·rw[e3]at h;simpa using h m2
 ·have i:¬ ((xs.length:Int)=5):=by omega
  simp[xU,nH,PyData.canLay0,PyData.depth,i];have:=h m
  rwa [D7 c]at this
theorem BH{z:PyData}{ys:List PyData}:PyData.eqv (.tuple (z::ys)) (.tuple [])=false:=by simp[PyData.eqv,PyData.eqvAll]
theorem II{z:PyData}{w:Str}(h:∀ z',z≠.str z'):PyData.eqv z (.str w)=false:=by cases z<;>first | exact absurd rfl (h _) | simp[PyData.eqv]
theorem eq_str{z:PyData}{w:Str}{m:Mu}{Q:DK}(h:∀ z',z≠.str z')(h1:z.canLay0=true)(h2:z.depth<=100)(hw:PyData.strOk w=true)(k:Q (.dat (.bool false)) m):dA (.dat z) (.dat (.str w)) m Q:=by
 have e:=II (w:=w) h
 have:z.canLay0=true/\(PyData.str w).canLay0=true/\z.depth<=100/\Q (.dat (.bool (z.eqv (.str w)))) m:=⟨h1,hw,h2,by rw[e];exact k⟩
 cases z<;>first | exact absurd rfl (h _) | exact this
theorem QL:VcE pU wD Lk Oc:=by
 rintro ds m R hl ⟨ts,p,rfl,hk,lp,h⟩;refine⟨_,rfl,_,rfl,_,rfl,?_⟩
 by_cases tp:∃ xs,p=.tuple xs
 ·obtain⟨xs,rfl⟩:=tp;have hx:=eQ lp
  refine bP kJ ⟨_,rfl,_,rfl,sz (by decide),lp.1,rfl,by have:=lp.2.1;omega,_,rfl,?_⟩
  cases xs with
  | nil=>exact bF rfl (h m)
  | cons z ys =>
   have lz:=hx z (by simp)
   refine bP BH ⟨_,rfl,_,hV _ _,?_⟩
   by_cases sz:∃ w,z=.str w
   ·obtain⟨z,rfl⟩:=sz;refine⟨_,rfl,?_⟩;simp only[jX]at h
    by_cases c:z=Str.ofString "may"
    ·rw[if_pos c]at h;exact bF (decide_eq_true c) ⟨_,rfl,_,rfl,rfl,ts,_,rfl,hk,lp,h⟩
    ·rw[if_neg c]at h;refine bP (decide_eq_false c) ⟨_,rfl,_,hV _ _,_,rfl,?_⟩
     by_cases c2:z=Str.ofString "gap"
     ·rw[if_pos c2]at h;exact bF (decide_eq_true c2) ⟨_,rfl,_,rfl,rfl,ts,_,rfl,hk,lp,h⟩
     ·rw[if_neg c2]at h;exact bP (decide_eq_false c2) (h m)
   ·have ns:∀ w,z≠.str w:=fun w e=>sz ⟨w,e⟩
    have e:jX ts (.tuple (z::ys))=false:=by cases z<;>first | rfl | exact absurd rfl (ns _)
    have:=e▸h m
    have h2:z.depth<=100:=by have:=lz.2.1;omega
    refine eq_str ns lz.1 h2 (by decide +kernel) ⟨_,rfl,bP rfl ⟨_,rfl,_,hV _ _,?_⟩⟩
    exact eq_str ns lz.1 h2 (by decide +kernel) ⟨_,rfl,bP rfl this⟩
 ·have:jX ts p=false:=by cases p<;>first | rfl | exact absurd ⟨_,rfl⟩ tp
  have:=this▸h m
  exact bF (kR fun W e=>tp ⟨W,e⟩) (bF rfl this)
theorem QC{x:PyData}{i:Int}(hx:∀ z,x≠.str z)(ts:List (Str×Bool)):gE ts (.tuple [x,.int i])=false:=by
 simp only[gE];rw[List.any_eq_false];intro y hy;obtain⟨e,_,rfl⟩:=List.mem_map.mp hy
 cases x with
 | str z=>exact(hx z rfl).elim
 | _=>simp[eD,PyData.eqv,PyData.eqvAll]
theorem n4:VcE sQ vF Lm Pq:=by
 rintro ds m R hl ⟨ts,p,rfl,hk,lp,h⟩;refine⟨_,rfl,_,rfl,_,rfl,?_⟩
 by_cases tp:∃ xs,p=.tuple xs
 ·obtain⟨xs,rfl⟩:=tp;refine bP kJ ⟨_,rfl,rfl,rfl,Nat.zero_le _,_,rfl,?_⟩
  by_cases c:xs.length=2
  ·obtain⟨x,y,rfl⟩:∃ x y,xs=[x,y]:=by
    match xs,c with
    | [x,y],_=>exact⟨x,y,rfl⟩
   refine bP (kT (by rw[jL];rfl)) ⟨_,rfl,_,hV _ _,_,rfl,_,rfl,?_⟩
   by_cases sx:∃ z,x=.str z
   ·obtain⟨z,rfl⟩:=sx;refine bP yU ⟨_,rfl,_,jT _ _ _,_,rfl,_,rfl,?_⟩
    cases hy:(bV y "int" && !bV y "bool") with
    | false =>
     have e:gE ts (.tuple [.str z,y])=false:=by cases y<;>first | rfl | simp at hy
     have:=h m
     rw[e]at this
     cases a:bV y "int" with
     | false=>exact bF rfl (bF rfl this)
     | true=>rw[a]at hy;exact bP rfl ⟨_,rfl,_,jT _ _ _,_,rfl,_,rfl,bF (by simpa using hy) this⟩
    | true =>
     obtain⟨i,rfl⟩:=zH hy;refine bP Yt ⟨_,rfl,_,jT _ _ _,_,rfl,_,rfl,bP O8 ?_⟩;refine⟨_,rfl,_,rfl,rfl,ts,rfl,hk.1,fun c m1 hc kn hm1=>?_⟩;refine⟨c,_,rfl,hc,hm1,?_⟩;exact⟨Zg hk.2.2,lp.1,by have:=lp.2.1;omega,h _⟩
   ·have e:gE ts (.tuple [x,y])=false:=by
     cases y with
     | int i=>exact QC (fun z e=>sx ⟨z,e⟩) ts
     | _=>rfl
    have:=h m
    rw[e]at this;exact bF (yG fun z e=>sx ⟨z,e⟩) this
  ·have:=h m
   rw[J5 c]at this;exact bF (kU (mZ (by omega))) (bF rfl this)
 ·have:gE ts p=false:=by cases p<;>first | rfl | exact absurd ⟨_,rfl⟩ tp
  have:=this▸h m
  exact bF (kR fun W e=>tp ⟨W,e⟩) (bF rfl this)
theorem val_none{ts:List (Str×Bool)}{a:Str}(h:a∉ts.map (·.1)):dZ (fI [] (iB ts)) (.inr a)=none:=by
 cases e:dZ (fI [] (iB ts)) (.inr a) with
 | none=>rfl
 | some q =>
  have:=L5 e
  rcases Os this with g | g
  ·cases g
  ·obtain⟨t,ht,e⟩:=List.mem_map.mp g;have e1:t.1=a:=by
    have:=congrArg Prod.fst e
    simpa using this
   exact(h (List.mem_map.mpr ⟨t,ht,e1⟩)).elim
theorem Wn{E:Ends2}{m:Mu}{x0 x1 x2:Option D}{R:DK}(hE:E.rt=R):∀ (xs:List PyData) (ws:List Str) (o:Option D),(∀ x∈xs,El x)->(∀ d3 o,may ws xs=true->E.nx [x0,x1,x2,d3,o] m)->(may ws xs=false->R (.dat (.bool false)) m) ->
  eP (gN 4) uL E (xs.map .dat) [x0,x1,x2,some (.dat (.list (ws.map .str))),o] m
 | [],ws,o,_,h,_=>by simpa[eP] using h _ _ rfl
 | x::xs,ws,o,hx,h,hf=>by
  have ih:=Wn (E:=E) (m:=m) (x0:=x0) (x1:=x1) (x2:=x2) hE xs
  obtain⟨K,hK⟩:∃ K,K=eP (gN 4) uL E (xs.map .dat):=⟨_,rfl⟩;rw[<- hK]at ih;simp only[List.map_cons,eP];rw[<- hK];rcases hx x List.mem_cons_self with⟨z,rfl⟩ | ⟨l1,l2,l3⟩
  ·by_cases c:z∈ws
   ·simp[uL,Xj,c];refine⟨ws,rfl,.inl ⟨c,ws,rfl,c,?_⟩⟩;rw[N9 c];have e:may ws (.str z::xs)=may (ws.drop (ws.idxOf z+1)) xs:=by simp[may,c]
    rw[e]at h hf;exact ih _ _ (fun y hy=>hx y (List.mem_cons_of_mem _ hy)) h hf
   ·simp[uL,c,hE];exact⟨ws,rfl,.inr ⟨c,hf (by simp[may,c])⟩⟩
  ·have e:may ws (x::xs)=false:=by
    cases x with
    | str z=>exact absurd rfl (l3 z)
    | _=>rfl
   have hr:=hf e
   cases x with
   | str z=>exact absurd rfl (l3 z)
   | _=>simpa[uL,bV,hE] using hr
theorem WR:VcE sC zO Bp Kg:=by
 rintro ds m R hl ⟨ts,xs,rfl,hk,lp,h⟩;have hx:=eQ lp
 simp[Bp];refine⟨iB ts,by simpa using Ut ts,sz (by have:=hk.1;simp[iB];omega),fun c hc=>?_⟩
 refine⟨_,rfl,rfl,rfl,Nat.zero_le _,_,rfl,?_⟩
 by_cases c4:xs.length=4
 ·obtain⟨z,a,b,w,rfl⟩:=l4 c4;have lw:=hx w (by simp)
  rw[Wp]at h;refine bP (kT (by rw[jL];rfl)) ⟨_,rfl,_,jT _ _ _,_,rfl,_,rfl,?_⟩
  by_cases sa:∃ z,a=.str z
  ·obtain⟨a,rfl⟩:=sa;refine bP yU ⟨_,rfl,_,G4 _ _ _ _,_,rfl,_,rfl,?_⟩
   by_cases sb:∃ z,b=.str z
   ·obtain⟨b,rfl⟩:=sb;refine bP yU ?_;rw[iX]at h;simp[B4,mC,eI];obtain⟨m1,em1⟩:∃ m1,m1=cK m c (.d (fI [] (iB ts))):=⟨_,rfl⟩;have hm1:m1 c=some (.d (fI [] (iB ts))):=by rw[em1,eI]
    rw[<- em1];have h:=h m1
    by_cases ca:a∈ts.map (·.1)
    ·have va:=Fn hk.2.1 (Fc hk.2.1 ca)
     refine .inl ⟨by rw[va];rfl,?_⟩
     by_cases cb:b∈ts.map (·.1)
     ·have vb:=Fn hk.2.1 (Fc hk.2.1 cb)
      refine .inl ⟨by rw[vb];rfl,?_⟩
      by_cases ab:a=b
      ·refine .inr ⟨ab,?_⟩;simpa[ab] using h
      ·refine .inl ⟨ab,?_⟩;simp only[ca,cb,ab,decide_true,decide_false,Bool.not_false,Bool.true_and]at h
       cases w with
       | tuple ws =>
        simp;simp[M4,mC,hm1];refine⟨_,va,_,vb,sz (by decide),fQ ts a,fQ ts b,rfl,?_⟩
        simp[F6];have e:mQ (fQ ts a) (fQ ts b) (.tuple ws)=may (WS (fQ ts a) (fQ ts b)) ws:=rfl
        rw[e]at h;refine Wn (R:=R) rfl ws _ none (fun x hx=>E6 (eQ lw x hx) (by decide)) (fun d3 o q=>?_) (fun q=>?_)
        ·rw[q]at h;simp[J1]
         cases ws with
         | nil=>simpa[PyData.eqv,PyData.eqvAll] using h
         | cons u us =>
          simp[PyData.eqv,PyData.eqvAll]at h;have:(0:Int)<us.length+1:=by omega
          simpa[this] using h
        ·rw[q]at h;simpa using h
       | _=>simpa[mQ] using h
     ·refine .inr ⟨val_none cb,?_⟩;simpa[cb] using h
    ·refine .inr ⟨val_none ca,?_⟩;simpa[ca] using h
   ·have e:iX ts (.str a) b=false:=by cases b<;>first | rfl | exact absurd ⟨_,rfl⟩ sb
    rw[e]at h;exact bF (yG fun z e=>sb ⟨z,e⟩) (h _)
  ·have e:iX ts a b=false:=by cases a<;>first | rfl | exact absurd ⟨_,rfl⟩ sa
   rw[e]at h;exact bF (yG fun z e=>sa ⟨z,e⟩) (bF rfl (h _))
 ·have:=h (cK m c (.d (fI [] (iB ts))))
  rw[Uf c4]at this;exact bF (kU (mZ (by omega))) (bF rfl this)
theorem QY{n:Nat}{i:Int}(h:Ly n (.int i)):Bd 400 i:=by
 have:=h.2.2
 simp only[jB]at this;exact(of_decide_eq_true this:i.natAbs<2^400)
theorem OO{p}(h:zN p=false):(!bV p "bool")=true:=by cases p<;>first | (cases h;done) | simp
theorem HS{p}(h:zN p=true):∃ b,p=.bool b:=by cases p<;>first | (cases h;done) | exact⟨_,rfl⟩
theorem B8{E:Ends2}{d:bZ}{m:Mu}{p:PyData}(hd:d[2]?=some (some (.dat p)))(h:(bV p "int" && !bV p "bool")=false)(k:E.rt (.dat (.bool false)) m):Hy E d m:=by
 refine⟨_,hd,_,rfl,_,rfl,?_⟩
 cases a:bV p "int" with
 | false=>exact bF rfl (bF rfl k)
 | true=>rw[a]at h;exact bP rfl ⟨_,hd,_,rfl,_,rfl,bF (by simpa using h) k⟩
theorem M8{E:Ends2}{d:bZ}{m:Mu}{i:Int}(hd:d[2]?=some (some (.dat (.int i))))(k:E.nx d m):Hy E d m :=
 ⟨_,hd,_,rfl,_,rfl,bP Yt ⟨_,hd,_,rfl,_,rfl,bP O8 k⟩⟩
theorem dn(x y:Int):(fr x y).depth<=100:=by simp[fr,PyData.depth,PyData.depthAll]
theorem cn(x y:Int):(fr x y).canLay0=true:=by simp[fr,PyData.canLay0,PyData.canLayAll0]
theorem cm(x y:Int):(PyData.tuple [.int x,.int y]).canLay0=true:=by simp[PyData.canLay0,PyData.canLayAll0]
theorem TZ:VcE qD yO Qm Ib:=by
 rintro ds m R hl ⟨ts,xs,rfl,hk,lp,h⟩;have hx:=eQ lp
 refine⟨_,rfl,rfl,rfl,Nat.zero_le _,_,rfl,?_⟩
 by_cases c:xs.length=5
 ·obtain⟨z,x,y,n,s,rfl⟩:=l5 c;have lx:=hx x (by simp)
  have ly:=hx y (by simp)
  have ln:=hx n (by simp)
  simp only[wF]at h;refine bP (kT (by rw[jL];rfl)) ?_
  have a1:cA [z,x,y,n,s] 1=some x:=rfl
  have a2:cA [z,x,y,n,s] 2=some y:=rfl
  have a3:cA [z,x,y,n,s] 3=some n:=rfl
  have a4:cA [z,x,y,n,s] 4=some s:=rfl
  refine⟨_,rfl,_,rfl,_,a1,rfl,ts,x,rfl,hk,lx,fun m1=>⟨_,rfl,?_⟩⟩
  cases e1:gE ts x
  ·rw[e1]at h;exact bF rfl (bF rfl (h m1))
  rw[e1]at h;simp only[Bool.true_and]at h;refine bP rfl ⟨_,rfl,_,rfl,_,a2,rfl,ts,y,rfl,hk,ly,fun m2=>⟨_,rfl,?_⟩⟩
  cases e2:gE ts y
  ·rw[e2]at h;exact bF rfl (h m2)
  rw[e2]at h;simp only[Bool.true_and]at h;have h:=h m2
  have tx:∃ us,x=.tuple us:=by
   cases x with
   | tuple us=>exact⟨us,rfl⟩
   | _=>cases e1
  obtain⟨us,rfl⟩:=tx;refine bP rfl ⟨_,rfl,_,a1,_,rfl,_,a2,lx.1,ly.1,by have:=lx.2.1;omega,_,rfl,?_⟩
  cases e3:PyData.eqv (.tuple us) y
  ·rw[e3]at h;simp only[Bool.not_false,Bool.true_and]at h;refine bP rfl ⟨_,rfl,_,a3,_,rfl,_,rfl,?_⟩
   by_cases tn:∃ ns,n=.tuple ns
   ·obtain⟨ns,rfl⟩:=tn;refine bP kJ ⟨_,rfl,_,a3,rfl,rfl,Nat.zero_le _,_,rfl,?_⟩
    by_cases c2:ns.length=2
    ·obtain⟨p,q,rfl⟩:∃ x y,ns=[x,y]:=by
      match ns,c2 with
      | [x,y],_=>exact⟨x,y,rfl⟩
     refine bP (kT (by rw[jL];rfl)) ⟨_,rfl,_,a4,_,rfl,_,rfl,?_⟩
     cases es:zN s with
     | false =>
      rw[es,Bool.and_false]at h;exact bF (OO es) h
     | true =>
      obtain⟨sb,rfl⟩:=HS es;rw[es,Bool.and_true]at h;refine bP rfl ⟨_,rfl,_,a3,.inr ⟨_,rfl,?_⟩⟩
      cases hp:(bV p "int" && !bV p "bool") with
      | false =>
       rw[Wi hp]at h;exact B8 rfl hp h
      | true =>
       obtain⟨x,rfl⟩:=zH hp;refine M8 rfl ?_
       cases hq:(bV q "int" && !bV q "bool") with
       | false =>
        rw[N0 hq]at h;exact B8 rfl hq h
       | true =>
        obtain⟨y,rfl⟩:=zH hq;refine M8 rfl ⟨_,rfl,_,a3,_,jT _ _ _,_,rfl,?_⟩;rw[Da]at h;dsimp only at h
        by_cases hy:0<y
        ·rw[decide_eq_true (show 1<=y by omega),Bool.true_and]at h
         refine bF (decide_eq_true hy) ⟨_,rfl,_,a3,_,hV _ _,_,rfl,_,a3,_,jT _ _ _,rfl,x,y,rfl,hy,(QY (eQ ln _ (by simp))).mono (by decide),_,rfl,_,a3,cn _ _,cm _ _,dn _ _,?_⟩
         rw[AC hy];exact h
        ·rw[decide_eq_false (show ¬ 1<=y by omega),Bool.false_and]at h
         exact bP (decide_eq_false hy) h
    ·rw[Tw c2]at h;exact bF (kU (mZ (by omega))) (bF rfl h)
   ·have:lX n=false:=by cases n<;>first | rfl | exact absurd ⟨_,rfl⟩ tn
    rw[this]at h;exact bF (kR fun W e=>tn ⟨W,e⟩) (bF rfl h)
  ·rw[e3]at h;exact bF rfl h
 ·have:=h m
  rw[D7 c]at this;exact bF (kU (mZ (by omega))) this
theorem i5{ts:List (Str×Bool)}{xs:List PyData}(h:∀ z ys,xs≠.str z::ys):jX ts (.tuple xs)=false:=by
 cases xs with
 | nil=>rfl
 | cons z ys=>cases z<;>first | rfl | exact absurd rfl (h _ _)
theorem VE:VcE qN Ad Jv Lh:=by
 rintro ds m R hl ⟨ts,p,rfl,hk,lp,h⟩;refine⟨_,rfl,_,rfl,_,rfl,?_⟩
 by_cases tp:∃ xs,p=.tuple xs
 ·obtain⟨xs,rfl⟩:=tp;refine bP kJ ⟨_,rfl,rfl,rfl,Nat.zero_le _,_,rfl,?_⟩
  cases xs with
  | nil=>exact bF rfl (bF rfl (h m))
  | cons z ys =>
   refine bP (mZ (by rw[List.length_cons];omega)) ⟨_,rfl,_,hV _ _,_,rfl,_,rfl,?_⟩
   by_cases sz:∃ w,z=.str w
   ·obtain⟨z,rfl⟩:=sz;refine bP yU ⟨_,rfl,_,hV _ _,_,rfl,?_⟩;simp only[jX]at h
    by_cases c:z=Str.ofString "may"
    ·rw[if_pos c]at h;exact bF (decide_eq_true c) ⟨_,rfl,_,rfl,rfl,ts,_,rfl,hk,lp,h⟩
    ·rw[if_neg c]at h;refine bP (decide_eq_false c) ⟨_,rfl,_,hV _ _,_,rfl,?_⟩
     by_cases c2:z=Str.ofString "gap"
     ·rw[if_pos c2]at h;exact bF (decide_eq_true c2) ⟨_,rfl,_,rfl,rfl,ts,_,rfl,hk,lp,h⟩
     ·rw[if_neg c2]at h;exact bP (decide_eq_false c2) (h m)
   ·have:=h m
    rw[i5 (fun w u e=>sz ⟨w,(List.cons.inj e).1⟩)]at this;exact bF (yG fun w e=>sz ⟨w,e⟩) this
 ·have:jX ts p=false:=by cases p<;>first | rfl | exact absurd ⟨_,rfl⟩ tp
  have:=this▸h m
  exact bF (kR fun W e=>tp ⟨W,e⟩) (bF rfl this)
theorem Vm{p:PyData}(h:jR p=true)(lp:Ly 40 p):p=TH (jE p)/\nZ (jE p):=by
 cases p with
 | tuple xs =>
  simp only[jR,Bool.and_eq_true,decide_eq_true_iff,Qt]at h;obtain⟨h1,h2,h3,h4⟩:=h;have e:∀ x∈xs,∃ (z:Str) (k:Bool),x=.tuple [.str z,.str (kd k)]:=fun x hx=>by
   obtain⟨z,y,rfl,_,q⟩:=Uz (List.all_eq_true.mp h3 x hx)
   cases y with
   | str y =>
    simp[kE]at q;rcases q with rfl | rfl
    ·exact⟨z,false,rfl⟩
    ·exact⟨z,true,rfl⟩
   | _=>cases q
  have kk:∀ k,decide (kd k=Str.ofString "stretch")=k:=by intro k;cases k<;>decide +kernel
  have e2:xs=(jE (.tuple xs)).map fun t=>PyData.tuple [.str t.1,.str (kd t.2)]:=by
   simp only[jE,List.map_map]
   conv=>lhs;rw[<- List.map_id xs]
   refine List.map_congr_left fun x hx=>?_;obtain⟨z,k,rfl⟩:=e x hx;simp[kk]
  have e3:(jE (.tuple xs)).map (·.1)=xs.map kK:=by
   simp only[jE,List.map_map];refine List.map_congr_left fun x hx=>?_;obtain⟨z,k,rfl⟩:=e x hx;simp[kK]
  refine⟨by rw[TH,<- e2],?_,?_,?_⟩
  ·simpa[jE] using h2
  ·rw[e3];refine(List.pairwise_cons.mp (Bt h4)).2.imp fun {a b} hab=>?_;rintro rfl;rw[Lt,Aj]at hab
   cases hab
  ·intro t ht;have:PyData.tuple [.str t.1,.str (kd t.2)]∈xs:=by rw[e2];exact List.mem_map.mpr ⟨t,ht,rfl⟩
   have:=(eQ (eQ lp _ this) (.str t.1) (by simp)).1
   simpa[PyData.canLay0] using this
 | _=>cases h
theorem Nc{f:DE}{bC:List (Option D)}(h:PyData->PyData):∀ (xs:List PyData) (acc:List PyData) (o:Option D) (m:Mu) (Q:List PyData->Mu->Prop),(∀ x∈xs,∀ m (K:DK),(∀ m',K (.dat (h x)) m')->f (some (.dat x)::bC) m K)->acc.length+xs.length<=1000->(∀ m',Q (acc++xs.map h) m')->eJ (gN 0) eO f (xs.map .dat) acc (o::bC) m Q
 | [],acc,o,m,Q,_,_,hq=>by simpa[eJ] using hq m
 | x::xs,acc,o,m,Q,hs,hn,hq=>by
  simp only[List.length_cons]at hn;rw[List.map_cons,eJ];show f (some (.dat x)::bC) m _
  refine hs x List.mem_cons_self _ _ fun m'=>?_;exact⟨_,rfl,Nat.lt_of_lt_of_le (by omega:acc.length<1000) (sz (by decide)),Nc h xs _ _ _ Q (fun y hy=>hs y (List.mem_cons_of_mem _ hy)) (by simp;omega) (by simpa using hq)⟩
theorem E4{xs:List PyData}(h:xs.length≠2):lI (.tuple xs)=false:=by
 match xs,h with
 | [],_=>rfl
 | [_],_=>rfl
 | [_,_],h=>exact absurd rfl h
 | _::y::_::_,_=>cases y<;>rfl
theorem Ve(f:PyData->Bool)(ss:List PyData):(ss.map fun x=>PyData.bool (f x))=(ss.map f).map PyData.bool:=by simp
theorem Bc{t s:PyData}(h:jR t=false\/∀ W,s≠.tuple W):lI (.tuple [t,s])=false:=by
 rcases h with h | h
 ·cases s<;>first | rfl | (simp only[lI,h,Bool.false_and])
 ·cases s<;>first | rfl | exact absurd rfl (h _)
theorem HH:VcE nP vG Ix Nt:=by
 rintro ds m R hl ⟨p,rfl,lp,h⟩;refine⟨_,rfl,_,rfl,_,rfl,?_⟩
 by_cases tp:∃ xs,p=.tuple xs
 ·obtain⟨xs,rfl⟩:=tp;refine bP kJ ⟨_,rfl,rfl,rfl,Nat.zero_le _,_,rfl,?_⟩
  by_cases c:xs.length=2
  ·obtain⟨t,s,rfl⟩:∃ x y,xs=[x,y]:=by
    match xs,c with
    | [x,y],_=>exact⟨x,y,rfl⟩
   have lt:=eQ lp t (by simp)
   have ls:=eQ lp s (by simp)
   refine bP (kT (by rw[jL];rfl)) ⟨_,rfl,_,rfl,rfl,rfl,?_⟩
   refine⟨_,rfl,rfl,t,rfl,lt,_,rfl,?_⟩
   cases e:jR t with
   | false =>
    have:=h m
    rw[Bc (.inl e)]at this;exact bF rfl (bF rfl this)
   | true =>
    refine bP rfl ⟨_,rfl,_,rfl,_,rfl,?_⟩
    by_cases ts:∃ ss,s=.tuple ss
    ·obtain⟨ss,rfl⟩:=ts;simp only[lI,e,Bool.true_and]at h;obtain⟨et,tk⟩:=Vm e lt;refine bP kJ ⟨_,rfl,_,rfl,?_⟩
     by_cases c2:ss.length<=24
     ·refine bP (decide_eq_false (by omega)) ?_
      simp only[c2,decide_true,Bool.true_and]at h;simp[Yd,cV];refine Nc (fun x=>.bool (jX (jE t) x)) ss [] _ _ _ ?_ (by simp;omega) ?_
      ·intro x hx m1 K hK;exact⟨_,rfl,_,rfl,rfl,jE t,x,by rw[<- et],tk,eQ ls x hx,hK⟩
      ·intro m1;rw[List.nil_append,Ve];refine⟨_,rfl,?_⟩;rw[List.all_map];exact h m1
     ·rw[decide_eq_false c2,Bool.false_and]at h;exact bF (decide_eq_true (by omega)) (h m)
    ·have nt:∀ W,s≠.tuple W:=fun W e=>ts ⟨W,e⟩
     have:=h m
     rw[Bc (.inr nt)]at this;exact bF (kR nt) (bF rfl this)
  ·have:=h m
   rw[E4 c]at this;exact bF (kU (mZ (by omega))) this
 ·have:lI p=false:=by cases p<;>first | rfl | exact absurd ⟨_,rfl⟩ tp
  have:=this▸h m
  exact bF (kR fun W e=>tp ⟨W,e⟩) (bF rfl this)
theorem j8:VcE oO zD Hz On:=by
 rintro ds m R hl ⟨p,rfl,lp,h⟩;refine⟨_,rfl,_,rfl,_,rfl,?_⟩
 by_cases tp:∃ xs,p=.tuple xs
 ·obtain⟨xs,rfl⟩:=tp;refine bP kJ ⟨_,rfl,rfl,rfl,Nat.zero_le _,_,rfl,?_⟩
  by_cases c:xs.length=2
  ·obtain⟨t,s,rfl⟩:∃ x y,xs=[x,y]:=by
    match xs,c with
    | [x,y],_=>exact⟨x,y,rfl⟩
   have lt:=eQ lp t (by simp)
   have ls:=eQ lp s (by simp)
   refine bP (kT (by rw[jL];rfl)) ⟨_,rfl,_,hV _ _,rfl,t,rfl,lt,_,rfl,?_⟩
   cases e:jR t with
   | false =>
    have:=h m
    rw[Bc (.inl e)]at this;exact bF rfl this
   | true =>
    refine bP rfl ⟨_,rfl,_,jT _ _ _,_,rfl,_,rfl,?_⟩
    by_cases ts:∃ ss,s=.tuple ss
    ·obtain⟨ss,rfl⟩:=ts;simp only[lI,e,Bool.true_and]at h;obtain⟨et,tk⟩:=Vm e lt;refine bP kJ ?_;simp[Zk,cV]
     by_cases c2:ss.length<=24
     ·refine .inr ⟨by omega,?_⟩
      simp only[c2,decide_true,Bool.true_and]at h;refine Nc (fun x=>.bool (jX (jE t) x)) ss [] _ _ _ ?_ (by simp;omega) ?_
      ·intro x hx m1 K hK;simp;exact⟨jE t,x,by rw[<- et],tk,eQ ls x hx,hK⟩
      ·intro m1;rw[List.nil_append,Ve];refine⟨_,rfl,?_⟩;have e:∀ l:List Bool,(!decide (false∈l))=l.all id:=fun l=>by
        rw[Bool.eq_iff_iff];simp[List.all_eq_true]
       rw[e,List.all_map];exact h m1
     ·refine .inl ⟨by omega,?_⟩
      simpa[c2] using h m
    ·have nt:∀ W,s≠.tuple W:=fun W e=>ts ⟨W,e⟩
     have:=h m
     rw[Bc (.inr nt)]at this;exact bF (kR nt) this
  ·have:=h m
   rw[E4 c]at this;exact bF (kU (mZ (by omega))) (bF rfl this)
 ·have:lI p=false:=by cases p<;>first | rfl | exact absurd ⟨_,rfl⟩ tp
  have:=this▸h m
  exact bF (kR fun W e=>tp ⟨W,e⟩) (bF rfl this)
def LyA(n:Nat)(xs:List PyData):Prop:=∀ x∈xs,Ly n x
theorem LyA.nil{n:Nat}:LyA n []:=fun x h=>nomatch h
theorem LyA.app{n:Nat}{xs ys:List PyData}(h:LyA n xs)(g:LyA n ys):LyA n (xs++ys):=fun x hx=>(List.mem_append.mp hx).elim (h x) (g x)
theorem VZ{α:Type}{xs:List α}{lo hi:Option Int}{x:α}(h:x∈bY xs lo hi):x∈xs:=List.mem_of_mem_drop (List.mem_of_mem_take h)
theorem LyA.cut{n:Nat}{xs:List PyData}(h:LyA n xs)(lo hi:Option Int):LyA n (bY xs lo hi):=fun x hx=>h x (VZ hx)
theorem LyA.cons{n:Nat}{x:PyData}{xs:List PyData}(h:Ly n x)(g:LyA n xs):LyA n (x::xs):=fun y hy=>by
 rcases List.mem_cons.mp hy with rfl | hy
 ·exact h
 ·exact g y hy
theorem LyA.rev{n:Nat}{xs:List PyData}(h:LyA n xs):LyA n xs.reverse:=fun x hx=>h x (List.mem_reverse.mp hx)
theorem LyA.mono{n k:Nat}{xs:List PyData}(h:LyA n xs)(hk:n<=k):LyA k xs:=fun x hx=>(h x hx).mono hk
theorem LyA.one{n:Nat}{x:PyData}(h:Ly n x):LyA n [x]:=.cons h .nil
theorem LyA.t{n:Nat}{xs:List PyData}(h:LyA n xs):Ly (n+1) (.tuple xs):=Tr h
theorem LyA.l{n:Nat}{xs:List PyData}(h:LyA n xs):Ly (n+1) (.list xs):=QJ h
theorem cl{xs:List PyData}{lo hi:Option Int}{n:Nat}(h:xs.length<=n):(bY xs lo hi).length<=n:=Nat.le_trans (V8 xs lo hi) h
theorem Np:∀ {n:Nat} {p:PyData},fM n p->(∃ z,p=.str z/\kD z)\/(∃ i,p=.int i/\Bd 200 i)\/(∃ b,p=.bool b)\/∃ k xs,n=k+1/\p=.tuple xs/\xs.length<=40/\∀ x∈xs,fM k x
 | 0,p,.inl h=>.inl h
 | 0,p,.inr (.inl h)=>.inr (.inl h)
 | 0,p,.inr (.inr h)=>.inr (.inr (.inl h))
 | n+1,p,.inl h=>by
  rcases Np h with h | h | h | ⟨k,xs,rfl,h1,h2,h3⟩
  ·exact .inl h
  ·exact .inr (.inl h)
  ·exact .inr (.inr (.inl h))
  ·exact .inr (.inr (.inr ⟨k+1,xs,rfl,h1,h2,fun x hx=>.inl (h3 x hx)⟩))
 | n+1,p,.inr ⟨xs,h1,h2,h3⟩=>.inr (.inr (.inr ⟨n,xs,rfl,h1,h2,h3⟩))
theorem kO:∀ {n:Nat} {p:PyData},fM n p->Ly (n+1) p
 | 0,p,.inl ⟨z,e,g⟩=>by subst e;exact oK (Ls g) (by have:=g.2;omega)
 | 0,p,.inr (.inl ⟨i,e,g⟩)=>by subst e;exact kQ (g.mono (by decide))
 | 0,p,.inr (.inr ⟨b,e⟩)=>by subst e;exact Fe
 | n+1,p,.inl h=>(kO h).mono (by omega)
 | n+1,p,.inr ⟨xs,h1,h2,h3⟩=>by subst h1;exact Tr fun x hx=>kO (h3 x hx)
theorem v8(s:String):gc (Str.ofString s):=fun c hc=>by
 rw[Str.ofString_eq_toList]at hc;simp at hc;obtain⟨d,_,rfl⟩:=hc;have:=d.valid
 unfold UInt32.isValidChar Nat.isValidChar at this;show d.val.toNat<1114112
 omega
theorem FM{i:Int}(h:Bd 200 i):Ly 1 (.str (Str.ofString (toString i))):=oK (v8 _) (by
 rw[PySem.ofString_length];exact Nat.le_trans (PySem.int_text_length_le (k:=200) (by decide) (h.log (by decide))) (by decide))
theorem TM{r:Int}(h0:0<=r)(h1:r<30):∃ c,cA (Str.ofString "abcdefghijklmnopqrstuvwxyz.A 0").cps.toList r=some c/\c<1114112:=by
 obtain⟨k,rfl⟩:∃ k:Nat,r=k:=⟨r.toNat,by omega⟩
 have hk:k<(Str.ofString "abcdefghijklmnopqrstuvwxyz.A 0").cps.toList.length:=by
  have:(Str.ofString "abcdefghijklmnopqrstuvwxyz.A 0").cps.toList.length=30:=by decide +kernel
  omega
 have all:∀ c∈(Str.ofString "abcdefghijklmnopqrstuvwxyz.A 0").cps.toList,c<1114112:=by decide +kernel
 exact⟨_,iF (List.getElem?_eq_getElem hk),all _ (List.getElem_mem hk)⟩
theorem z1:1<=sizeLine:=sz (by decide)
theorem z3:3<=sizeLine:=sz (by decide)
theorem z4:4<=sizeLine:=sz (by decide)
theorem z6:6<=sizeLine:=sz (by decide)
theorem zS:4+1<=sizeLine:=sz (by decide)
theorem As:3+1<=sizeLine:=sz (by decide)
theorem GB{W}:(bV (.tuple W) "tuple" || bV (.tuple W) "str")=true:=by simp
theorem FZ{W}:(bV (.str W) "tuple" || bV (.str W) "str")=true:=by simp
theorem MU{W}:(bV (.int W) "tuple" || bV (.int W) "str")=false:=by simp
theorem GK{W}:(bV (.bool W) "tuple" || bV (.bool W) "str")=false:=by simp
theorem XD{W}:bV (.str W) "tuple"=false:=by simp
theorem W0{W}:bV (.str W) "str"=true:=by simp
theorem NF{W}:bV (.int W) "str"=false:=by simp
theorem PR{W}:bV (.int W) "bool"=false:=by simp
theorem RE{W}:bV (.bool W) "tuple"=false:=by simp
theorem SD{W}:bV (.bool W) "str"=false:=by simp
theorem PQ{W}:bV (.bool W) "bool"=true:=by simp
theorem zU(j:Nat):VcE fU (hZ (j+1)) (mB j) mL:=by
 rintro ds m R hl ⟨a,p,rfl,hs,hf,h⟩;rcases Np hs with⟨z,rfl,gz⟩ | ⟨i,rfl,hb⟩ | ⟨b,rfl⟩ | ⟨n,W,rfl,rfl,wl,wz⟩
 ·have zl:=gz.2
  have zc:=Ls gz
  have zs8:z.length<=sizeLine:=sz (by omega)
  repeat first | refine bF FZ ?_ | refine⟨rfl,?_⟩ | refine⟨_,rfl,?_⟩ | refine⟨zs8,?_⟩
  refine dG (by omega) (by omega) hf fun at' m1 _ _ hf1 kp1=>?_
  repeat first | refine bF W0 ?_ | refine bP XD ?_ | refine bP (c:=false) rfl ?_ | refine⟨rfl,?_⟩ | refine⟨_,rfl,?_⟩ | refine⟨zs8,?_⟩
  refine dG (n:=30) (by decide) (by decide) hf1 fun r m2 r0 r1 hf2 kp2=>?_
  obtain⟨c,ec,hc⟩:=TM r0 r1;refine⟨c,sz (by decide +kernel),ec,?_⟩
  have l1:∀ c:Nat,(({cps:=#[c]}:Str)).length=1:=fun _=>rfl
  have la:∀ a b:Str,(a++b).length=a.length+b.length:=fun a b=>strLen_append a b
  have sl:∀ lo hi,(Txt.slice z lo hi).length<=20:=fun lo hi=>Nat.le_trans (Ds _ _ _) zl
  have q1:∀ lo hi,(Txt.slice z lo hi).length+({cps:=#[c]}:Str).length<=sizeLine:=fun lo hi=>sz (by rw[l1];have:=sl lo hi;omega)
  have q2:∀ lo hi lo' hi',(Txt.slice z lo hi++({cps:=#[c]}:Str)).length+(Txt.slice z lo' hi').length<=sizeLine:=fun lo hi lo' hi'=>sz (by rw[la,l1];have:=sl lo hi;have:=sl lo' hi';omega)
  have q3:∀ lo hi lo' hi',(Txt.slice z lo hi).length+(Txt.slice z lo' hi').length<=sizeLine:=fun lo hi lo' hi'=>sz (by have:=sl lo hi;have:=sl lo' hi';omega)
  have gcc:gc ({cps:=#[c]}:Str):=Re hc
  have sg:=fun lo hi=>Mf zc lo hi
  have k1:∀ lo hi lo' hi',(Txt.slice z lo hi++({cps:=#[c]}:Str)++Txt.slice z lo' hi').length<=1000:=fun lo hi lo' hi'=>by
   rw[la,la,l1];have:=sl lo hi;have:=sl lo' hi';omega
  have k2:∀ lo hi lo' hi',(Txt.slice z lo hi++Txt.slice z lo' hi').length<=1000:=fun lo hi lo' hi'=>by
   rw[la];have:=sl lo hi;have:=sl lo' hi';omega
  repeat first | refine⟨rfl,?_⟩ | refine⟨_,rfl,?_⟩ | refine .inr (.inr (.inl ⟨_,rfl,zs8,?_⟩)) | refine And.intro (by first | with_reducible exact q1 _ _ | with_reducible exact q2 _ _ _ _ | with_reducible exact q3 _ _ _ _ | exact z1 | exact z3 | exact z4 | exact z6 | exact zS | exact As) ?_
  refine dG (n:=4) (by decide) (by decide) hf2 fun q m3 q0 q1 hf3 kp3=>?_
  refine hG (P:=Ly (j+3)) ?_ q0 q1 fun p gp=>h p m3 gp hf3 (kp1.trans (kp2.trans kp3));have g1:=fun lo hi lo' hi'=>(oK (oU (oU (sg lo hi) gcc) (sg lo' hi')) (k1 lo hi lo' hi')).mono (show 1<=j+3 by omega)
  have g2:=fun lo hi lo' hi'=>(oK (oU (sg lo hi) (sg lo' hi')) (k2 lo hi lo' hi')).mono (show 1<=j+3 by omega)
  exact LyA.cons (g1 _ _ _ _) (.cons (g1 _ _ _ _) (.cons (g2 _ _ _ _) (.one ((LyA.t (.one (oK zc (by omega)))).mono (by omega)))))
 ·have hb8:i.natAbs.log2<1920:=Nat.lt_of_lt_of_le (hb.log (by decide)) (by decide)
  repeat first | refine bP MU ?_ | refine bP zT ?_ | refine bP NF ?_ | refine bP PR ?_ | refine bP (c:=false) rfl ?_ | refine⟨rfl,?_⟩ | refine⟨_,rfl,?_⟩ | refine⟨Nat.zero_le _,?_⟩ | refine⟨hb8,?_⟩ | refine⟨z1,?_⟩ | refine⟨z3,?_⟩ | refine⟨z4,?_⟩ | refine⟨z6,?_⟩ | refine⟨zS,?_⟩ | refine⟨As,?_⟩ 
  refine dG (n:=6) (by decide) (by decide) hf fun q m1 q0 q1 hf1 kp1=>?_
  have k0:Bd 201 (i+1):=hb.add ((nC (i:=1) (n:=2)).mono (by decide))
  have k1:Bd 201 (i-1):=hb.sub ((nC (i:=1) (n:=2)).mono (by decide))
  have k2:Bd 201 (0-i):=by rw[Int.zero_sub];exact hb.neg.mono (by decide)
  refine hG (P:=Ly (j+3)) ?_ q0 q1 fun p gp=>h p m1 gp hf1 kp1;exact LyA.cons ((kQ (k0.mono (by decide))).mono (by omega)) (.cons ((kQ (k1.mono (by decide))).mono (by omega)) (.cons ((kQ (k2.mono (by decide))).mono (by omega)) (.cons (Fe.mono (by omega)) (.cons ((FM hb).mono (by omega)) (.one ((LyA.l (.one (kQ (hb.mono (by decide))))).mono (by omega)))))))
 ·repeat first | refine bP GK ?_ | refine bP RE ?_ | refine bP SD ?_ | refine bF PQ ?_ | refine bP (c:=false) rfl ?_ | refine⟨rfl,?_⟩ | refine⟨_,rfl,?_⟩ | refine⟨z1,?_⟩ | refine⟨z3,?_⟩ | refine⟨z4,?_⟩ | refine⟨z6,?_⟩ | refine⟨zS,?_⟩ | refine⟨As,?_⟩ 
  refine dG (n:=3) (by decide) (by decide) hf fun q m1 q0 q1 hf1 kp1=>?_
  refine hG (P:=Ly (j+3)) ?_ q0 q1 fun p gp=>h p m1 gp hf1 kp1;refine LyA.cons (Ly.mono (n:=1) ?_ (by omega)) (.cons (Fe.mono (by omega)) (.one (Bv.mono (by omega))))
  cases b<;>exact kQ ((nC (n:=2)).mono (by decide))
 ·have we:LyA (n+3) W:=fun x hx=>(kO (wz x hx)).mono (by omega)
  have c40:∀ lo hi,(bY W lo hi).length<=40:=fun lo hi=>cl wl
  have s3:∀ lo hi lo' hi' (x:PyData),(bY W lo hi++[x]).length+(bY W lo' hi').length<=sizeLine:=fun lo hi lo' hi' x=>sz (by have:=c40 lo hi;have:=c40 lo' hi';rw[List.length_append];show _+1+_<=_;omega)
  have s2:∀ lo hi (x:PyData),(bY W lo hi).length+[x].length<=sizeLine:=fun lo hi x=>sz (by have:=c40 lo hi;show _+1<=_;omega)
  have s4:∀ lo hi lo' hi',(bY W lo hi).length+(bY W lo' hi').length<=sizeLine:=fun lo hi lo' hi'=>sz (by have:=c40 lo hi;have:=c40 lo' hi';omega)
  have s6:∀ lo hi lo' hi' l2 h2,(bY W lo hi++bY W lo' hi').length+(bY W l2 h2).length<=sizeLine:=fun lo hi lo' hi' l2 h2=>sz (by have:=c40 lo hi;have:=c40 lo' hi';have:=c40 l2 h2;rw[List.length_append];omega)
  have s5:∀ x:PyData,W.length+[x].length<=sizeLine:=fun x=>sz (by show _+1<=_;omega)
  repeat first | refine bF GB ?_ | refine⟨rfl,?_⟩ | refine⟨_,rfl,?_⟩
  refine dG (by omega) (by omega) hf fun at' m1 t0 t1 hf1 kp1=>?_
  have deep:∀ m2,Feeds m2 a->Kp a m m2->Zi (n+1) (EN R) [some (.cel a),some (.dat (.tuple W)),some (I at'),none,none] m2:=fun m2 hf2 kp2=>by
   repeat first | refine bF qJ ?_ | refine⟨rfl,?_⟩ | refine⟨_,rfl,?_⟩ | refine .inl ⟨_,rfl,?_⟩ | refine And.intro (by first | with_reducible exact s4 _ _ _ _ | with_reducible exact s6 _ _ _ _ _ _ | with_reducible exact s5 _ | exact z1 | exact z3 | exact z4 | exact z6 | exact zS | exact As) ?_
   refine dG (n:=5) (by decide) (by decide) hf2 fun q m3 q0 q1 hf3 kp3=>?_
   refine hG (P:=Ly (n+1+3)) ?_ q0 q1 fun p gp=>h p m3 gp hf3 (kp2.trans kp3);exact LyA.cons we.l (.cons ((we.cut _ _).app (we.cut _ _)).t (.cons (((we.cut _ _).app (we.cut _ _)).app (we.cut _ _)).t (.cons we.rev.t (.one (we.app (.one ((kQ ((nC (n:=2)).mono (by decide))).mono (by omega)))).t))))
  repeat first | refine bF qJ ?_ | refine⟨rfl,?_⟩ | refine⟨_,rfl,?_⟩
  by_cases c:at'<(W.length:Int)
  ·refine bF (decide_eq_true c) ?_
   repeat first | refine⟨rfl,?_⟩ | refine⟨_,rfl,?_⟩
   refine dG (n:=5) (by decide) (by decide) hf1 fun q m2 q0 q1 hf2 kp2=>?_
   refine⟨_,rfl,?_⟩
   by_cases c2:0<q
   ·refine bF (decide_eq_true c2) ?_
    repeat first | refine⟨rfl,?_⟩ | refine⟨_,rfl,?_⟩ | refine .inl ⟨_,rfl,?_⟩
    refine hG (P:=fM n) wz t0 c fun x hx=>?_;refine⟨rfl,a,x,rfl,hx,hf2,fun p m3 gp hf3 kp3=>?_⟩
    repeat first | refine⟨rfl,?_⟩ | refine⟨_,rfl,?_⟩ | refine .inl ⟨_,rfl,?_⟩ | refine And.intro (by first | with_reducible exact s2 _ _ _ | with_reducible exact s3 _ _ _ _ _ | exact z1 | exact z3 | exact z4 | exact z6 | exact zS | exact As) ?_
    refine h _ m3 ?_ hf3 (kp1.trans (kp2.trans kp3));exact(((we.cut _ _).app (.one gp)).app (we.cut _ _)).t
   ·refine bP (decide_eq_false c2) ?_;exact deep m2 hf2 (kp1.trans kp2)
  ·refine bP (decide_eq_false c) ?_;refine bP (c:=false) rfl ?_;exact deep m1 hf1 kp1
theorem rJ{z:Str}(h:z.cps.toList.all (fun c=>decide (c<1114112))=true/\z.length<=1000):Ly 1 (.str z) :=
 oK (fun c hc=>by simpa using List.all_eq_true.mp h.1 c hc) h.2
theorem EK:∀ z∈sE,kD z:=by
 unfold kD;decide +kernel
theorem E1{ts:List (Str×Bool)}{s:Say}(nm:Nm (ts.map (·.1)))(h:kF ts s):∃ (z:Str) (xs:List PyData),fB s=.tuple (.str z::xs)/\3<=xs.length/\xs.length<=4/\fM 0 (.str z)/\(∀ x∈xs,fM 1 x):=by
 have gm:∀ z:Str,z="may"\/z="gap"->kD z:=by
  unfold kD;rintro z (rfl | rfl)<;>decide +kernel
 have gn:∀ a,a∈ts.map (·.1)->fM 0 (.str a):=fun a ha=>.inl ⟨a,rfl,nm.2.2 a ha⟩
 cases s with
 | may a b ws =>
  obtain⟨h1,h2,h3,h4⟩:=h;refine⟨"may",_,rfl,by simp,by simp,.inl ⟨_,rfl,gm _ (.inl rfl)⟩,fun x hx=>?_⟩
  simp at hx;rcases hx with rfl | rfl | rfl
  ·exact .inl (gn _ h1)
  ·exact .inl (gn _ h2)
  ·refine .inr ⟨_,rfl,by simp;omega,fun y hy=>?_⟩
   obtain⟨w,hw,rfl⟩:=List.mem_map.mp hy;exact .inl ⟨w,rfl,EK w (h4 w hw)⟩
 | gap x y n s =>
  obtain⟨h1,h2,h3,h4,h5⟩:=h;have be:∀ e:Str×Bool,e.1∈ts.map (·.1)->fM 1 (eD e):=fun e he=>.inr ⟨_,rfl,by simp,fun y hy=>by
   simp at hy;rcases hy with rfl | rfl
   ·exact gn _ he
   ·exact .inr (.inl ⟨_,rfl,by cases e.2<;>exact Bd.mono (m:=2) (by unfold Bd;decide) (by decide)⟩)⟩
  refine⟨"gap",_,rfl,by simp,by simp,.inl ⟨_,rfl,gm _ (.inr rfl)⟩,fun z hz=>?_⟩
  simp only[List.mem_cons,List.not_mem_nil,or_false]at hz;rcases hz with rfl | rfl | rfl | rfl
  ·exact be _ h1
  ·exact be _ h2
  ·refine .inr ⟨_,rfl,by simp,fun y hy=>?_⟩
   simp at hy;rcases hy with rfl | rfl
   ·exact .inr (.inl ⟨_,rfl,h4⟩)
   ·exact .inr (.inl ⟨_,rfl,h5⟩)
  ·exact .inl (.inr (.inr ⟨_,rfl⟩))
theorem SM{ts:List (Str×Bool)}{s:Say}{z:Str}{xs:List PyData}(h:fB s=.tuple (.str z::xs))(hz:z="may"):xs.length=3:=by
 cases s with
 | may a b ws =>
  simp only[fB]at h
  injection h with h
  injection h with h1 h2
  rw[<- h2];rfl
 | gap x y n s =>
  simp only[fB]at h
  injection h with h
  injection h with h1 h2
  injection h1 with h1
  rw[hz]at h1;exact absurd h1 (by decide +kernel)
theorem GJ(x y z w:PyData)(xs:List PyData):cA (x::y::z::w::xs) 3=some w:=by
 have:(3:Int)<xs.length+1+1+1+1:=by omega
 simp[cA,fG,this]
theorem z8:8<=sizeLine:=sz (by decide)
theorem z0:0<=sizeLine:=sz (by decide)
theorem MG{p}{P:Prop}{Q:Prop}(h:∀ W,p≠PyData.tuple W)(k:Q):if bV p "tuple"=true then P else Q:=bP (by cases p<;>first | exact absurd rfl (h _) | simp) k
theorem w6:VcE pX xV Mm Jx:=by
 rintro ds m R hl ⟨a,ts,s,odd,rfl,nm,so,lo,hf,h⟩;obtain⟨z,xs,es,x3,x4,sz0,sx⟩:=E1 nm so;have m4:=SM (ts:=ts) es
 rw[es];obtain⟨W,hW⟩:∃ W,W=PyData.str z::xs:=⟨_,rfl⟩;have wl:W.length<=5:=by rw[hW];simp;omega
 have w1:4<=W.length:=by rw[hW];simp;omega
 have ws:∀ x∈W,fM 1 x:=by rw[hW];exact fun x hx=>(List.mem_cons.mp hx).elim (fun e=>by rw[e];exact .inl sz0) (sx x)
 have we:LyA 4 W:=fun x hx=>(kO (ws x hx)).mono (by decide)
 have w0:cA W 0=some (.str z):=by rw[hW];exact hV _ _
 rw[<- hW];have lo4:Ly 4 odd:=lo.mono (by decide)
 have c5:∀ lo hi,(bY W lo hi).length<=5:=fun lo hi=>cl wl
 have s1:∀ lo hi lo' hi' (x:PyData),(bY W lo hi++[x]).length+(bY W lo' hi').length<=sizeLine:=fun lo hi lo' hi' x=>sz (by have:=c5 lo hi;have:=c5 lo' hi';rw[List.length_append];show _+1+_<=_;omega)
 have s2:∀ lo hi (x:PyData),(bY W lo hi).length+[x].length<=sizeLine:=fun lo hi x=>sz (by have:=c5 lo hi;show _+1<=_;omega)
 have s3:∀ lo hi lo' hi',(bY W lo hi).length+(bY W lo' hi').length<=sizeLine:=fun lo hi lo' hi'=>sz (by have:=c5 lo hi;have:=c5 lo' hi';omega)
 have s5:∀ x:PyData,W.length+[x].length<=sizeLine:=fun x=>sz (by show _+1<=_;omega)
 repeat first | refine⟨rfl,?_⟩ | refine⟨_,rfl,?_⟩
 refine dG (n:=(W.length:Int)) (by omega) (by omega) hf fun at' m1 a0 a1 hf1 kp1=>?_
 repeat first | refine⟨rfl,?_⟩ | refine⟨_,rfl,?_⟩
 refine hG ws a0 a1 fun p hp=>?_;have lp:Ly 4 p:=(kO hp).mono (by decide)
 -- what stands behind the piece
 have tail:∀ (S:List PyData) (o6:Option D) m2,3<=S.length->S.length<=10->LyA 8 S->Feeds m2 a->Kp a m m2->O1 (EN R) [some (.cel a),some (.dat (.tuple W)),some (.dat odd),some (I at'),some (.dat p),some (.dat (.list S)),o6,none,none] m2:=fun S o6 m2 S3 S10 gS hf2 kp2=>by
  repeat first | refine⟨rfl,?_⟩ | refine⟨_,rfl,?_⟩ | refine .inl ⟨_,rfl,?_⟩
  refine dG (n:=(S.length:Int)) (by omega) (by omega) hf2 fun r m3 r0 r1 hf3 kp3=>?_
  refine hG gS r0 r1 fun u gu=>?_;have gB:Ly 9 (.tuple (bY W none (some at')++[u]++bY W (some (at'+1)) none)):=LyA.t ((((we.cut _ _).mono (by decide)).app (.one gu)).app ((we.cut _ _).mono (by decide)))
  have nE:∀ B,Ly 9 B->Zr (EN R) [some (.cel a),some (.dat (.tuple W)),some (.dat odd),some (I at'),some (.dat p),some (.dat (.list S)),o6,some (.dat B),none] m3:=fun B gB=>by
   repeat first | refine⟨rfl,?_⟩ | refine⟨_,rfl,?_⟩ | refine .inl ⟨_,rfl,?_⟩ | refine And.intro (by first | with_reducible exact s3 _ _ _ _ | with_reducible exact s5 _ | exact z0 | exact z1 | exact z8) ?_
   have gM:LyA 6 [.tuple (bY W none (some at')++bY W (some (at'+1)) none),.tuple (W++[odd]),.list W,.none,.tuple [.str "may"],.tuple [.str "gap"],.tuple [],.str "may"] :=
    .cons (((we.cut _ _).app (we.cut _ _)).t.mono (by decide)) (.cons ((we.app (.one lo4)).t.mono (by decide)) (.cons (we.l.mono (by decide)) (.cons (Bv.mono (by decide)) (.cons ((LyA.t (.one (rJ (by decide +kernel)))).mono (by decide)) (.cons ((LyA.t (.one (rJ (by decide +kernel)))).mono (by decide)) (.cons ((LyA.t (n:=1) .nil).mono (by decide)) (.one ((rJ (by decide +kernel)).mono (by decide)))))))))
   intro c hc;have kp3':Kp a m m3:=kp2.trans kp3
   have hfa:(m3 a).isSome=true:=by obtain⟨xs,e,_⟩:=hf3;rw[e];rfl
   have ca:c≠a:=fun e=>by rw[e]at hc;rw[hc]at hfa;cases hfa
   have hmc:m c=none:=by
    cases e:m c with
    | none=>rfl
    | some v =>
     have:=kp3' c ca (by rw[e];rfl)
     rw[hc,e]at this
     cases this
   have ff:∀ m' x,Feeds m' a->Feeds (cK m' c x) a:=fun m' x ⟨xs,q,f⟩=>⟨xs,by rw[eR (Ne.symm ca)];exact q,f⟩
   have fk:∀ m' x,Kp a m m'->Kp a m (cK m' c x):=fun m' x kp d hd hs=>by
    have dc:d≠c:=fun e=>by rw[e,hmc]at hs;cases hs
    rw[eR dc];exact kp d hd hs
   have fin:∀ (M:List PyData) m',m' c=some (.l M)->1<=M.length->M.length<=20->LyA 6 M->Feeds m' a->Kp a m m'->D6 (EN R) [some (.cel a),some (.dat (.tuple W)),some (.dat odd),some (I at'),some (.dat p),some (.dat (.list S)),o6,some (.dat B),some (.cel c)] m':=fun M m' hm M1 M2 gM hf' kp'=>by
    repeat first | refine⟨rfl,?_⟩ | refine⟨_,rfl,?_⟩ | refine⟨_,hm,?_⟩
    refine dG (n:=(M.length:Int)) (by omega) (by omega) hf' fun r m4 r0 r1 hf4 kp4=>?_
    have hm4:=kp4.get ca hm
    obtain⟨v,ev,gv⟩:=oC gM r0 r1
    refine⟨M,v,hm4,ev,?_⟩
    repeat first | refine⟨rfl,?_⟩ | refine⟨_,rfl,?_⟩ | refine⟨z4,?_⟩
    refine dG (n:=4) (by decide) (by decide) hf4 fun q m5 q0 q1 hf5 kp5=>?_
    refine hG (P:=Ly 10) ?_ q0 q1 fun y gy=>h y m5 gy hf5 (kp'.trans (kp4.trans kp5));have gb:=gB.mono (show 9<=10 by decide)
    exact LyA.cons gb (.cons gb (.cons gb (.one (gv.mono (by decide)))))
   have bC:∀ M,LyA 6 M->M.length=8->Rw (EN R) [some (.cel a),some (.dat (.tuple W)),some (.dat odd),some (I at'),some (.dat p),some (.dat (.list S)),o6,some (.dat B),some (.cel c)] (cK m3 c (.l M)):=fun M gM lM=>by
    have hm3:cK m3 c (.l M) c=some (.l M):=eI
    refine⟨_,rfl,_,w0,_,rfl,?_⟩
    by_cases cz:z=Str.ofString "may"
    ·refine bF (decide_eq_true cz) ?_;have x3':=m4 cz
     obtain⟨x1,x2,x3v,ex⟩:∃ x1 x2 x3,xs=[x1,x2,x3]:=by
      match xs,x3' with
      | [x1,x2,x3],_=>exact⟨x1,x2,x3,rfl⟩
     have e1:cA W 1=some x1:=by rw[hW,ex];exact jT _ _ _
     have e2:cA W 2=some x2:=by rw[hW,ex];exact G4 _ _ _ _
     have e3:cA W 3=some x3v:=by rw[hW,ex];exact GJ _ _ _ _ _
     have gx:∀ x∈xs,Ly 4 x:=fun x hx=>(kO (sx x hx)).mono (by decide)
     refine⟨_,rfl,_,rfl,⟨_,hm3⟩,?_⟩;refine⟨_,rfl,_,w0,_,rfl,_,e2,_,rfl,_,e1,_,rfl,_,e3,_,rfl,z4,M,_,rfl,hm3,Nat.lt_of_lt_of_le (by omega:M.length<100) (sz (by decide)),?_⟩
     refine fin (M++[.tuple [.str z,x2,x1,x3v]]) _ eI (by simp) (by simp;omega) (gM.app (.one ?_)) (ff _ _ (ff _ _ hf3)) (fk _ _ (fk _ _ kp3'))
     exact(LyA.t (n:=4) (.cons ((kO sz0).mono (by decide)) (.cons (gx _ (by rw[ex];simp)) (.cons (gx _ (by rw[ex];simp)) (.one (gx _ (by rw[ex];simp))))))).mono (by decide)
    ·exact bP (decide_eq_false cz) (fin M _ hm3 (by omega) (by omega) gM (ff _ _ hf3) (fk _ _ kp3'))
   exact bC _ gM rfl
  repeat first | exact nE _ gB | refine⟨rfl,?_⟩ | refine⟨_,rfl,?_⟩ | refine .inl ⟨_,rfl,?_⟩ | refine And.intro (by first | with_reducible exact s2 _ _ _ | with_reducible exact s1 _ _ _ _ _ | exact z1) ?_
 have oth:(∀ W,p≠.tuple W)->Tp (EN R) [some (.cel a),some (.dat (.tuple W)),some (.dat odd),some (I at'),some (.dat p),none,none,none,none] m1:=fun np=>by
  have T:=tail [odd,p,odd] none m1 (by simp) (by simp) (.cons (lo.mono (by decide)) (.cons (lp.mono (by decide)) (.one (lo.mono (by decide))))) hf1 kp1
  repeat first | exact T | refine MG np ?_ | refine bP rfl ?_ | refine⟨rfl,?_⟩ | refine⟨_,rfl,?_⟩ | refine⟨z3,?_⟩
 rcases Np hp with⟨q,rfl,gq⟩ | ⟨q,rfl,gq⟩ | ⟨q,rfl⟩ | ⟨n,us,en,rfl,ul,uz⟩
 ·exact oth (fun W e=>nomatch e)
 ·exact oth (fun W e=>nomatch e)
 ·exact oth (fun W e=>nomatch e)
 ·have n0:n=0:=by omega
  subst n0;have ue:LyA 3 us:=fun x hx=>(kO (uz x hx)).mono (by decide)
  have c40:∀ lo hi,(bY us lo hi).length<=40:=fun lo hi=>cl ul
  have t1:∀ lo hi lo' hi' (x:PyData),(bY us lo hi++[x]).length+(bY us lo' hi').length<=sizeLine:=fun lo hi lo' hi' x=>sz (by have:=c40 lo hi;have:=c40 lo' hi';rw[List.length_append];show _+1+_<=_;omega)
  have t2:∀ lo hi (x:PyData),(bY us lo hi).length+[x].length<=sizeLine:=fun lo hi x=>sz (by have:=c40 lo hi;show _+1<=_;omega)
  have t3:∀ lo hi lo' hi',(bY us lo hi).length+(bY us lo' hi').length<=sizeLine:=fun lo hi lo' hi'=>sz (by have:=c40 lo hi;have:=c40 lo' hi';omega)
  have t5:∀ lo hi,us.length+(bY us lo hi).length<=sizeLine:=fun lo hi=>sz (by have:=c40 lo hi;omega)
  have g0:LyA 8 [odd,.list us,.tuple (bY us none (some 1))]:=.cons (lo.mono (by decide)) (.cons (ue.l.mono (by decide)) (.one ((ue.cut _ _).t.mono (by decide))))
  have z34:3+4<=sizeLine:=sz (by decide)
  repeat first | refine bF qJ ?_ | refine⟨rfl,?_⟩ | refine⟨_,rfl,?_⟩ | refine .inl ⟨_,rfl,?_⟩ | refine⟨z3,?_⟩
  by_cases u0:0<(us.length:Int)
  ·refine bF (decide_eq_true u0) ?_
   repeat first | refine⟨rfl,?_⟩ | refine⟨_,rfl,?_⟩
   refine dG (n:=(us.length:Int)) (by omega) (by omega) hf1 fun r m2 r0 r1 hf2 kp2=>?_
   have T:=tail ([odd,.list us,.tuple (bY us none (some 1))]++[.tuple (bY us none (some r)++[odd]++bY us (some (r+1)) none),.tuple us.reverse,.tuple (us++bY us (some (-1)) none),.tuple (bY us none (some r)++bY us (some (r+1)) none)]) (some (I r)) m2 (by simp) (by simp) (g0.app
    (LyA.cons ((((ue.cut _ _).app (.one lo)).app (ue.cut _ _)).t.mono (by decide)) (.cons (ue.rev.t.mono (by decide)) (.cons ((ue.app (ue.cut _ _)).t.mono (by decide)) (.one (((ue.cut _ _).app (ue.cut _ _)).t.mono (by decide))))))) hf2 (kp1.trans kp2)
   repeat first | exact T | refine⟨rfl,?_⟩ | refine⟨_,rfl,?_⟩ | refine .inl ⟨_,rfl,?_⟩ | refine And.intro (by first | with_reducible exact t1 _ _ _ _ _ | with_reducible exact t2 _ _ _ | with_reducible exact t3 _ _ _ _ | with_reducible exact t5 _ _ | exact z1 | exact z4 | exact z34) ?_
  ·refine bP (decide_eq_false u0) ?_;exact tail _ _ m1 (by simp) (by simp) g0 hf1 kp1
theorem BA:∀ ds m R,ds.length=fU.length->hZ 1 ds m R->mB 0 (EN R) (aW mL ds) m:=zU 0
theorem GZ:∀ ds m R,ds.length=fU.length->hZ 2 ds m R->mB 1 (EN R) (aW mL ds) m:=zU 1
theorem MY:∀ ds m R,ds.length=fU.length->hZ 3 ds m R->mB 2 (EN R) (aW mL ds) m:=zU 2
theorem U4:∀ ds m R,ds.length=fU.length->hZ 4 ds m R->mB 3 (EN R) (aW mL ds) m:=zU 3
theorem EG:∀ ds m R,ds.length=fU.length->hZ 5 ds m R->mB 4 (EN R) (aW mL ds) m:=zU 4
theorem XA{ts:List (Str×Bool)}(nm:Nm (ts.map (·.1))):fM 2 (TH ts):=by
 have kg:∀ k,kD (kd k):=by unfold kD;decide +kernel
 refine .inr ⟨_,rfl,?_,fun x hx=>?_⟩
 ·have:=nm.2.1;simp at this ⊢;omega
 ·obtain⟨t,ht,rfl⟩:=List.mem_map.mp hx;refine .inr ⟨_,rfl,by simp,fun y hy=>?_⟩
  simp at hy;rcases hy with rfl | rfl
  ·exact .inl ⟨_,rfl,nm.2.2 t.1 (List.mem_map.mpr ⟨t,ht,rfl⟩)⟩
  ·exact .inl ⟨_,rfl,kg _⟩
theorem CQ{ts:List (Str×Bool)}{s:Say}(nm:Nm (ts.map (·.1)))(h:kF ts s):fM 2 (fB s):=by
 obtain⟨z,xs,e,h1,h2,h3,h4⟩:=E1 nm h;rw[e];refine .inr ⟨_,rfl,by simp;omega,fun x hx=>?_⟩
 rcases List.mem_cons.mp hx with rfl | hx
 ·exact .inl h3
 ·exact h4 x hx
theorem sb(b:Bool):(PyData.bool b).showable=true/\(PyData.bool b).shown.length<=sizeLine/\(PyData.bool b).depth<=100:=by
 cases b<;>exact⟨rfl,sz (by decide +kernel),by simp[PyData.depth]⟩
theorem FO:VcE Br tW Gi Lb:=by
 rintro ds m R hl ⟨ns,rfl,hn,h⟩;simp[Gi];refine Qd (fun d _=>∃ o1 o2 o3 o4 o5 o6 o7 o8 o9,d=[some (.dat (.list (ns.map .int))),o1,o2,o3,o4,o5,o6,o7,o8,o9]) ?_ _ ?_ _ _ ⟨_,_,_,_,_,_,_,_,_,rfl⟩
 ·rintro d m' -;simp[oQ];exact h m'
 ·rintro x hx K hK d m1 ⟨o1,o2,o3,o4,o5,o6,o7,o8,o9,rfl⟩;obtain⟨i,rfl,i0,i1⟩:=u7 hx;refine⟨_,rfl,_,rfl,rfl,ns,i,rfl,hn,i0,by omega,fun a m2 hf=>?_⟩
  refine⟨_,rfl,rfl,a,6,rfl,by decide,by decide,hf,fun ts m3 t1 tn hf3=>?_⟩
  have n6:ts.length<=6:=by simpa using tn.2.1
  refine⟨_,rfl,_,rfl,_,rfl,_,rfl,rfl,a,ts,rfl,n6,hf3,fun ps m4 tp pb hf4=>?_⟩;refine⟨_,rfl,z3,_,rfl,rfl,dG (n:=3) (by decide) (by decide) hf4 fun r m5 r0 r1 hf5 kp5=>?_⟩
  refine hG (xs:=[.int 3,.int 8,.int 24]) (P:=fun x=>∃ n:Int,x=.int n/\0<=n/\n<=40) (by simp) r0 r1 ?_
  rintro _ ⟨n,rfl,q0,q1⟩;refine⟨rfl,a,ts,ps,n,rfl,tn,tp,pb,q0,q1,hf5,fun ss m6 sl sk hf6=>⟨_,jT _ _ _,?_⟩⟩;show J8 {nx:=K,rt:=R,bk:=oQ (EN R),ct:=K} [some (.dat (.list (ns.map .int))),some (I i),some (.cel a),some (.dat (TH ts)),some (.dat (.tuple (ss.map fB))),o5,o6,o7,o8,o9] m6
  have tS:fM 2 (TH ts):=XA tn
  have sS:∀ x∈ss.map fB,∃ s,x=fB s/\kF ts s:=fun x hx=>by
   obtain⟨s,hs,rfl⟩:=List.mem_map.mp hx;exact⟨s,rfl,sk s hs⟩
  have sL:(ss.map fB).length<=40:=by simpa using sl
  generalize ss.map fB=SS at sS sL ⊢
  have sh:∀ x∈SS,fM 2 x:=fun x hx=>by
   obtain⟨s,rfl,q⟩:=sS x hx;exact CQ tn q
  have gS:LyA 3 SS:=fun x hx=>kO (sh x hx)
  obtain⟨t0,tr,et⟩:∃ t tr,ts=t::tr:=by
   cases ts with
   | nil=>simp at t1
   | cons t tr=>exact⟨t,tr,rfl⟩
  have e0:cA (ts.map fun t=>PyData.tuple [.str t.1,.str (kd t.2)]) 0=some (.tuple [.str t0.1,.str (kd t0.2)]):=by rw[et];exact hV _ _
  have g0:Ly 1 (.str t0.1):=by
   have:=tn.2.2 t0.1 (by rw[et];simp)
   exact oK (Ls this) (by have:=this.2;omega)
  have lT:(ts.map fun t=>PyData.tuple [.str t.1,.str (kd t.2)]).length<=6:=by simpa using n6
  unfold TH at tS ⊢
  generalize (ts.map fun t=>PyData.tuple [.str t.1,.str (kd t.2)])=TL at tS e0 lT ⊢
  have gT:LyA 3 TL:=fun x hx=>(eQ (kO tS) x hx).mono (by decide)
  have gTS:Ly 6 (.tuple [.tuple TL,.tuple SS]):=LyA.t (.cons (gT.t.mono (by decide)) (.one (gS.t.mono (by decide))))
  have kS:fM 4 (.tuple [.tuple TL,.tuple SS]):=.inr ⟨_,rfl,by simp,fun x hx=>by
   simp at hx;rcases hx with rfl | rfl
   ·exact .inl tS
   ·exact .inr ⟨_,rfl,sL,sh⟩⟩
  -- the judges
  have judge:∀ (E:Ends2) (L:List PyData) o6 o7 o8 o9 (c:Addr) m',(∀ d m',(∃ o1 o2 o3 o4 o5 o6 o7 o8 o9,d=[some (.dat (.list (ns.map .int))),o1,o2,o3,o4,o5,o6,o7,o8,o9])->E.nx d m')->LyA 30 L->eP (gN 9) Xh E (L.map .dat) [some (.dat (.list (ns.map .int))),some (I i),some (.cel a),some (.dat (.tuple TL)),some (.dat (.tuple SS)),some (.cel c),o6,o7,o8,o9] m':=fun E L o6 o7 o8 o9 c m' hE gL=>by
   refine Qd (fun d m'=>∃ o9,d=[some (.dat (.list (ns.map .int))),some (I i),some (.cel a),some (.dat (.tuple TL)),some (.dat (.tuple SS)),some (.cel c),o6,o7,o8,o9]) ?_ _ ?_ _ _ ⟨_,rfl⟩
   ·rintro d m8 ⟨o9,rfl⟩;exact hE _ _ ⟨_,_,_,_,_,_,_,_,_,rfl⟩
   ·rintro x hx K' hK' d m8 ⟨o9,rfl⟩;obtain⟨q,hq,rfl⟩:=List.mem_map.mp hx;have lq:Ly 40 q:=(gL q hq).mono (by decide)
    obtain⟨s1,s2,s3⟩:=sb (lI q);refine⟨_,rfl,rfl,q,rfl,lq,fun m9=>⟨s1,s2,s3,_,rfl,rfl,q,rfl,lq,fun m9=>⟨s1,s2,s3,_,rfl,?_⟩⟩⟩;exact bP (kT (decide_eq_true rfl)) (hK' _ _ ⟨_,rfl⟩)
  -- what stands behind the six QD
  have last:∀ (S:List PyData) o6 o7 o8 o9 (c:Addr) m',S.length<=40->LyA 20 S->c≠a->m' c=some (.l S)->Feeds m' a->Pu {nx:=K,rt:=R,bk:=oQ (EN R),ct:=K} [some (.dat (.list (ns.map .int))),some (I i),some (.cel a),some (.dat (.tuple TL)),some (.dat (.tuple SS)),some (.cel c),o6,o7,o8,o9] m':=fun S o6 o7 o8 o9 c m' Sl gS' ca hm hf'=>by
   simp[Pu,cV];refine qY (n:=4) (fun i acc d m''=>Feeds m'' a/\m'' c=some (.l S)/\acc.length=i/\LyA 20 acc/\∃ o,d=[o,some (.cel a),some (.dat (.tuple TL)),some (.dat (.tuple SS))]) ?_ ?_ _ _ _ ⟨hf',hm,rfl,.nil,_,rfl⟩
   ·rintro acc d m8 ⟨hf8,hm8,al,ga,-⟩;simp[hm8,al];refine⟨sz (by omega),?_⟩
    rw[<- List.map_append];exact judge _ _ _ _ _ _ _ _ (fun d m' q=>hK d m' q) ((gS'.app ga).mono (by decide))
   ·rintro j acc d m8 K' hj ⟨hf8,hm8,al,ga,o,rfl⟩ hK';simp[sz];refine⟨a,_,rfl,kS,hf8,fun q m9 gq hf9 kp9=>?_⟩;exact⟨_,rfl,Nat.lt_of_lt_of_le (by omega:acc.length<100) (sz (by decide)),hK' _ _ _ ⟨hf9,kp9.get ca hm8,by simp[al],ga.app (.one (gq.mono (by decide))),_,rfl⟩⟩
  have hfa6:(m6 a).isSome=true:=by obtain⟨xs,e,_⟩:=hf6;rw[e];rfl
  repeat first | refine⟨_,rfl,?_⟩ | refine⟨z1,?_⟩ | refine⟨z2,?_⟩ | refine⟨z6,?_⟩
  intro c1 hc1;show N5 {nx:=K,rt:=R,bk:=oQ (EN R),ct:=K} [some (.dat (.list (ns.map .int))),some (I i),some (.cel a),some (.dat (.tuple TL)),some (.dat (.tuple SS)),some (.cel c1),o6,o7,o8,o9] (cK m6 c1 (.l [PyData.tuple [.tuple TL,.tuple SS],.list [.tuple TL,.tuple SS],.tuple [.tuple TL,.list SS],.tuple [.tuple TL],.tuple [.tuple SS,.tuple TL],.none]))
  have ca1:c1≠a:=fun e=>by rw[e]at hc1;rw[hc1]at hfa6;cases hfa6
  have gA:LyA 10 [.tuple [.tuple TL,.tuple SS],.list [.tuple TL,.tuple SS],.tuple [.tuple TL,.list SS],.tuple [.tuple TL],.tuple [.tuple SS,.tuple TL],.none]:=by
   have a1:Ly 5 (.tuple TL):=gT.t.mono (by decide)
   have a2:Ly 5 (.tuple SS):=gS.t.mono (by decide)
   have a3:Ly 5 (.list SS):=gS.l.mono (by decide)
   exact .cons (gTS.mono (by decide)) (.cons ((LyA.l (.cons a1 (.one a2))).mono (by decide)) (.cons ((LyA.t (.cons a1 (.one a3))).mono (by decide)) (.cons ((LyA.t (.one a1)).mono (by decide)) (.cons ((LyA.t (.cons a2 (.one a1))).mono (by decide)) (.one (Bv.mono (by decide)))))))
  generalize hA:[PyData.tuple [.tuple TL,.tuple SS],.list [.tuple TL,.tuple SS],.tuple [.tuple TL,.list SS],.tuple [.tuple TL],.tuple [.tuple SS,.tuple TL],.none]=A at gA ⊢
  have lA:A.length=6:=by rw[<- hA];rfl
  clear hA;have hf7:Feeds (cK m6 c1 (.l A)) a:=hf6.kn (Kn.new hc1)
  have hm7:(cK m6 c1 (.l A)) c1=some (.l A):=eI
  generalize cK m6 c1 (.l A)=m7 at hf7 hm7 ⊢
  have hfa7:(m7 a).isSome=true:=by obtain⟨xs,e,_⟩:=hf7;rw[e];rfl
  have z63:A.length+3<=sizeLine:=sz (by omega)
  repeat first | refine⟨_,rfl,?_⟩ | refine .inl ⟨_,rfl,?_⟩ | refine⟨z0,?_⟩ | refine⟨z2,?_⟩ | refine⟨z3,?_⟩
  refine⟨_,hm7,z63,?_⟩;intro c hc;show Gp {nx:=K,rt:=R,bk:=oQ (EN R),ct:=K} [some (.dat (.list (ns.map .int))),some (I i),some (.cel a),some (.dat (.tuple TL)),some (.dat (.tuple SS)),some (.cel c),o6,o7,o8,o9] (cK m7 c (.l (A++[PyData.tuple [.tuple TL,.tuple []],.tuple [.list TL,.tuple SS],.tuple [.tuple (bY TL none (some 0)),.tuple SS]])))
  have ca:c≠a:=fun e=>by rw[e]at hc;rw[hc]at hfa7;cases hfa7
  have gB:LyA 10 (A++[.tuple [.tuple TL,.tuple []],.tuple [.list TL,.tuple SS],.tuple [.tuple (bY TL none (some 0)),.tuple SS]]):=by
   have a1:Ly 5 (.tuple TL):=gT.t.mono (by decide)
   have a2:Ly 5 (.tuple SS):=gS.t.mono (by decide)
   have a3:Ly 5 (.list TL):=gT.l.mono (by decide)
   have a4:Ly 5 (.tuple []):=(LyA.t (n:=1) .nil).mono (by decide)
   have a5:Ly 5 (.tuple (bY TL none (some 0))):=(gT.cut _ _).t.mono (by decide)
   exact gA.app (.cons ((LyA.t (.cons a1 (.one a4))).mono (by decide)) (.cons ((LyA.t (.cons a3 (.one a2))).mono (by decide)) (.one ((LyA.t (.cons a5 (.one a2))).mono (by decide)))))
  have lB:(A++[PyData.tuple [.tuple TL,.tuple []],.tuple [.list TL,.tuple SS],.tuple [.tuple (bY TL none (some 0)),.tuple SS]]).length=9:=by simp[lA]
  generalize A++[PyData.tuple [.tuple TL,.tuple []],.tuple [.list TL,.tuple SS],.tuple [.tuple (bY TL none (some 0)),.tuple SS]]=B at gB lB ⊢
  have hf8:Feeds (cK m7 c (.l B)) a:=hf7.kn (Kn.new hc)
  have hm8:(cK m7 c (.l B)) c=some (.l B):=eI
  generalize cK m7 c (.l B)=m8 at hf8 hm8 ⊢
  have ff:∀ m' x,Feeds m' a->Feeds (cK m' c x) a:=fun m' x ⟨xs,q,f⟩=>⟨xs,by rw[eR (Ne.symm ca)];exact q,f⟩
  have mz:SS.length*25<=sizeLine:=sz (by omega)
  simp[Gp,hm8,mz];refine dG (by decide) (by decide) hf8 fun r m9 r0 r1 hf9 kp9=>?_
  have hm9:=kp9.get ca hm8
  have gR:LyA 3 (List.replicate 25 SS).flatten:=fun x hx=>by
   obtain⟨l,h1,h2⟩:=List.mem_flatten.mp hx;rw[List.eq_of_mem_replicate h1]at h2;exact gS x h2
  have six:∀ (S:List PyData) o6 o7 o8 o9 m',S.length<=12->LyA 20 S->m' c=some (.l S)->Feeds m' a->Io {nx:=K,rt:=R,bk:=oQ (EN R),ct:=K} [some (.dat (.list (ns.map .int))),some (I i),some (.cel a),some (.dat (.tuple TL)),some (.dat (.tuple SS)),some (.cel c),o6,o7,o8,o9] m':=fun S o6 o7 o8 o9 m' Sl gS0 hm hf'=>by
   simp[Io];refine Ev (N:=6) (fun j d m'=>(∃ o6 o7 o8 o9,d=[some (.dat (.list (ns.map .int))),some (I i),some (.cel a),some (.dat (.tuple TL)),some (.dat (.tuple SS)),some (.cel c),o6,o7,o8,o9])/\Feeds m' a/\∃ S,m' c=some (.l S)/\S.length<=12+j/\LyA 20 S) ?_ ?_ 6 0 (by omega) _ _ ⟨⟨_,_,_,_,rfl⟩,hf',S,hm,by omega,gS0⟩
   ·rintro d m2 ⟨⟨o6,o7,o8,o9,rfl⟩,hf2,S,hs,Sl,gS2⟩;exact last S _ _ _ _ c m2 (by omega) gS2 ca hs hf2
   ·rintro j d m2 K' hj ⟨⟨o6,o7,o8,o9,rfl⟩,hf2,S,hs,Sl,gS2⟩ hK';have z15:15<=sizeLine:=sz (by decide)
    repeat first | refine⟨rfl,?_⟩ | refine⟨_,rfl,?_⟩ | refine⟨_,e0,?_⟩ | refine⟨z0,?_⟩ | refine⟨z1,?_⟩ | refine⟨z2,?_⟩ | refine⟨z15,?_⟩
    refine dG (n:=15) (by decide) (by decide) hf2 fun r m3 r0 r1 hf3 kp3=>?_
    have hs3:=kp3.get ca hs
    refine hG (P:=Ly 3) ?_ r0 r1 fun odd go=>?_
    ·have ii:∀ n:Int,n.natAbs<2^4->Ly 3 (.int n):=fun n hn=>(kQ (Bd.mono (m:=4) hn (by decide))).mono (by decide)
     have i2:∀ n k:Int,n.natAbs<2^4->k.natAbs<2^4->Ly 3 (.tuple [.int n,.int k]):=fun n k hn hk=>(LyA.t (n:=1) (.cons (kQ (Bd.mono (m:=4) hn (by decide))) (.one (kQ (Bd.mono (m:=4) hk (by decide)))))).mono (by decide)
     have lb:∀ b,Ly 3 (.bool b):=fun b=>Fe.mono (by decide)
     exact LyA.cons (ii _ (by decide)) (.cons (ii _ (by decide)) (.cons (ii _ (by decide)) (.cons (lb _) (.cons (lb _) (.cons (Bv.mono (by decide)) (.cons ((rJ (by decide +kernel)).mono (by decide)) (.cons (g0.mono (by decide)) (.cons ((rJ (by decide +kernel)).mono (by decide)) (.cons ((rJ (by decide +kernel)).mono (by decide)) (.cons (i2 _ _ (by decide) (by decide)) (.cons (i2 _ _ (by decide) (by decide)) (.cons (ii _ (by decide)) (.cons ((LyA.l (n:=1) .nil).mono (by decide)) (.one ((LyA.l (.one (rJ (by decide +kernel)))).mono (by decide))))))))))))))))
    refine⟨_,rfl,_,rfl,?_⟩
    by_cases s0:(0:Int)<SS.length
    rotate_left
    ·exact bP (decide_eq_false s0) (hK' _ _ ⟨⟨_,_,_,_,rfl⟩,hf3,S,hs3,by omega,gS2⟩)
    ·refine bF (decide_eq_true s0) ?_;have c40:∀ lo hi,(bY SS lo hi).length<=40:=fun lo hi=>cl sL
     have u1:∀ lo hi lo' hi',(bY SS lo hi).length+1+(bY SS lo' hi').length<=sizeLine:=fun lo hi lo' hi'=>sz (by have:=c40 lo hi;have:=c40 lo' hi';omega)
     have u2:∀ lo hi,(bY SS lo hi).length+1<=sizeLine:=fun lo hi=>sz (by have:=c40 lo hi;omega)
     refine⟨_,rfl,_,rfl,rfl,dG (n:=(SS.length:Int)) (by omega) (by omega) hf3 fun r m4 r0 r1 hf4 kp4=>?_⟩
     have hs4:=kp4.get ca hs3
     simp[Vw,hs4];refine hG (P:=fun x=>∃ s,x=fB s/\kF ts s) sS r0 r1 ?_;rintro _ ⟨s,rfl,os⟩;refine⟨a,ts,s,odd,rfl,tn,os,go,hf4,fun q m5 gq hf5 kp5=>?_⟩;have hs5:=kp5.get ca hs4
     simp[sz,u1,u2,hs5];refine⟨Nat.lt_of_lt_of_le (by omega:S.length<100) (sz (by decide)),hK' _ _ ⟨⟨_,_,_,_,rfl⟩,ff _ _ hf5,_,eI,by simp;omega,gS2.app (.one ?_)⟩⟩
     refine(LyA.t (n:=11) (.cons (gT.t.mono (by decide)) (.one ?_))).mono (by decide)
     exact LyA.t (((gS.cut _ _).mono (by decide)).app (.cons gq ((gS.cut _ _).mono (by decide))))
  simp[sz,hm9];refine⟨Nat.lt_of_lt_of_le (by omega:B.length<100) (sz (by decide)),six _ _ _ _ _ _ (by simp;omega) ?_ eI (ff _ _ hf9)⟩
  refine(gB.mono (by decide)).app (.one ((LyA.t (n:=5) (.cons (gT.t.mono (by decide)) (.one ?_))).mono (by decide)))
  refine(LyA.t (n:=3) (LyA.cut ?_ _ _)).mono (by decide)
  simpa[List.replicate,List.flatten] using gR
end K15
namespace HD
open PySem PySem.W
section
variable {α β:Type}{tb:String->Option Builtin}{p:Program}{w:World}{n₀:Nat}{ann:Option Value}{c:Code}{B:List Frame}
theorem Yr{b:Nat}:∀ {n m:Nat} {s s1 s2:Shared} {t t1 t2:Thread},segGo tb p w n₀ ann b n s t=some (s1,t1)->segGo tb p w n₀ ann b m s1 t1=some (s2,t2)->segGo tb p w n₀ ann b (n+m) s t=some (s2,t2)
 | 0,m,s,s1,s2,t,t1,t2,h,k=>by
  obtain⟨rfl,rfl⟩:s=s1/\t=t1:=by simpa[segGo] using h
  rw[Nat.zero_add];exact k
 | n+1,m,s,s1,s2,t,t1,t2,h,k=>by
  rw[show n+1+m=n+m+1 by omega]
  unfold segGo at h ⊢
  cases he:endAt b t with
  | some f=>rw[he]at h;cases h
  | none =>
   rw[he]at h
   cases hk:stepOk n₀ ann t with
   | false=>rw[hk]at h;cases h
   | true =>
    rw[hk]at h
    cases hs:step (denote tb) p w s t with
    | halt o s'=>rw[hs]at h;cases h
    | go s' t'=>rw[hs]at h;exact Yr h k
def R(N:Nat)(tb:String->Option Builtin)(p:Program)(w:World)(n₀:Nat)(ann:Option Value)(c:Code)(B:List Frame)(m:Sem α)(s:Shared)(pos:Pos)(a:α)(s':Shared)(pos':Pos):Prop :=
 ∀ (K:α->Sem Fin) (H:Value->Sem Fin) (gd:Bool->Bool) (lv:List Value->List Value),∃ n,n<=N/\segGo tb p w n₀ ann B.length n s ⟨m.wrap K H gd lv,c,pos,B⟩=some (s',⟨K a,c,pos',B⟩)
variable {s s1 s':Shared}{pos pos1 pos':Pos}{N N1 N2:Nat}
theorem R.pure{a:α}:R 0 tb p w n₀ ann c B (Pure.pure a) s pos a s pos:=fun K H gd lv=>⟨0,Nat.le_refl _,rfl⟩
theorem R.mono{m:Sem α}{a:α}(hN:N1<=N)(h:R N1 tb p w n₀ ann c B m s pos a s' pos'):R N tb p w n₀ ann c B m s pos a s' pos':=fun K H gd lv=>let ⟨n,l,e⟩:=h K H gd lv;⟨n,Nat.le_trans l hN,e⟩
theorem R.bind{m:Sem α}{f:α->Sem β}{a:α}{b:β}(h:R N1 tb p w n₀ ann c B m s pos a s1 pos1)(k:R N2 tb p w n₀ ann c B (f a) s1 pos1 b s' pos'):R (N1+N2) tb p w n₀ ann c B (m>>=f) s pos b s' pos':=fun K H gd lv=>by
 obtain⟨n1,l1,e1⟩:=h (fun a=>(f a).wrap K H gd lv) H gd lv;obtain⟨n2,l2,e2⟩:=k K H gd lv;refine⟨n1+n2,Nat.add_le_add l1 l2,?_⟩;have e:(m>>=f).wrap K H gd lv=m.wrap (fun a=>(f a).wrap K H gd lv) H gd lv:=by
  rw[Sem.bind_eq_wrap',Sem.wrap_wrap];rfl
 rw[e];exact Yr e1 e2
theorem R.hold{m:Sem α}{vs:List Value}{a:α}(h:R N tb p w n₀ ann c B m s pos a s' pos'):R N tb p w n₀ ann c B (holding vs m) s pos a s' pos':=by
 unfold holding
 split
 ·exact h
 ·intro K H gd lv;rw[Sem.keep_eq_wrap,Sem.wrap_wrap];exact h K H _ _
theorem R.leaf{m:Sem α}{a:α}{sT sT':SharedT}(n:Nat)(h:∀ (K:α->Sem Fin) (H:Value->Sem Fin) (gd:Bool->Bool) (lv:List Value->List Value),segGoT tb p w n₀ ann B.length n sT ⟨m.wrap K H gd lv,c,pos,B⟩=some (sT',⟨K a,c,pos',B⟩)):R n tb p w n₀ ann c B m sT.abs pos a sT'.abs pos':=fun K H gd lv=>⟨n,Nat.le_refl _,segGo_of (h K H gd lv)⟩
theorem R.piece{m:Sem Flow}{q:Pos}(h:R N tb p w n₀ ann c [topFrame q] m s pos .next s' pos'):∃ n,n<=N+1/\segRun tb p w n₀ ann 1 n s ⟨m.wrap doneF deadEnd id id,c,pos,[topFrame q]⟩=some (.next,s',c,pos'):=by
 obtain⟨n,l,e⟩:=h doneF deadEnd id id;exact⟨n+1,Nat.succ_le_succ l,seg_go (N:=1) e rfl⟩
end
section
variable {α β:Type}{tb:String->Option Builtin}{p:Program}{w:World}{n₀:Nat}{ann:Option Value}{c:Code}{B:List Frame}{s s1 s':Shared}{pos pos1 pos':Pos}
def keysOf:Stmt->List (Option Expr) | .Assign [.Name _ _] (.Dict ks _ _) _=>ks | _=>[]
def Bz:Stmt->List Expr | .Assign [.Name _ _] (.Dict _ vs _) _=>vs | _=>[]
def yE:Stmt->Pos | .Assign [.Name _ _] (.Dict _ _ dp) _=>dp | _=>default
def Pf:Stmt->Pos | .Assign [.Name _ px] (.Dict _ _ _) _=>px | _=>default
def Nl:Stmt->Pos | .Assign _ _ sp=>sp | _=>default
end
end HD
set_option maxHeartbeats 0
namespace H15
open PySem PySem.W HD
open_shared pre for PySem.Challenge.pw_whens_k15_talks_by_kind leaving 50
abbrev prog:Program:=PySem.Challenge.pw_whens_k15_talks_by_kind
abbrev q0:Pos:=⟨0,0,0,0⟩
def st:Stmt:=prog.main.body.getD 6 (.Pass q0)
def mf(k:Nat)(cl:Value)(g:Addr)(clo:List (Str×Addr))(d kd dc pm:Value)(an:Option Addr)(cd ct:Value)(bi:Addr):Obj:=match prog.main.body.getD k (.Pass q0) with
 | .FunctionDef n a b _ _ _ s _ _ _=>⟨cl,none,.func ⟨n,n,a,.stmts b,s,g,clo,d,kd,dc,pm,an,cd,ct,bi⟩,#[]⟩
 | _=>⟨cl,none,.plain,#[]⟩
def tq(xs:List Value):Obj:=⟨.type "tuple",none,.seq xs.toArray,#[]⟩
def fl(xs:List Value):Obj:=⟨.none,none,.fields xs.toArray,#[]⟩
def lf(o:Obj):BT:=.node o .nil .nil
noncomputable section
def o3(P:Params):Obj:=⟨.type "dict",none,.dict #[⟨PyData.keyHash P "__name__",.str "__name__" 165,.str "law_whens_k15_talks_by_kind" 388⟩,⟨PyData.keyHash P "__doc__",.str "__doc__" 166,.none⟩,⟨PyData.keyHash P "__package__",.str "__package__" 167,.none⟩,⟨PyData.keyHash P "__loader__",.str "__loader__" 168,Value.builtin "__main__.__loader__#opaque"⟩,⟨PyData.keyHash P "__spec__",.str "__spec__" 169,.none⟩,⟨PyData.keyHash P "__annotations__",.str "__annotations__" 170,.ref 6⟩,⟨PyData.keyHash P "__builtins__",.str "__builtins__" 171,.ref 4⟩,⟨PyData.keyHash P "__file__",.str "__file__" 173,.str "/claim/cut.py" 172⟩,⟨PyData.keyHash P "__cached__",.str "__cached__" 174,.none⟩,⟨PyData.keyHash P "is_whole",.str "is_whole" 195,.ref 21⟩,⟨PyData.keyHash P "common",.str "common" 203,.ref 28⟩,⟨PyData.keyHash P "is_fraction",.str "is_fraction" 212,.ref 35⟩,⟨PyData.keyHash P "ORDER",.str "ORDER" 228,.ref 36⟩,⟨PyData.keyHash P "POINT_WORDS",.str "POINT_WORDS" 257,.ref 37⟩,⟨PyData.keyHash P "END_COUNTS",.str "END_COUNTS" 264,.ref 44⟩,⟨PyData.keyHash P "words_of",.str "words_of" 271,.ref 51⟩,⟨PyData.keyHash P "is_may",.str "is_may" 281,.ref 58⟩,⟨PyData.keyHash P "LETTERS",.str "LETTERS" 285,.str "abcdefghijklmnopqrstuvwxyz" 284⟩,⟨PyData.keyHash P "LONGEST_NAME",.str "LONGEST_NAME" 287,.int 8 286⟩,⟨PyData.keyHash P "MOST_THINGS",.str "MOST_THINGS" 289,.int 6 288⟩,⟨PyData.keyHash P "is_name",.str "is_name" 295,.ref 63⟩,⟨PyData.keyHash P "is_named_kind",.str "is_named_kind" 302,.ref 70⟩,⟨PyData.keyHash P "is_things",.str "is_things" 308,.ref 75⟩,⟨PyData.keyHash P "names_of",.str "names_of" 314,.ref 80⟩,⟨PyData.keyHash P "kinds_of",.str "kinds_of" 324,.ref 87⟩,⟨PyData.keyHash P "are_two_names",.str "are_two_names" 334,.ref 94⟩,⟨PyData.keyHash P "ends_of",.str "ends_of" 340,.ref 99⟩,⟨PyData.keyHash P "is_end",.str "is_end" 348,.ref 106⟩,⟨PyData.keyHash P "MOST_SAYINGS",.str "MOST_SAYINGS" 352,.int 24 351⟩,⟨PyData.keyHash P "is_may_saying",.str "is_may_saying" 360,.ref 113⟩,⟨PyData.keyHash P "is_gap_saying",.str "is_gap_saying" 373,.ref 120⟩,⟨PyData.keyHash P "is_saying",.str "is_saying" 381,.ref 127⟩,⟨PyData.keyHash P "is_talk",.str "is_talk" 387,.ref 132⟩,⟨PyData.keyHash P "_law_feed",.str "_law_feed" 398,.ref 139⟩,⟨PyData.keyHash P "_law_draw",.str "_law_draw" 408,.ref 146⟩,⟨PyData.keyHash P "_law_fraction",.str "_law_fraction" 419,.ref 153⟩,⟨PyData.keyHash P "_law_stand",.str "_law_stand" 428,.ref 160⟩,⟨PyData.keyHash P "_law_word",.str "_law_word" 440,.ref 167⟩,⟨PyData.keyHash P "_law_words",.str "_law_words" 448,.ref 174⟩,⟨PyData.keyHash P "_law_names",.str "_law_names" 454,.ref 179⟩,⟨PyData.keyHash P "_law_kinds",.str "_law_kinds" 460,.ref 184⟩,⟨PyData.keyHash P "_law_things",.str "_law_things" 466,.ref 189⟩,⟨PyData.keyHash P "_law_may",.str "_law_may" 472,.ref 194⟩,⟨PyData.keyHash P "_law_times",.str "_law_times" 485,.ref 201⟩,⟨PyData.keyHash P "_law_telling",.str "_law_telling" 491,.ref 206⟩,⟨PyData.keyHash P "_law_all_ends",.str "_law_all_ends" 501,.ref 213⟩,⟨PyData.keyHash P "_law_time",.str "_law_time" 511,.ref 220⟩,⟨PyData.keyHash P "_law_may_saying",.str "_law_may_saying" 517,.ref 225⟩,⟨PyData.keyHash P "_law_gap_saying",.str "_law_gap_saying" 536,.ref 232⟩,⟨PyData.keyHash P "_law_talk",.str "_law_talk" 549,.ref 239⟩,⟨PyData.keyHash P "_law_is_end",.str "_law_is_end" 557,.ref 246⟩,⟨PyData.keyHash P "_law_is_may_saying",.str "_law_is_may_saying" 568,.ref 253⟩,⟨PyData.keyHash P "_law_is_gap_saying",.str "_law_is_gap_saying" 577,.ref 260⟩,⟨PyData.keyHash P "_law_is_saying",.str "_law_is_saying" 585,.ref 267⟩,⟨PyData.keyHash P "_law_bent_saying",.str "_law_bent_saying" 600,.ref 274⟩,⟨PyData.keyHash P "_law_is_name",.str "_law_is_name" 606,.ref 279⟩,⟨PyData.keyHash P "_law_is_things",.str "_law_is_things" 615,.ref 286⟩,⟨PyData.keyHash P "_law_is_any_talk",.str "_law_is_any_talk" 621,.ref 291⟩,⟨PyData.keyHash P "_law_spoilt",.str "_law_spoilt" 632,.ref 298⟩,⟨PyData.keyHash P "law",.str "law" 638,.ref 303⟩] 60,#[]⟩
def Q6(P:Params):Obj:=tq []
def PB(P:Params):Obj:=tq [.str "thing" 192]
def CB(P:Params):Obj:=tq []
def o20(P:Params):Obj:=⟨.type "code",none,.fields #[.str "is_whole" 189,.str "is_whole" 190,.str "/claim/cut.py" 191,.int 2 0,.int 1 0,.int 0 0,.int 0 0,.int 3 0,.ref 15,.bool true,.int 181 0,.ref 16,.none,.ref 17,.ref 18,.ref 19,.int 193 0,.int 2 0,.str "/claim/cut.py" 194],#[]⟩
def o21(P:Params):Obj:=mf 1 (.type "function") 3 [] .none .none .none (.str "whens.fractions" 187) none (.ref 20) .none 0
def DF(P:Params):Obj:=tq []
def z5(P:Params):Obj:=tq [.str "one" 199,.str "other" 200]
def RT(P:Params):Obj:=tq []
def o27(P:Params):Obj:=⟨.type "code",none,.fields #[.str "common" 196,.str "common" 197,.str "/claim/cut.py" 198,.int 4 0,.int 2 0,.int 0 0,.int 0 0,.int 3 0,.ref 22,.bool true,.int 181 0,.ref 23,.none,.ref 24,.ref 25,.ref 26,.int 201 0,.int 4 0,.str "/claim/cut.py" 202],#[]⟩
def o28(P:Params):Obj:=mf 2 (.type "function") 3 [] .none .none .none (.str "whens.fractions" 187) none (.ref 27) .none 0
def KG(P:Params):Obj:=tq []
def EW(P:Params):Obj:=tq [.str "thing" 207,.str "top" 208,.str "bottom" 209]
def AN(P:Params):Obj:=tq []
def o34(P:Params):Obj:=⟨.type "code",none,.fields #[.str "is_fraction" 204,.str "is_fraction" 205,.str "/claim/cut.py" 206,.int 8 0,.int 1 0,.int 0 0,.int 0 0,.int 3 0,.ref 29,.bool true,.int 181 0,.ref 30,.none,.ref 31,.ref 32,.ref 33,.int 210 0,.int 8 0,.str "/claim/cut.py" 211],#[]⟩
def o35(P:Params):Obj:=mf 3 (.type "function") 3 [] .none .none .none (.str "whens.fractions" 187) none (.ref 34) .none 0
def o36(P:Params):Obj:=tq [.str "ahead" 215,.str "meets" 216,.str "overlaps" 217,.str "begins" 218,.str "within" 219,.str "ends" 220,.str "same" 221,.str "ended" 222,.str "holds" 223,.str "begun" 224,.str "lapped" 225,.str "met" 226,.str "behind" 227]
def o44(P:Params):Obj:=⟨.type "dict",none,.dict #[⟨PyData.keyHash P "point",.str "point" 258,.int 1 259⟩,⟨PyData.keyHash P "stretch",.str "stretch" 260,.int 2 261⟩] 2,#[]⟩
def UN(P:Params):Obj:=tq []
def RU(P:Params):Obj:=tq [.str "kinds" 268]
def KM(P:Params):Obj:=tq []
def o50(P:Params):Obj:=⟨.type "code",none,.fields #[.str "words_of" 265,.str "words_of" 266,.str "/claim/cut.py" 267,.int 19 0,.int 1 0,.int 0 0,.int 0 0,.int 3 0,.ref 45,.bool true,.int 181 0,.ref 46,.none,.ref 47,.ref 48,.ref 49,.int 269 0,.int 19 0,.str "/claim/cut.py" 270],#[]⟩
def o51(P:Params):Obj:=mf 8 (.type "function") 3 [] .none .none .none (.str "whens.words" 213) none (.ref 50) .none 0
def SC(P:Params):Obj:=tq []
def LQ(P:Params):Obj:=tq [.str "kinds" 275,.str "thing" 276,.str "left" 277,.str "word" 278]
def EL(P:Params):Obj:=tq []
def o57(P:Params):Obj:=⟨.type "code",none,.fields #[.str "is_may" 272,.str "is_may" 273,.str "/claim/cut.py" 274,.int 21 0,.int 2 0,.int 0 0,.int 0 0,.int 3 0,.ref 52,.bool true,.int 181 0,.ref 53,.none,.ref 54,.ref 55,.ref 56,.int 279 0,.int 21 0,.str "/claim/cut.py" 280],#[]⟩
def o58(P:Params):Obj:=mf 9 (.type "function") 3 [] .none .none .none (.str "whens.words" 213) none (.ref 57) .none 0
def OW(P:Params):Obj:=tq []
def o62(P:Params):Obj:=⟨.type "code",none,.fields #[.str "is_name" 290,.str "is_name" 291,.str "/claim/cut.py" 292,.int 34 0,.int 1 0,.int 0 0,.int 0 0,.int 3 0,.ref 59,.bool true,.int 181 0,.ref 60,.none,.none,.none,.ref 61,.int 293 0,.int 34 0,.str "/claim/cut.py" 294],#[]⟩
def o63(P:Params):Obj:=mf 14 (.type "function") 3 [] .none .none .none (.str "whens.tellings" 282) none (.ref 62) .none 0
def X7(P:Params):Obj:=tq []
def TQ(P:Params):Obj:=tq [.str "thing" 299]
def KP(P:Params):Obj:=tq []
def o69(P:Params):Obj:=⟨.type "code",none,.fields #[.str "is_named_kind" 296,.str "is_named_kind" 297,.str "/claim/cut.py" 298,.int 38 0,.int 1 0,.int 0 0,.int 0 0,.int 3 0,.ref 64,.bool true,.int 181 0,.ref 65,.none,.ref 66,.ref 67,.ref 68,.int 300 0,.int 38 0,.str "/claim/cut.py" 301],#[]⟩
def o70(P:Params):Obj:=mf 15 (.type "function") 3 [] .none .none .none (.str "whens.tellings" 282) none (.ref 69) .none 0
def w8(P:Params):Obj:=tq []
def o74(P:Params):Obj:=⟨.type "code",none,.fields #[.str "is_things" 303,.str "is_things" 304,.str "/claim/cut.py" 305,.int 40 0,.int 1 0,.int 0 0,.int 0 0,.int 3 0,.ref 71,.bool true,.int 181 0,.ref 72,.none,.none,.none,.ref 73,.int 306 0,.int 40 0,.str "/claim/cut.py" 307],#[]⟩
def o75(P:Params):Obj:=mf 16 (.type "function") 3 [] .none .none .none (.str "whens.tellings" 282) none (.ref 74) .none 0
def XH(P:Params):Obj:=tq []
def o79(P:Params):Obj:=⟨.type "code",none,.fields #[.str "names_of" 309,.str "names_of" 310,.str "/claim/cut.py" 311,.int 47 0,.int 1 0,.int 0 0,.int 0 0,.int 3 0,.ref 76,.bool true,.int 181 0,.ref 77,.none,.none,.none,.ref 78,.int 312 0,.int 47 0,.str "/claim/cut.py" 313],#[]⟩
def o80(P:Params):Obj:=mf 17 (.type "function") 3 [] .none .none .none (.str "whens.tellings" 282) none (.ref 79) .none 0
def GS(P:Params):Obj:=tq []
def JS(P:Params):Obj:=tq [.str "things" 318,.str "a" 319,.str "b" 320,.str "kinds" 321]
def WM(P:Params):Obj:=tq []
def o86(P:Params):Obj:=⟨.type "code",none,.fields #[.str "kinds_of" 315,.str "kinds_of" 316,.str "/claim/cut.py" 317,.int 49 0,.int 3 0,.int 0 0,.int 0 0,.int 3 0,.ref 81,.bool true,.int 181 0,.ref 82,.none,.ref 83,.ref 84,.ref 85,.int 322 0,.int 49 0,.str "/claim/cut.py" 323],#[]⟩
def o87(P:Params):Obj:=mf 18 (.type "function") 3 [] .none .none .none (.str "whens.tellings" 282) none (.ref 86) .none 0
def R5(P:Params):Obj:=tq []
def AQ(P:Params):Obj:=tq [.str "things" 328,.str "a" 329,.str "b" 330,.str "names" 331]
def Y9(P:Params):Obj:=tq []
def o93(P:Params):Obj:=⟨.type "code",none,.fields #[.str "are_two_names" 325,.str "are_two_names" 326,.str "/claim/cut.py" 327,.int 52 0,.int 3 0,.int 0 0,.int 0 0,.int 3 0,.ref 88,.bool true,.int 181 0,.ref 89,.none,.ref 90,.ref 91,.ref 92,.int 332 0,.int 52 0,.str "/claim/cut.py" 333],#[]⟩
def o94(P:Params):Obj:=mf 19 (.type "function") 3 [] .none .none .none (.str "whens.tellings" 282) none (.ref 93) .none 0
def EJ(P:Params):Obj:=tq []
def o98(P:Params):Obj:=⟨.type "code",none,.fields #[.str "ends_of" 335,.str "ends_of" 336,.str "/claim/cut.py" 337,.int 55 0,.int 1 0,.int 0 0,.int 0 0,.int 3 0,.ref 95,.bool true,.int 181 0,.ref 96,.none,.none,.none,.ref 97,.int 338 0,.int 55 0,.str "/claim/cut.py" 339],#[]⟩
def o99(P:Params):Obj:=mf 20 (.type "function") 3 [] .none .none .none (.str "whens.tellings" 282) none (.ref 98) .none 0
def LX(P:Params):Obj:=tq []
def f7(P:Params):Obj:=tq [.str "things" 344,.str "thing" 345]
def MO(P:Params):Obj:=tq []
def o105(P:Params):Obj:=⟨.type "code",none,.fields #[.str "is_end" 341,.str "is_end" 342,.str "/claim/cut.py" 343,.int 57 0,.int 2 0,.int 0 0,.int 0 0,.int 3 0,.ref 100,.bool true,.int 181 0,.ref 101,.none,.ref 102,.ref 103,.ref 104,.int 346 0,.int 57 0,.str "/claim/cut.py" 347],#[]⟩
def o106(P:Params):Obj:=mf 21 (.type "function") 3 [] .none .none .none (.str "whens.tellings" 282) none (.ref 105) .none 0
def x5(P:Params):Obj:=tq []
def W6(P:Params):Obj:=tq [.str "things" 356,.str "thing" 357]
def Q1(P:Params):Obj:=tq []
def o112(P:Params):Obj:=⟨.type "code",none,.fields #[.str "is_may_saying" 353,.str "is_may_saying" 354,.str "/claim/cut.py" 355,.int 63 0,.int 2 0,.int 0 0,.int 0 0,.int 3 0,.ref 107,.bool true,.int 181 0,.ref 108,.none,.ref 109,.ref 110,.ref 111,.int 358 0,.int 63 0,.str "/claim/cut.py" 359],#[]⟩
def o113(P:Params):Obj:=mf 24 (.type "function") 3 [] .none .none .none (.str "whens.talks" 349) none (.ref 112) .none 0
def IV(P:Params):Obj:=tq []
def v9(P:Params):Obj:=tq [.str "things" 364,.str "thing" 365,.str "word" 366,.str "x" 367,.str "y" 368,.str "number" 369,.str "strict" 370]
def X6(P:Params):Obj:=tq []
def o119(P:Params):Obj:=⟨.type "code",none,.fields #[.str "is_gap_saying" 361,.str "is_gap_saying" 362,.str "/claim/cut.py" 363,.int 67 0,.int 2 0,.int 0 0,.int 0 0,.int 3 0,.ref 114,.bool true,.int 181 0,.ref 115,.none,.ref 116,.ref 117,.ref 118,.int 371 0,.int 67 0,.str "/claim/cut.py" 372],#[]⟩
def o120(P:Params):Obj:=mf 25 (.type "function") 3 [] .none .none .none (.str "whens.talks" 349) none (.ref 119) .none 0
def BU(P:Params):Obj:=tq []
def FX(P:Params):Obj:=tq [.str "things" 377,.str "thing" 378]
def OU(P:Params):Obj:=tq []
def o126(P:Params):Obj:=⟨.type "code",none,.fields #[.str "is_saying" 374,.str "is_saying" 375,.str "/claim/cut.py" 376,.int 74 0,.int 2 0,.int 0 0,.int 0 0,.int 3 0,.ref 121,.bool true,.int 181 0,.ref 122,.none,.ref 123,.ref 124,.ref 125,.int 379 0,.int 74 0,.str "/claim/cut.py" 380],#[]⟩
def o127(P:Params):Obj:=mf 26 (.type "function") 3 [] .none .none .none (.str "whens.talks" 349) none (.ref 126) .none 0
def BP(P:Params):Obj:=tq []
def o131(P:Params):Obj:=⟨.type "code",none,.fields #[.str "is_talk" 382,.str "is_talk" 383,.str "/claim/cut.py" 384,.int 80 0,.int 1 0,.int 0 0,.int 0 0,.int 3 0,.ref 128,.bool true,.int 181 0,.ref 129,.none,.none,.none,.ref 130,.int 385 0,.int 80 0,.str "/claim/cut.py" 386],#[]⟩
def o132(P:Params):Obj:=mf 27 (.type "function") 3 [] .none .none .none (.str "whens.talks" 349) none (.ref 131) .none 0
def QH(P:Params):Obj:=tq []
def HR(P:Params):Obj:=tq [.str "_law_script" 393,.str "_law_k" 394,.str "_law_cell" 395]
def PX(P:Params):Obj:=tq []
def o138(P:Params):Obj:=⟨.type "code",none,.fields #[.str "_law_feed" 390,.str "_law_feed" 391,.str "/claim/cut.py" 392,.int 88 0,.int 2 0,.int 0 0,.int 0 0,.int 3 0,.ref 133,.bool true,.int 181 0,.ref 134,.none,.ref 135,.ref 136,.ref 137,.int 396 0,.int 88 0,.str "/claim/cut.py" 397],#[]⟩
def o139(P:Params):Obj:=mf 29 (.type "function") 3 [] .none .none .none (.str "law_whens_k15_talks_by_kind" 388) none (.ref 138) .none 0
def V1(P:Params):Obj:=tq []
def UV(P:Params):Obj:=tq [.str "_law_feed_here" 402,.str "_law_many" 403,.str "_law_figure" 404,.str "_law_number" 405]
def f6(P:Params):Obj:=tq []
def o145(P:Params):Obj:=⟨.type "code",none,.fields #[.str "_law_draw" 399,.str "_law_draw" 400,.str "/claim/cut.py" 401,.int 93 0,.int 2 0,.int 0 0,.int 0 0,.int 3 0,.ref 140,.bool true,.int 181 0,.ref 141,.none,.ref 142,.ref 143,.ref 144,.int 406 0,.int 93 0,.str "/claim/cut.py" 407],#[]⟩
def o146(P:Params):Obj:=mf 30 (.type "function") 3 [] .none .none .none (.str "law_whens_k15_talks_by_kind" 388) none (.ref 145) .none 0
def LH(P:Params):Obj:=tq []
def HV(P:Params):Obj:=tq [.str "_law_top" 412,.str "_law_bottom" 413,.str "_law_one" 414,.str "_law_other" 415,.str "_law_rest" 416]
def IF(P:Params):Obj:=tq []
def o152(P:Params):Obj:=⟨.type "code",none,.fields #[.str "_law_fraction" 409,.str "_law_fraction" 410,.str "/claim/cut.py" 411,.int 103 0,.int 2 0,.int 0 0,.int 0 0,.int 3 0,.ref 147,.bool true,.int 181 0,.ref 148,.none,.ref 149,.ref 150,.ref 151,.int 417 0,.int 103 0,.str "/claim/cut.py" 418],#[]⟩
def o153(P:Params):Obj:=mf 31 (.type "function") 3 [] .none .none .none (.str "law_whens_k15_talks_by_kind" 388) none (.ref 152) .none 0
def KH(P:Params):Obj:=tq []
def XG(P:Params):Obj:=tq [.str "_law_one" 423,.str "_law_other" 424,.str "_law_apart" 425]
def ER(P:Params):Obj:=tq []
def o159(P:Params):Obj:=⟨.type "code",none,.fields #[.str "_law_stand" 420,.str "_law_stand" 421,.str "/claim/cut.py" 422,.int 111 0,.int 2 0,.int 0 0,.int 0 0,.int 3 0,.ref 154,.bool true,.int 181 0,.ref 155,.none,.ref 156,.ref 157,.ref 158,.int 426 0,.int 111 0,.str "/claim/cut.py" 427],#[]⟩
def o160(P:Params):Obj:=mf 32 (.type "function") 3 [] .none .none .none (.str "law_whens_k15_talks_by_kind" 388) none (.ref 159) .none 0
def LC(P:Params):Obj:=tq []
def BE(P:Params):Obj:=tq [.str "_law_one" 432,.str "_law_other" 433,.str "_law_both" 434,.str "_law_a" 435,.str "_law_b" 436,.str "_law_rows" 437]
def UE(P:Params):Obj:=tq []
def o166(P:Params):Obj:=⟨.type "code",none,.fields #[.str "_law_word" 429,.str "_law_word" 430,.str "/claim/cut.py" 431,.int 114 0,.int 2 0,.int 0 0,.int 0 0,.int 3 0,.ref 161,.bool true,.int 181 0,.ref 162,.none,.ref 163,.ref 164,.ref 165,.int 438 0,.int 114 0,.str "/claim/cut.py" 439],#[]⟩
def o167(P:Params):Obj:=mf 33 (.type "function") 3 [] .none .none .none (.str "law_whens_k15_talks_by_kind" 388) none (.ref 166) .none 0
def EM(P:Params):Obj:=tq []
def SX(P:Params):Obj:=tq [.str "_law_kinds_here" 444,.str "_law_first" 445]
def FE(P:Params):Obj:=tq []
def o173(P:Params):Obj:=⟨.type "code",none,.fields #[.str "_law_words" 441,.str "_law_words" 442,.str "/claim/cut.py" 443,.int 128 0,.int 1 0,.int 0 0,.int 0 0,.int 3 0,.ref 168,.bool true,.int 181 0,.ref 169,.none,.ref 170,.ref 171,.ref 172,.int 446 0,.int 128 0,.str "/claim/cut.py" 447],#[]⟩
def o174(P:Params):Obj:=mf 34 (.type "function") 3 [] .none .none .none (.str "law_whens_k15_talks_by_kind" 388) none (.ref 173) .none 0
def P7(P:Params):Obj:=tq []
def o178(P:Params):Obj:=⟨.type "code",none,.fields #[.str "_law_names" 449,.str "_law_names" 450,.str "/claim/cut.py" 451,.int 137 0,.int 2 0,.int 0 0,.int 0 0,.int 3 0,.ref 175,.bool true,.int 181 0,.ref 176,.none,.none,.none,.ref 177,.int 452 0,.int 137 0,.str "/claim/cut.py" 453],#[]⟩
def o179(P:Params):Obj:=mf 35 (.type "function") 3 [] .none .none .none (.str "law_whens_k15_talks_by_kind" 388) none (.ref 178) .none 0
def t7(P:Params):Obj:=tq []
def o183(P:Params):Obj:=⟨.type "code",none,.fields #[.str "_law_kinds" 455,.str "_law_kinds" 456,.str "/claim/cut.py" 457,.int 148 0,.int 2 0,.int 0 0,.int 0 0,.int 3 0,.ref 180,.bool true,.int 181 0,.ref 181,.none,.none,.none,.ref 182,.int 458 0,.int 148 0,.str "/claim/cut.py" 459],#[]⟩
def o184(P:Params):Obj:=mf 36 (.type "function") 3 [] .none .none .none (.str "law_whens_k15_talks_by_kind" 388) none (.ref 183) .none 0
def PU(P:Params):Obj:=tq []
def o188(P:Params):Obj:=⟨.type "code",none,.fields #[.str "_law_things" 461,.str "_law_things" 462,.str "/claim/cut.py" 463,.int 153 0,.int 2 0,.int 0 0,.int 0 0,.int 3 0,.ref 185,.bool true,.int 181 0,.ref 186,.none,.none,.none,.ref 187,.int 464 0,.int 153 0,.str "/claim/cut.py" 465],#[]⟩
def o189(P:Params):Obj:=mf 37 (.type "function") 3 [] .none .none .none (.str "law_whens_k15_talks_by_kind" 388) none (.ref 188) .none 0
def NO(P:Params):Obj:=tq []
def o193(P:Params):Obj:=⟨.type "code",none,.fields #[.str "_law_may" 467,.str "_law_may" 468,.str "/claim/cut.py" 469,.int 157 0,.int 2 0,.int 0 0,.int 0 0,.int 3 0,.ref 190,.bool true,.int 181 0,.ref 191,.none,.none,.none,.ref 192,.int 470 0,.int 157 0,.str "/claim/cut.py" 471],#[]⟩
def o194(P:Params):Obj:=mf 38 (.type "function") 3 [] .none .none .none (.str "law_whens_k15_talks_by_kind" 388) none (.ref 193) .none 0
def SU(P:Params):Obj:=tq []
def X8(P:Params):Obj:=tq [.str "_law_feed_here" 476,.str "_law_kind" 477,.str "_law_base" 478,.str "_law_many" 479,.str "_law_bottom" 480,.str "_law_first" 481,.str "_law_last" 482]
def MH(P:Params):Obj:=tq []
def o200(P:Params):Obj:=⟨.type "code",none,.fields #[.str "_law_times" 473,.str "_law_times" 474,.str "/claim/cut.py" 475,.int 167 0,.int 5 0,.int 0 0,.int 0 0,.int 3 0,.ref 195,.bool true,.int 181 0,.ref 196,.none,.ref 197,.ref 198,.ref 199,.int 483 0,.int 167 0,.str "/claim/cut.py" 484],#[]⟩
def o201(P:Params):Obj:=mf 39 (.type "function") 3 [] .none .none .none (.str "law_whens_k15_talks_by_kind" 388) none (.ref 200) .none 0
def FH(P:Params):Obj:=tq []
def o205(P:Params):Obj:=⟨.type "code",none,.fields #[.str "_law_telling" 486,.str "_law_telling" 487,.str "/claim/cut.py" 488,.int 173 0,.int 2 0,.int 0 0,.int 0 0,.int 3 0,.ref 202,.bool true,.int 181 0,.ref 203,.none,.none,.none,.ref 204,.int 489 0,.int 173 0,.str "/claim/cut.py" 490],#[]⟩
def o206(P:Params):Obj:=mf 40 (.type "function") 3 [] .none .none .none (.str "law_whens_k15_talks_by_kind" 388) none (.ref 205) .none 0
def FB(P:Params):Obj:=tq []
def OY(P:Params):Obj:=tq [.str "_law_things_here" 495,.str "_law_found" 496,.str "_law_name" 497,.str "_law_kind" 498]
def j1(P:Params):Obj:=tq []
def o212(P:Params):Obj:=⟨.type "code",none,.fields #[.str "_law_all_ends" 492,.str "_law_all_ends" 493,.str "/claim/cut.py" 494,.int 178 0,.int 1 0,.int 0 0,.int 0 0,.int 3 0,.ref 207,.bool true,.int 181 0,.ref 208,.none,.ref 209,.ref 210,.ref 211,.int 499 0,.int 178 0,.str "/claim/cut.py" 500],#[]⟩
def o213(P:Params):Obj:=mf 41 (.type "function") 3 [] .none .none .none (.str "law_whens_k15_talks_by_kind" 388) none (.ref 212) .none 0
def PM(P:Params):Obj:=tq []
def U0(P:Params):Obj:=tq [.str "_law_things_here" 505,.str "_law_telling_here" 506,.str "_law_end" 507,.str "_law_k" 508]
def FU(P:Params):Obj:=tq []
def o219(P:Params):Obj:=⟨.type "code",none,.fields #[.str "_law_time" 502,.str "_law_time" 503,.str "/claim/cut.py" 504,.int 185 0,.int 3 0,.int 0 0,.int 0 0,.int 3 0,.ref 214,.bool true,.int 181 0,.ref 215,.none,.ref 216,.ref 217,.ref 218,.int 509 0,.int 185 0,.str "/claim/cut.py" 510],#[]⟩
def o220(P:Params):Obj:=mf 42 (.type "function") 3 [] .none .none .none (.str "law_whens_k15_talks_by_kind" 388) none (.ref 219) .none 0
def WF(P:Params):Obj:=tq []
def o224(P:Params):Obj:=⟨.type "code",none,.fields #[.str "_law_may_saying" 512,.str "_law_may_saying" 513,.str "/claim/cut.py" 514,.int 190 0,.int 3 0,.int 0 0,.int 0 0,.int 3 0,.ref 221,.bool true,.int 181 0,.ref 222,.none,.none,.none,.ref 223,.int 515 0,.int 190 0,.str "/claim/cut.py" 516],#[]⟩
def o225(P:Params):Obj:=mf 43 (.type "function") 3 [] .none .none .none (.str "law_whens_k15_talks_by_kind" 388) none (.ref 224) .none 0
def CG(P:Params):Obj:=tq []
def IT(P:Params):Obj:=tq [.str "_law_feed_here" 521,.str "_law_things_here" 522,.str "_law_telling_here" 523,.str "_law_ends" 524,.str "_law_k" 525,.str "_law_x" 526,.str "_law_y" 527,.str "_law_one" 528,.str "_law_other" 529,.str "_law_top" 530,.str "_law_bottom" 531,.str "_law_way" 532,.str "_law_number" 533]
def DD(P:Params):Obj:=tq []
def o231(P:Params):Obj:=⟨.type "code",none,.fields #[.str "_law_gap_saying" 518,.str "_law_gap_saying" 519,.str "/claim/cut.py" 520,.int 199 0,.int 3 0,.int 0 0,.int 0 0,.int 3 0,.ref 226,.bool true,.int 181 0,.ref 227,.none,.ref 228,.ref 229,.ref 230,.int 534 0,.int 199 0,.str "/claim/cut.py" 535],#[]⟩
def o232(P:Params):Obj:=mf 44 (.type "function") 3 [] .none .none .none (.str "law_whens_k15_talks_by_kind" 388) none (.ref 231) .none 0
def NT(P:Params):Obj:=tq []
def S1(P:Params):Obj:=tq [.str "_law_feed_here" 540,.str "_law_things_here" 541,.str "_law_telling_here" 542,.str "_law_most" 543,.str "_law_ends" 544,.str "_law_sayings" 545,.str "_law_k" 546]
def MT(P:Params):Obj:=tq []
def o238(P:Params):Obj:=⟨.type "code",none,.fields #[.str "_law_talk" 537,.str "_law_talk" 538,.str "/claim/cut.py" 539,.int 216 0,.int 4 0,.int 0 0,.int 0 0,.int 3 0,.ref 233,.bool true,.int 181 0,.ref 234,.none,.ref 235,.ref 236,.ref 237,.int 547 0,.int 216 0,.str "/claim/cut.py" 548],#[]⟩
def o239(P:Params):Obj:=mf 45 (.type "function") 3 [] .none .none .none (.str "law_whens_k15_talks_by_kind" 388) none (.ref 238) .none 0
def f9(P:Params):Obj:=tq []
def HX(P:Params):Obj:=tq [.str "_law_things_here" 553,.str "_law_thing" 554]
def HC(P:Params):Obj:=tq []
def o245(P:Params):Obj:=⟨.type "code",none,.fields #[.str "_law_is_end" 550,.str "_law_is_end" 551,.str "/claim/cut.py" 552,.int 225 0,.int 2 0,.int 0 0,.int 0 0,.int 3 0,.ref 240,.bool true,.int 181 0,.ref 241,.none,.ref 242,.ref 243,.ref 244,.int 555 0,.int 225 0,.str "/claim/cut.py" 556],#[]⟩
def o246(P:Params):Obj:=mf 46 (.type "function") 3 [] .none .none .none (.str "law_whens_k15_talks_by_kind" 388) none (.ref 245) .none 0
def CY(P:Params):Obj:=tq []
def QB(P:Params):Obj:=tq [.str "_law_things_here" 561,.str "_law_thing" 562,.str "_law_kinds_here" 563,.str "_law_known" 564,.str "_law_word_here" 565]
def b9(P:Params):Obj:=tq []
def o252(P:Params):Obj:=⟨.type "code",none,.fields #[.str "_law_is_may_saying" 558,.str "_law_is_may_saying" 559,.str "/claim/cut.py" 560,.int 231 0,.int 2 0,.int 0 0,.int 0 0,.int 3 0,.ref 247,.bool true,.int 181 0,.ref 248,.none,.ref 249,.ref 250,.ref 251,.int 566 0,.int 231 0,.str "/claim/cut.py" 567],#[]⟩
def o253(P:Params):Obj:=mf 47 (.type "function") 3 [] .none .none .none (.str "law_whens_k15_talks_by_kind" 388) none (.ref 252) .none 0
def PY(P:Params):Obj:=tq []
def IR(P:Params):Obj:=tq [.str "_law_things_here" 572,.str "_law_thing" 573,.str "_law_one" 574]
def AI(P:Params):Obj:=tq []
def o259(P:Params):Obj:=⟨.type "code",none,.fields #[.str "_law_is_gap_saying" 569,.str "_law_is_gap_saying" 570,.str "/claim/cut.py" 571,.int 243 0,.int 2 0,.int 0 0,.int 0 0,.int 3 0,.ref 254,.bool true,.int 181 0,.ref 255,.none,.ref 256,.ref 257,.ref 258,.int 575 0,.int 243 0,.str "/claim/cut.py" 576],#[]⟩
def o260(P:Params):Obj:=mf 48 (.type "function") 3 [] .none .none .none (.str "law_whens_k15_talks_by_kind" 388) none (.ref 259) .none 0
def n5(P:Params):Obj:=tq []
def P4(P:Params):Obj:=tq [.str "_law_things_here" 581,.str "_law_thing" 582]
def R4(P:Params):Obj:=tq []
def o266(P:Params):Obj:=⟨.type "code",none,.fields #[.str "_law_is_saying" 578,.str "_law_is_saying" 579,.str "/claim/cut.py" 580,.int 252 0,.int 2 0,.int 0 0,.int 0 0,.int 3 0,.ref 261,.bool true,.int 181 0,.ref 262,.none,.ref 263,.ref 264,.ref 265,.int 583 0,.int 252 0,.str "/claim/cut.py" 584],#[]⟩
def o267(P:Params):Obj:=mf 49 (.type "function") 3 [] .none .none .none (.str "law_whens_k15_talks_by_kind" 388) none (.ref 266) .none 0
def OI(P:Params):Obj:=tq []
def V6(P:Params):Obj:=tq [.str "_law_feed_here" 589,.str "_law_saying" 590,.str "_law_odd" 591,.str "_law_at" 592,.str "_law_piece" 593,.str "_law_some" 594,.str "_law_j" 595,.str "_law_bent" 596,.str "_law_more" 597]
def T5(P:Params):Obj:=tq []
def o273(P:Params):Obj:=⟨.type "code",none,.fields #[.str "_law_bent_saying" 586,.str "_law_bent_saying" 587,.str "/claim/cut.py" 588,.int 258 0,.int 3 0,.int 0 0,.int 0 0,.int 3 0,.ref 268,.bool true,.int 181 0,.ref 269,.none,.ref 270,.ref 271,.ref 272,.int 598 0,.int 258 0,.str "/claim/cut.py" 599],#[]⟩
def o274(P:Params):Obj:=mf 50 (.type "function") 3 [] .none .none .none (.str "law_whens_k15_talks_by_kind" 388) none (.ref 273) .none 0
def VF(P:Params):Obj:=tq []
def o278(P:Params):Obj:=⟨.type "code",none,.fields #[.str "_law_is_name" 601,.str "_law_is_name" 602,.str "/claim/cut.py" 603,.int 270 0,.int 1 0,.int 0 0,.int 0 0,.int 3 0,.ref 275,.bool true,.int 181 0,.ref 276,.none,.none,.none,.ref 277,.int 604 0,.int 270 0,.str "/claim/cut.py" 605],#[]⟩
def o279(P:Params):Obj:=mf 51 (.type "function") 3 [] .none .none .none (.str "law_whens_k15_talks_by_kind" 388) none (.ref 278) .none 0
def u5(P:Params):Obj:=tq []
def UJ(P:Params):Obj:=tq [.str "_law_thing" 610,.str "_law_last" 611,.str "_law_one" 612]
def NV(P:Params):Obj:=tq []
def o285(P:Params):Obj:=⟨.type "code",none,.fields #[.str "_law_is_things" 607,.str "_law_is_things" 608,.str "/claim/cut.py" 609,.int 274 0,.int 1 0,.int 0 0,.int 0 0,.int 3 0,.ref 280,.bool true,.int 181 0,.ref 281,.none,.ref 282,.ref 283,.ref 284,.int 613 0,.int 274 0,.str "/claim/cut.py" 614],#[]⟩
def o286(P:Params):Obj:=mf 52 (.type "function") 3 [] .none .none .none (.str "law_whens_k15_talks_by_kind" 388) none (.ref 285) .none 0
def Z2(P:Params):Obj:=tq []
def o290(P:Params):Obj:=⟨.type "code",none,.fields #[.str "_law_is_any_talk" 616,.str "_law_is_any_talk" 617,.str "/claim/cut.py" 618,.int 285 0,.int 1 0,.int 0 0,.int 0 0,.int 3 0,.ref 287,.bool true,.int 181 0,.ref 288,.none,.none,.none,.ref 289,.int 619 0,.int 285 0,.str "/claim/cut.py" 620],#[]⟩
def o291(P:Params):Obj:=mf 53 (.type "function") 3 [] .none .none .none (.str "law_whens_k15_talks_by_kind" 388) none (.ref 290) .none 0
def NJ(P:Params):Obj:=tq []
def GU(P:Params):Obj:=tq [.str "_law_feed_here" 625,.str "_law_thing" 626,.str "_law_at" 627,.str "_law_some" 628,.str "_law_sign" 629]
def NZ(P:Params):Obj:=tq []
def o297(P:Params):Obj:=⟨.type "code",none,.fields #[.str "_law_spoilt" 622,.str "_law_spoilt" 623,.str "/claim/cut.py" 624,.int 291 0,.int 2 0,.int 0 0,.int 0 0,.int 3 0,.ref 292,.bool true,.int 181 0,.ref 293,.none,.ref 294,.ref 295,.ref 296,.int 630 0,.int 291 0,.str "/claim/cut.py" 631],#[]⟩
def o298(P:Params):Obj:=mf 54 (.type "function") 3 [] .none .none .none (.str "law_whens_k15_talks_by_kind" 388) none (.ref 297) .none 0
def RG(P:Params):Obj:=tq []
def o302(P:Params):Obj:=⟨.type "code",none,.fields #[.str "law" 633,.str "law" 634,.str "/claim/cut.py" 635,.int 305 0,.int 1 0,.int 0 0,.int 0 0,.int 3 0,.ref 299,.bool true,.int 181 0,.ref 300,.none,.none,.none,.ref 301,.int 636 0,.int 305 0,.str "/claim/cut.py" 637],#[]⟩
def o303(P:Params):Obj:=mf 55 (.type "function") 3 [] .none .none .none (.str "law_whens_k15_talks_by_kind" 388) none (.ref 302) .none 0
def tF(P:Params):BT:=(.node (boot_o_0 P) (.node (boot_o_1 P) (.node (o3 P) (.node (boot_o_7 P) (.node (Q6 P) (.node (EW P) (.node (o63 P) (.node (o127 P) (lf (fl [])) .nil) (lf (fl []))) (.node (EJ P) (.node (o159 P) (lf (Z2 P)) .nil) (lf (mf 43 (.none) 0 [] .none .none .none .none none .none .none 0)))) (.node (RU P) (.node (o79 P) (.node (f6 P) (lf (T5 P)) .nil) (lf (FB P))) (.node (mf 24 (.none) 0 [] .none .none .none .none none .none .none 0) (.node (P7 P) (lf (o303 P)) .nil) (lf (o239 P))))) (.node (fl []) (.node (tq []) (.node (w8 P) (.node (HR P) (lf (P4 P)) .nil) (lf (mf 39 (.none) 0 [] .none .none .none .none none .none .none 0))) (.node (MO P) (.node (o167 P) (lf (NZ P)) .nil) (lf (o231 P)))) (.node (EL P) (.node (o87 P) (.node (mf 31 (.none) 0 [] .none .none .none .none none .none .none 0) (lf (o279 P)) .nil) (lf (fl []))) (.node (o119 P) (lf (o183 P)) (lf (CY P)))))) (.node (tq []) (.node (mf 1 (.none) 0 [] .none .none .none .none none .none .none 0) (.node (o35 P) (.node (KP P) (.node (o131 P) (lf (o259 P)) .nil) (lf (SU P))) (.node (o99 P) (.node (BE P) (lf (o291 P)) .nil) (lf (fl [])))) (.node (o51 P) (.node (JS P) (.node (LH P) (lf (VF P)) .nil) (lf (mf 41 (.none) 0 [] .none .none .none .none none .none .none 0))) (.node (fl []) (lf (o179 P)) (lf (HC P))))) (.node (o27 P) (.node (tq []) (.node (o75 P) (.node (o139 P) (lf (o267 P)) .nil) (lf (fl []))) (.node (x5 P) (.node (FE P) (lf (RG P)) .nil) (lf (S1 P)))) (.node (OW P) (.node (Y9 P) (.node (fl []) (lf (NV P)) .nil) (lf (o219 P))) (.node (FX P) (lf (mf 37 (.none) 0 [] .none .none .none .none none .none .none 0)) (lf (mf 47 (.none) 0 [] .none .none .none .none none .none .none 0))))))) (.node (boot_o_5 P) (.node (boot_o_9 P) (.node (PB P) (.node (mf 3 (.none) 0 [] .none .none .none .none none .none .none 0) (.node (fl []) (.node (fl []) (lf (AI P)) .nil) (lf (o193 P))) (.node (mf 20 (.none) 0 [] .none .none .none .none none .none .none 0) (.node (LC P) (lf (mf 53 (.none) 0 [] .none .none .none .none none .none .none 0)) .nil) (lf (o225 P)))) (.node (mf 8 (.none) 0 [] .none .none .none .none none .none .none 0) (.node (GS P) (.node (o145 P) (lf (o273 P)) .nil) (lf (OY P))) (.node (o113 P) (lf (mf 35 (.none) 0 [] .none .none .none .none none .none .none 0)) (lf (fl []))))) (.node (RT P) (.node (tq []) (.node (mf 16 (.none) 0 [] .none .none .none .none none .none .none 0) (.node (mf 29 (.none) 0 [] .none .none .none .none none .none .none 0) (lf (mf 49 (.none) 0 [] .none .none .none .none none .none .none 0)) .nil) (lf (o201 P))) (.node (o105 P) (.node (fl []) (lf (o297 P)) .nil) (lf (NT P)))) (.node (o57 P) (.node (fl []) (.node (o153 P) (lf (fl [])) .nil) (lf (FU P))) (.node (BU P) (lf (PU P)) (lf (QB P)))))) (.node (⟨.type "code",none,.fields #[.str "<module>" 182,.str "<module>" 183,.str "/claim/cut.py" 184,.int 1 0,.int 0 0,.int 0 0,.int 0 0,.int 0 0,.ref 11,.bool false,.int 181 0,.ref 12,.none,.none,.none,.none,.int 185 0,.int 1 0,.str "/claim/cut.py" 186],#[]⟩) (.node (o21 P) (.node (tq []) (.node (o69 P) (.node (QH P) (lf (n5 P)) .nil) (lf (X8 P))) (.node (fl []) (.node (mf 33 (.none) 0 [] .none .none .none .none none .none .none 0) (lf (fl [])) .nil) (lf (DD P)))) (.node (fl []) (.node (mf 18 (.none) 0 [] .none .none .none .none none .none .none 0) (.node (HV P) (lf (mf 51 (.none) 0 [] .none .none .none .none none .none .none 0)) .nil) (lf (o213 P))) (.node (X6 P) (lf (fl [])) (lf (o245 P))))) (.node (KG P) (.node (UN P) (.node (fl []) (.node (fl []) (lf (fl [])) .nil) (lf (o205 P))) (.node (W6 P) (.node (o173 P) (lf (mf 55 (.none) 0 [] .none .none .none .none none .none .none 0)) .nil) (lf (mf 45 (.none) 0 [] .none .none .none .none none .none .none 0)))) (.node (mf 14 (.none) 0 [] .none .none .none .none none .none .none 0) (.node (o93 P) (.node (ER P) (lf (o285 P)) .nil) (lf (WF P))) (.node (mf 26 (.none) 0 [] .none .none .none .none none .none .none 0) (lf (o189 P)) (lf (o253 P)))))))) (.node (boot_o_2 P) (.node (boot_o_4 P) (.node (boot_o_8 P) (.node (fl []) (.node (AN P) (.node (X7 P) (.node (BP P) (lf (IR P)) .nil) (lf (mf 38 (.none) 0 [] .none .none .none .none none .none .none 0))) (.node (fl []) (.node (o160 P) (lf (fl [])) .nil) (lf (o224 P)))) (.node (KM P) (.node (o80 P) (.node (mf 30 (.none) 0 [] .none .none .none .none none .none .none 0) (lf (mf 50 (.none) 0 [] .none .none .none .none none .none .none 0)) .nil) (lf (fl []))) (.node (o112 P) (lf (fl [])) (lf (f9 P))))) (.node (z5 P) (.node (tq []) (.node (fl []) (.node (PX P) (lf (R4 P)) .nil) (lf (o200 P))) (.node (mf 21 (.none) 0 [] .none .none .none .none none .none .none 0) (.node (EM P) (lf (mf 54 (.none) 0 [] .none .none .none .none none .none .none 0)) .nil) (lf (o232 P)))) (.node (mf 9 (.none) 0 [] .none .none .none .none none .none .none 0) (.node (R5 P) (.node (o152 P) (lf (u5 P)) .nil) (lf (U0 P))) (.node (o120 P) (lf (o184 P)) (lf (fl [])))))) (.node (fl [.int 2 0,.int 0 0,.ref 20,.int 4 0,.int 0 0,.ref 27,.int 8 0,.int 0 0,.ref 34,.int 19 0,.int 0 0,.ref 50,.int 21 0,.int 0 0,.ref 57,.int 34 0,.int 0 0,.ref 62,.int 38 0,.int 0 0,.ref 69,.int 40 0,.int 0 0,.ref 74,.int 47 0,.int 0 0,.ref 79,.int 49 0,.int 0 0,.ref 86,.int 52 0,.int 0 0,.ref 93,.int 55 0,.int 0 0,.ref 98,.int 57 0,.int 0 0,.ref 105,.int 63 0,.int 0 0,.ref 112,.int 67 0,.int 0 0,.ref 119,.int 74 0,.int 0 0,.ref 126,.int 80 0,.int 0 0,.ref 131,.int 88 0,.int 0 0,.ref 138,.int 93 0,.int 0 0,.ref 145,.int 103 0,.int 0 0,.ref 152,.int 111 0,.int 0 0,.ref 159,.int 114 0,.int 0 0,.ref 166,.int 128 0,.int 0 0,.ref 173,.int 137 0,.int 0 0,.ref 178,.int 148 0,.int 0 0,.ref 183,.int 153 0,.int 0 0,.ref 188,.int 157 0,.int 0 0,.ref 193,.int 167 0,.int 0 0,.ref 200,.int 173 0,.int 0 0,.ref 205,.int 178 0,.int 0 0,.ref 212,.int 185 0,.int 0 0,.ref 219,.int 190 0,.int 0 0,.ref 224,.int 199 0,.int 0 0,.ref 231,.int 216 0,.int 0 0,.ref 238,.int 225 0,.int 0 0,.ref 245,.int 231 0,.int 0 0,.ref 252,.int 243 0,.int 0 0,.ref 259,.int 252 0,.int 0 0,.ref 266,.int 258 0,.int 0 0,.ref 273,.int 270 0,.int 0 0,.ref 278,.int 274 0,.int 0 0,.ref 285,.int 285 0,.int 0 0,.ref 290,.int 291 0,.int 0 0,.ref 297,.int 305 0,.int 0 0,.ref 302]) (.node (o20 P) (.node (o36 P) (.node (mf 15 (.none) 0 [] .none .none .none .none none .none .none 0) (.node (o132 P) (lf (o260 P)) .nil) (lf (fl []))) (.node (LX P) (.node (UE P) (lf (NJ P)) .nil) (lf (IT P)))) (.node (SC P) (.node (WM P) (.node (fl []) (lf (fl [])) .nil) (lf (o212 P))) (.node (v9 P) (lf (t7 P)) (lf (mf 46 (.none) 0 [] .none .none .none .none none .none .none 0))))) (.node (o28 P) (.node (o44 P) (.node (XH P) (.node (V1 P) (lf (OI P)) .nil) (lf (mf 40 (.none) 0 [] .none .none .none .none none .none .none 0))) (.node (fl []) (.node (mf 34 (.none) 0 [] .none .none .none .none none .none .none 0) (lf (fl [])) .nil) (lf (MT P)))) (.node (fl []) (.node (mf 19 (.none) 0 [] .none .none .none .none none .none .none 0) (.node (XG P) (lf (mf 52 (.none) 0 [] .none .none .none .none none .none .none 0)) .nil) (lf (o220 P))) (.node (OU P) (lf (o188 P)) (lf (o252 P))))))) (.node (boot_o_6 P) (.node (boot_o_10 P) (.node (CB P) (.node (o34 P) (.node (TQ P) (.node (mf 27 (.none) 0 [] .none .none .none .none none .none .none 0) (lf (mf 48 (.none) 0 [] .none .none .none .none none .none .none 0)) .nil) (lf (o194 P))) (.node (o98 P) (.node (fl []) (lf (o290 P)) .nil) (lf (CG P)))) (.node (o50 P) (.node (fl []) (.node (o146 P) (lf (o274 P)) .nil) (lf (j1 P))) (.node (IV P) (lf (o178 P)) (lf (HX P))))) (.node (mf 2 (.none) 0 [] .none .none .none .none none .none .none 0) (.node (tq []) (.node (o74 P) (.node (o138 P) (lf (o266 P)) .nil) (lf (FH P))) (.node (o106 P) (.node (SX P) (lf (o298 P)) .nil) (lf (fl [])))) (.node (o58 P) (.node (AQ P) (.node (KH P) (lf (UJ P)) .nil) (lf (mf 42 (.none) 0 [] .none .none .none .none none .none .none 0))) (.node (fl []) (lf (fl [])) (lf (b9 P)))))) (.node (⟨.type "frame",none,.plain,#[some (.ref 13),some (.ref 3),some (.ref 3),none,some (.str "__main__" 164),none,some (.ref 0)]⟩) (.node (DF P) (.node (tq []) (.node (o70 P) (.node (fl []) (lf (fl [])) .nil) (lf (MH P))) (.node (f7 P) (.node (o166 P) (lf (GU P)) .nil) (lf (mf 44 (.none) 0 [] .none .none .none .none none .none .none 0)))) (.node (LQ P) (.node (o86 P) (.node (IF P) (lf (o278 P)) .nil) (lf (PM P))) (.node (mf 25 (.none) 0 [] .none .none .none .none none .none .none 0) (lf (mf 36 (.none) 0 [] .none .none .none .none none .none .none 0)) (lf (o246 P))))) (.node (fl []) (.node (fl []) (.node (mf 17 (.none) 0 [] .none .none .none .none none .none .none 0) (.node (UV P) (lf (V6 P)) .nil) (lf (o206 P))) (.node (Q1 P) (.node (o174 P) (lf (o302 P)) .nil) (lf (o238 P)))) (.node (o62 P) (.node (o94 P) (.node (mf 32 (.none) 0 [] .none .none .none .none none .none .none 0) (lf (o286 P)) .nil) (lf (fl []))) (.node (o126 P) (lf (NO P)) (lf (PY P)))))))))
end
def Fm(a n:Nat):List Stmt:=(prog.main.body.drop a).take n
end H15
set_option maxHeartbeats 0
namespace H15
open PySem PySem.W HD
noncomputable abbrev T0(w:World)(os:OsState):SharedT:=⟨pre.tree_28 w.params,37,{},⟨[]⟩,{},229,os⟩
abbrev D0:Obj:={cls:=.type "dict",data:=.dict #[]}
abbrev tp(vs:List Value):Obj:={cls:=.type "tuple",data:=.seq vs.toArray}
noncomputable abbrev T1(w:World)(os:OsState):SharedT:=⟨(pre.tree_28 w.params).ins 37 D0,38,{},⟨[]⟩,{},229,os⟩
noncomputable def Ih(P:Params):BT:=(((((((pre.tree_28 P).ins 37 D0).ins 38 (tp [.str "point" 229,.str "point" 230])).ins 39 (tp [.str "ahead" 231,.str "same" 232,.str "behind" 233])).ins 40 (tp [.str "point" 234,.str "stretch" 235])).ins 41 (tp [.str "ahead" 236,.str "begins" 237,.str "within" 238,.str "ends" 239,.str "behind" 240])).ins 42 (tp [.str "stretch" 241,.str "point" 242])).ins 43 (tp [.str "ahead" 243,.str "ended" 244,.str "holds" 245,.str "begun" 246,.str "behind" 247])
abbrev dO(es:List DictEntry):Obj:={cls:=.type "dict",data:=.dict es.toArray es.length}
noncomputable abbrev TD(es:Params->List DictEntry)(w:World)(os:OsState)(k:Nat):SharedT:=⟨(Ih w.params).ins 37 (dO (es w.params)),44,{},⟨[]⟩,{},k,os⟩
abbrev iH:Params->List DictEntry:=fun _=>[]
abbrev dp:Pos:=⟨17,14,17,204⟩
theorem p7:st=.Assign [.Name "POINT_WORDS" (Pf st)] (.Dict (keysOf st) (Bz st) (yE st)) (Nl st):=by kernel_rfl
section
variable (w:World)(os:OsState)(p:Program)(b:List Stmt)
abbrev RR{α:Type}(N:Nat)(m:Sem α)(s:SharedT)(pos:Pos)(a:α)(s':SharedT)(pos':Pos):Prop:=R N treeTable p w 11 (some (Value.ref 6)) (Code.body b pre.env_1) [topFrame q0] m s.abs pos a s'.abs pos'
theorem MK:RR w p b 34 (evalPairs (pairTrees (keysOf st) (Bz st) pre.env_1 (yE st))) (T1 w os) dp [(.ref 38,.ref 39),(.ref 40,.ref 41),(.ref 42,.ref 43)] (TD iH w os 248) dp :=
 R.leaf 34 fun K H gd lv=>by kernel_rfl
end
abbrev kh(P:Params)(z:Str):Int:=PyData.keyHash P z
def i1(P:Params):Int:=Builtin.Tuple.tupleHashOf [kh P "point",kh P "point"]
def i2(P:Params):Int:=Builtin.Tuple.tupleHashOf [kh P "point",kh P "stretch"]
def i3(P:Params):Int:=Builtin.Tuple.tupleHashOf [kh P "stretch",kh P "point"]
def e1(P:Params):DictEntry:=⟨reduceHash (i1 P),.ref 38,.ref 39⟩
def e2(P:Params):DictEntry:=⟨reduceHash (i2 P),.ref 40,.ref 41⟩
def e3(P:Params):DictEntry:=⟨reduceHash (i3 P),.ref 42,.ref 43⟩
abbrev es1:Params->List DictEntry:=fun P=>[e1 P]
abbrev es2:Params->List DictEntry:=fun P=>[e1 P,e2 P]
abbrev row:String:="special-get-raises"
section
variable (v:World)(os:OsState)(p:Program)(b:List Stmt)
theorem wE(w:World)(t:String)(sT:SharedT)(pos:Pos):RR w p b 1 (rule t) sT pos () sT pos:=R.leaf 1 fun K H gd lv=>by
 obtain⟨T,n,l,g,d,k,o⟩:=sT;rfl
theorem xS(w:World)(i:Int)(sT:SharedT)(pos:Pos):RR w p b 1 (pyHashByItsType.reduced i) sT pos (reduceHash i) sT pos:=by
 unfold pyHashByItsType.reduced reduceHash
 by_cases hr:(decide (-(2:Int)^63<=i)&&decide (i<2^63))=true
 ·rw[if_pos hr,if_pos hr];exact R.mono (by decide) R.pure
 ·rw[if_neg hr,if_neg hr];exact R.mono (N1:=1+0) (by decide) (R.bind (wE p b w _ sT pos) R.pure)
theorem u3:RR (v.withFollow row false) p b 26 (pyHash (.ref 38)) (TD iH (v.withFollow row false) os 248) dp (reduceHash (i1 (v.withFollow row false).params)) (TD iH (v.withFollow row false) os 251) dp:=by
 unfold pyHash pyHashByItsType;refine R.mono (N1:=1+(1+(1+(22+1)))) (by decide) (R.bind (R.leaf (sT':=(TD iH (v.withFollow row false) os 248)) (a:=()) (pos':=dp) 1 fun K H gd lv=>by rw[Fast.te10295753902157049106,Fast.te14364793385576792824];kernel_rfl) ?_)
 refine R.bind (R.leaf (sT':=(TD iH (v.withFollow row false) os 248)) (a:=some (.builtin "tuple.__hash__")) (pos':=dp) 1 fun K H gd lv=>by rw[Fast.te10295753902157049106,Fast.te14364793385576792824];kernel_rfl) ?_
 rw[if_neg (by decide)]
 refine R.bind (R.leaf (sT':=(TD iH (v.withFollow row false) os 248)) (a:=some (.builtin "tuple.__hash__")) (pos':=dp) 1 fun K H gd lv=>by rw[Fast.te10295753902157049106,Fast.te14364793385576792824];kernel_rfl) ?_
 rw[if_neg (by decide)]
 refine R.bind (R.leaf (sT':=(TD iH (v.withFollow row false) os 251)) (a:=some (.int (i1 (v.withFollow row false).params) 250)) (pos':=dp) 22 fun K H gd lv=>by rw[Fast.te10295753902157049106,Fast.te14364793385576792824];kernel_rfl) ?_
 exact xS p b _ _ _ _
theorem LK:RR (v.withFollow row true) p b 26 (pyHash (.ref 38)) (TD iH (v.withFollow row true) os 248) dp (reduceHash (i1 (v.withFollow row true).params)) (TD iH (v.withFollow row true) os 251) dp:=by
 unfold pyHash pyHashByItsType;refine R.mono (N1:=1+(1+(1+(22+1)))) (by decide) (R.bind (R.leaf (sT':=(TD iH (v.withFollow row true) os 248)) (a:=()) (pos':=dp) 1 fun K H gd lv=>by rw[Fast.te10295753902157049106,Fast.te14364793385576792824];kernel_rfl) ?_)
 refine R.bind (R.leaf (sT':=(TD iH (v.withFollow row true) os 248)) (a:=some (.builtin "tuple.__hash__")) (pos':=dp) 1 fun K H gd lv=>by rw[Fast.te10295753902157049106,Fast.te14364793385576792824];kernel_rfl) ?_
 rw[if_neg (by decide)]
 refine R.bind (R.leaf (sT':=(TD iH (v.withFollow row true) os 248)) (a:=some (.builtin "tuple.__hash__")) (pos':=dp) 1 fun K H gd lv=>by rw[Fast.te10295753902157049106,Fast.te14364793385576792824];kernel_rfl) ?_
 rw[if_neg (by decide)]
 refine R.bind (R.leaf (sT':=(TD iH (v.withFollow row true) os 251)) (a:=some (.int (i1 (v.withFollow row true).params) 250)) (pos':=dp) 22 fun K H gd lv=>by rw[Fast.te10295753902157049106,Fast.te14364793385576792824];kernel_rfl) ?_
 exact xS p b _ _ _ _
theorem Y5:RR (v.withFollow row false) p b 26 (pyHash (.ref 40)) (TD es1 (v.withFollow row false) os 251) dp (reduceHash (i2 (v.withFollow row false).params)) (TD es1 (v.withFollow row false) os 254) dp:=by
 unfold pyHash pyHashByItsType;refine R.mono (N1:=1+(1+(1+(22+1)))) (by decide) (R.bind (R.leaf (sT':=(TD es1 (v.withFollow row false) os 251)) (a:=()) (pos':=dp) 1 fun K H gd lv=>by rw[Fast.te10295753902157049106,Fast.te14364793385576792824];kernel_rfl) ?_)
 refine R.bind (R.leaf (sT':=(TD es1 (v.withFollow row false) os 251)) (a:=some (.builtin "tuple.__hash__")) (pos':=dp) 1 fun K H gd lv=>by rw[Fast.te10295753902157049106,Fast.te14364793385576792824];kernel_rfl) ?_
 rw[if_neg (by decide)]
 refine R.bind (R.leaf (sT':=(TD es1 (v.withFollow row false) os 251)) (a:=some (.builtin "tuple.__hash__")) (pos':=dp) 1 fun K H gd lv=>by rw[Fast.te10295753902157049106,Fast.te14364793385576792824];kernel_rfl) ?_
 rw[if_neg (by decide)]
 refine R.bind (R.leaf (sT':=(TD es1 (v.withFollow row false) os 254)) (a:=some (.int (i2 (v.withFollow row false).params) 253)) (pos':=dp) 22 fun K H gd lv=>by rw[Fast.te10295753902157049106,Fast.te14364793385576792824];kernel_rfl) ?_
 exact xS p b _ _ _ _
theorem R3:RR (v.withFollow row true) p b 26 (pyHash (.ref 40)) (TD es1 (v.withFollow row true) os 251) dp (reduceHash (i2 (v.withFollow row true).params)) (TD es1 (v.withFollow row true) os 254) dp:=by
 unfold pyHash pyHashByItsType;refine R.mono (N1:=1+(1+(1+(22+1)))) (by decide) (R.bind (R.leaf (sT':=(TD es1 (v.withFollow row true) os 251)) (a:=()) (pos':=dp) 1 fun K H gd lv=>by rw[Fast.te10295753902157049106,Fast.te14364793385576792824];kernel_rfl) ?_)
 refine R.bind (R.leaf (sT':=(TD es1 (v.withFollow row true) os 251)) (a:=some (.builtin "tuple.__hash__")) (pos':=dp) 1 fun K H gd lv=>by rw[Fast.te10295753902157049106,Fast.te14364793385576792824];kernel_rfl) ?_
 rw[if_neg (by decide)]
 refine R.bind (R.leaf (sT':=(TD es1 (v.withFollow row true) os 251)) (a:=some (.builtin "tuple.__hash__")) (pos':=dp) 1 fun K H gd lv=>by rw[Fast.te10295753902157049106,Fast.te14364793385576792824];kernel_rfl) ?_
 rw[if_neg (by decide)]
 refine R.bind (R.leaf (sT':=(TD es1 (v.withFollow row true) os 254)) (a:=some (.int (i2 (v.withFollow row true).params) 253)) (pos':=dp) 22 fun K H gd lv=>by rw[Fast.te10295753902157049106,Fast.te14364793385576792824];kernel_rfl) ?_
 exact xS p b _ _ _ _
theorem i8:RR (v.withFollow row false) p b 26 (pyHash (.ref 42)) (TD es2 (v.withFollow row false) os 254) dp (reduceHash (i3 (v.withFollow row false).params)) (TD es2 (v.withFollow row false) os 257) dp:=by
 unfold pyHash pyHashByItsType;refine R.mono (N1:=1+(1+(1+(22+1)))) (by decide) (R.bind (R.leaf (sT':=(TD es2 (v.withFollow row false) os 254)) (a:=()) (pos':=dp) 1 fun K H gd lv=>by rw[Fast.te10295753902157049106,Fast.te14364793385576792824];kernel_rfl) ?_)
 refine R.bind (R.leaf (sT':=(TD es2 (v.withFollow row false) os 254)) (a:=some (.builtin "tuple.__hash__")) (pos':=dp) 1 fun K H gd lv=>by rw[Fast.te10295753902157049106,Fast.te14364793385576792824];kernel_rfl) ?_
 rw[if_neg (by decide)]
 refine R.bind (R.leaf (sT':=(TD es2 (v.withFollow row false) os 254)) (a:=some (.builtin "tuple.__hash__")) (pos':=dp) 1 fun K H gd lv=>by rw[Fast.te10295753902157049106,Fast.te14364793385576792824];kernel_rfl) ?_
 rw[if_neg (by decide)]
 refine R.bind (R.leaf (sT':=(TD es2 (v.withFollow row false) os 257)) (a:=some (.int (i3 (v.withFollow row false).params) 256)) (pos':=dp) 22 fun K H gd lv=>by rw[Fast.te10295753902157049106,Fast.te14364793385576792824];kernel_rfl) ?_
 exact xS p b _ _ _ _
theorem EY:RR (v.withFollow row true) p b 26 (pyHash (.ref 42)) (TD es2 (v.withFollow row true) os 254) dp (reduceHash (i3 (v.withFollow row true).params)) (TD es2 (v.withFollow row true) os 257) dp:=by
 unfold pyHash pyHashByItsType;refine R.mono (N1:=1+(1+(1+(22+1)))) (by decide) (R.bind (R.leaf (sT':=(TD es2 (v.withFollow row true) os 254)) (a:=()) (pos':=dp) 1 fun K H gd lv=>by rw[Fast.te10295753902157049106,Fast.te14364793385576792824];kernel_rfl) ?_)
 refine R.bind (R.leaf (sT':=(TD es2 (v.withFollow row true) os 254)) (a:=some (.builtin "tuple.__hash__")) (pos':=dp) 1 fun K H gd lv=>by rw[Fast.te10295753902157049106,Fast.te14364793385576792824];kernel_rfl) ?_
 rw[if_neg (by decide)]
 refine R.bind (R.leaf (sT':=(TD es2 (v.withFollow row true) os 254)) (a:=some (.builtin "tuple.__hash__")) (pos':=dp) 1 fun K H gd lv=>by rw[Fast.te10295753902157049106,Fast.te14364793385576792824];kernel_rfl) ?_
 rw[if_neg (by decide)]
 refine R.bind (R.leaf (sT':=(TD es2 (v.withFollow row true) os 257)) (a:=some (.int (i3 (v.withFollow row true).params) 256)) (pos':=dp) 22 fun K H gd lv=>by rw[Fast.te10295753902157049106,Fast.te14364793385576792824];kernel_rfl) ?_
 exact xS p b _ _ _ _
end
section
variable (v:World)(bb:Bool)(os:OsState)(p:Program)(b:List Stmt)
noncomputable abbrev TX(es:List DictEntry)(w:World)(os:OsState)(k:Nat):SharedT:=⟨(Ih w.params).ins 37 (dO es),44,{},⟨[]⟩,{},k,os⟩
theorem CO(w:World)(x:Int):RR w p b 5 (dictSetHashed 37 (.ref 38) x (.ref 39)) (TX [] w os 251) dp () (TX [⟨x,.ref 38,.ref 39⟩] w os 251) dp :=
 R.leaf 5 fun K H gd lv=>by rw[Fast.te10295753902157049106,Fast.te14364793385576792824,Fast.te4359058424727691002];kernel_rfl
theorem VV(x y:Int)(k v:Value):placesWithHash (#[⟨x,k,v⟩]:Array DictEntry).size (fun i=>(#[⟨x,k,v⟩]:Array DictEntry)[i]?.map (·.hash)) y=if x=y then [0] else []:=by
 by_cases h:x=y<;>simp[placesWithHash,List.range_succ,h]
theorem W9(x x' y:Int)(k v k' v':Value):placesWithHash (#[⟨x,k,v⟩,⟨x',k',v'⟩]:Array DictEntry).size (fun i=>(#[⟨x,k,v⟩,⟨x',k',v'⟩]:Array DictEntry)[i]?.map (·.hash)) y=(if x=y then [0] else [])++(if x'=y then [1] else []):=by
 by_cases h:x=y<;>by_cases h':x'=y<;>simp[placesWithHash,List.range_succ,h,h']
theorem VA(x y:Int):RR (v.withFollow row bb) p b 31 (dictFind 37 (.ref 40) y) (TX [⟨x,.ref 38,.ref 39⟩] (v.withFollow row bb) os 254) dp none (TX [⟨x,.ref 38,.ref 39⟩] (v.withFollow row bb) os 254) dp:=by
 unfold dictFind;refine R.hold (R.bind (N1:=1) (N2:=30) (R.leaf (sT':=TX [⟨x,.ref 38,.ref 39⟩] (v.withFollow row bb) os 254) (a:=#[⟨x,.ref 38,.ref 39⟩]) (pos':=dp) 1 fun K H gd lv=>by rw[Fast.te10295753902157049106,Fast.te14364793385576792824];kernel_rfl) ?_)
 have e:=VV x y (.ref 38) (.ref 39)
 by_cases h:x=y
 ·subst h;rw[if_pos rfl]at e;rw[e];simp[carriedByValue,-bind_pure_comp,-map_pure];refine R.mono (N1:=6+(1+(20+(1+(1+0))))) (by decide) (R.bind (R.leaf (sT':=TX [⟨x,.ref 38,.ref 39⟩] (v.withFollow row bb) os 254) (a:=false) (pos':=dp) 6 fun K H gd lv=>by rw[Fast.te10295753902157049106,Fast.te14364793385576792824,Fast.te11445937954039399578];cases bb<;>kernel_rfl) ?_)
  refine R.bind (R.leaf (sT':=TX [⟨x,.ref 38,.ref 39⟩] (v.withFollow row bb) os 254) (a:=1) (pos':=dp) 1 fun K H gd lv=>by rw[Fast.te10295753902157049106,Fast.te14364793385576792824];kernel_rfl) ?_
  refine R.bind (R.leaf (sT':=TX [⟨x,.ref 38,.ref 39⟩] (v.withFollow row bb) os 254) (a:=false) (pos':=dp) 20 fun K H gd lv=>by rw[Fast.te10295753902157049106,Fast.te14364793385576792824,Fast.te13926502685295537346];cases bb<;>kernel_rfl) ?_
  refine R.bind (R.leaf (sT':=TX [⟨x,.ref 38,.ref 39⟩] (v.withFollow row bb) os 254) (a:=1) (pos':=dp) 1 fun K H gd lv=>by rw[Fast.te10295753902157049106,Fast.te14364793385576792824];kernel_rfl) ?_
  simp[-bind_pure_comp,-map_pure];exact R.mono (N1:=1+0) (by decide) (R.bind (wE p b _ _ _ _) R.pure)
 ·rw[if_neg h]at e;rw[e];exact R.mono (by decide) (R.leaf 0 fun K H gd lv=>by kernel_rfl)
end
section
variable (v:World)(bb:Bool)(os:OsState)(p:Program)(b:List Stmt)(x x':Int)
noncomputable abbrev TY(x x':Int)(w:World)(os:OsState):SharedT:=TX [⟨x,.ref 38,.ref 39⟩,⟨x',.ref 40,.ref 41⟩] w os 257
theorem mK(w:World):RR w p b 1 (dictEpoch 37 (keyPart (.ref 42))) (TY x x' w os) dp 2 (TY x x' w os) dp:=R.leaf 1 fun K H gd lv=>by rw[Fast.te10295753902157049106,Fast.te14364793385576792824];kernel_rfl
theorem Vp:RR (v.withFollow row bb) p b 16 (eqBool (.ref 38) (.ref 42)) (TY x x' (v.withFollow row bb) os) dp false (TY x x' (v.withFollow row bb) os) dp:=R.leaf 16 fun K H gd lv=>by rw[Fast.te10295753902157049106,Fast.te14364793385576792824,Fast.te13926502685295537346];cases bb<;>kernel_rfl
theorem Yj:RR (v.withFollow row bb) p b 16 (eqBool (.ref 40) (.ref 42)) (TY x x' (v.withFollow row bb) os) dp false (TY x x' (v.withFollow row bb) os) dp:=R.leaf 16 fun K H gd lv=>by rw[Fast.te10295753902157049106,Fast.te14364793385576792824,Fast.te13926502685295537346];cases bb<;>kernel_rfl
theorem UP:RR (v.withFollow row bb) p b 9 (tableMayTell (.ref 42) [.ref 38,.ref 40]) (TY x x' (v.withFollow row bb) os) dp false (TY x x' (v.withFollow row bb) os) dp:=R.leaf 9 fun K H gd lv=>by rw[Fast.te10295753902157049106,Fast.te14364793385576792824,Fast.te11445937954039399578];cases bb<;>kernel_rfl
theorem JH:RR (v.withFollow row bb) p b 6 (tableMayTell (.ref 42) [.ref 38]) (TY x x' (v.withFollow row bb) os) dp false (TY x x' (v.withFollow row bb) os) dp:=R.leaf 6 fun K H gd lv=>by rw[Fast.te10295753902157049106,Fast.te14364793385576792824,Fast.te11445937954039399578];cases bb<;>kernel_rfl
theorem LW:RR (v.withFollow row bb) p b 6 (tableMayTell (.ref 42) [.ref 40]) (TY x x' (v.withFollow row bb) os) dp false (TY x x' (v.withFollow row bb) os) dp:=R.leaf 6 fun K H gd lv=>by rw[Fast.te10295753902157049106,Fast.te14364793385576792824,Fast.te11445937954039399578];cases bb<;>kernel_rfl
theorem AV(y:Int):RR (v.withFollow row bb) p b 101 (dictFind 37 (.ref 42) y) (TY x x' (v.withFollow row bb) os) dp none (TY x x' (v.withFollow row bb) os) dp:=by
 unfold dictFind;refine R.hold (R.bind (N1:=1) (N2:=100) (R.leaf (sT':=TY x x' (v.withFollow row bb) os) (a:=#[⟨x,.ref 38,.ref 39⟩,⟨x',.ref 40,.ref 41⟩]) (pos':=dp) 1 fun K H gd lv=>by rw[Fast.te10295753902157049106,Fast.te14364793385576792824];kernel_rfl) ?_)
 have e:=W9 x x' y (.ref 38) (.ref 39) (.ref 40) (.ref 41)
 by_cases h:x=y<;>by_cases h':x'=y
 ·subst h;rw[if_pos rfl,if_pos h']at e;rw[e];simp[carriedByValue,-bind_pure_comp,-map_pure,h'];refine R.mono (N1:=9+(1+(16+(1+(1+(1+(16+(1+(1+0))))))))) (by decide) (R.bind (UP v bb os p b x x) ?_)
  rw[if_neg (by decide)]
  refine R.bind (mK os p b x x _) (R.bind (Vp v bb os p b x x) (R.bind (mK os p b x x _) ?_));simp[-bind_pure_comp,-map_pure];refine R.mono (N1:=1+(1+(16+(1+(1+0))))) (by decide) (R.bind (wE p b _ _ _ _) ?_)
  refine R.bind (mK os p b x x _) (R.bind (Yj v bb os p b x x) (R.bind (mK os p b x x _) ?_));simp[-bind_pure_comp,-map_pure];exact R.mono (N1:=1+0) (by decide) (R.bind (wE p b _ _ _ _) R.pure)
 ·subst h;rw[if_pos rfl,if_neg h']at e;rw[e];simp[carriedByValue,-bind_pure_comp,-map_pure];refine R.mono (N1:=6+(1+(16+(1+(1+0))))) (by decide) (R.bind (JH v bb os p b x x') ?_)
  refine R.bind (mK os p b x x' _) (R.bind (Vp v bb os p b x x') (R.bind (mK os p b x x' _) ?_));simp[-bind_pure_comp,-map_pure];exact R.mono (N1:=1+0) (by decide) (R.bind (wE p b _ _ _ _) R.pure)
 ·subst h';rw[if_neg h,if_pos rfl]at e;rw[e];simp[carriedByValue,-bind_pure_comp,-map_pure];refine R.mono (N1:=6+(1+(16+(1+(1+0))))) (by decide) (R.bind (LW v bb os p b x x') ?_)
  refine R.bind (mK os p b x x' _) (R.bind (Yj v bb os p b x x') (R.bind (mK os p b x x' _) ?_));simp[-bind_pure_comp,-map_pure];exact R.mono (N1:=1+0) (by decide) (R.bind (wE p b _ _ _ _) R.pure)
 ·rw[if_neg h,if_neg h']at e;rw[e];exact R.mono (by decide) (R.leaf 0 fun K H gd lv=>by kernel_rfl)
theorem KQ(y:Int):RR (v.withFollow row bb) p b 35 (dictSetHashed 37 (.ref 40) y (.ref 41)) (TX [⟨x,.ref 38,.ref 39⟩] (v.withFollow row bb) os 254) dp () (TX [⟨x,.ref 38,.ref 39⟩,⟨y,.ref 40,.ref 41⟩] (v.withFollow row bb) os 254) dp:=by
 unfold dictSetHashed;refine R.hold (R.bind (N1:=31) (N2:=4) (VA v bb os p b x y) ?_);exact R.leaf 4 fun K H gd lv=>by rw[Fast.te10295753902157049106,Fast.te14364793385576792824];kernel_rfl
theorem AJ(y:Int):RR (v.withFollow row bb) p b 105 (dictSetHashed 37 (.ref 42) y (.ref 43)) (TY x x' (v.withFollow row bb) os) dp () (TX [⟨x,.ref 38,.ref 39⟩,⟨x',.ref 40,.ref 41⟩,⟨y,.ref 42,.ref 43⟩] (v.withFollow row bb) os 257) dp:=by
 unfold dictSetHashed;refine R.hold (R.bind (N1:=101) (N2:=4) (AV v bb os p b x x' y) ?_);exact R.leaf 4 fun K H gd lv=>by rw[Fast.te10295753902157049106,Fast.te14364793385576792824];kernel_rfl
end
section
variable (v:World)(bb:Bool)(os:OsState)(p:Program)(b:List Stmt)
abbrev p5:Pos:=⟨16,0,16,5⟩
abbrev sp:Pos:=⟨17,0,17,204⟩
abbrev px:Pos:=⟨17,0,17,11⟩
abbrev dE(P:Params):List DictEntry:=[⟨reduceHash (i1 P),.ref 38,.ref 39⟩,⟨reduceHash (i2 P),.ref 40,.ref 41⟩,⟨reduceHash (i3 P),.ref 42,.ref 43⟩]
noncomputable def b8(P:Params)(es:List DictEntry):BT:=((Ih P).ins 37 (dO es)).set 3 (Obj.putName "POINT_WORDS" (kh P "POINT_WORDS") (.str "POINT_WORDS" 257) (.ref 37))
noncomputable abbrev T6(es:List DictEntry)(w:World)(os:OsState):SharedT:=⟨b8 w.params es,44,{},⟨[]⟩,{},258,os⟩
theorem Nv(w:World)(sT:SharedT)(q q':Pos):RR w p b 1 (standAt q') sT q () sT q':=R.leaf 1 fun K H gd lv=>by
 obtain⟨T,n,l,g,d,k,o⟩:=sT;rfl
theorem SH:RR (v.withFollow row bb) p b 26 (pyHash (.ref 38)) (TX [] (v.withFollow row bb) os 248) dp (reduceHash (i1 (v.withFollow row bb).params)) (TX [] (v.withFollow row bb) os 251) dp:=by
 cases bb
 ·exact u3 v os p b
 ·exact LK v os p b
theorem HN:RR (v.withFollow row bb) p b 26 (pyHash (.ref 40)) (TX [e1 (v.withFollow row bb).params] (v.withFollow row bb) os 251) dp (reduceHash (i2 (v.withFollow row bb).params)) (TX [e1 (v.withFollow row bb).params] (v.withFollow row bb) os 254) dp:=by
 cases bb
 ·exact Y5 v os p b
 ·exact R3 v os p b
theorem EZ:RR (v.withFollow row bb) p b 26 (pyHash (.ref 42)) (TX [e1 (v.withFollow row bb).params,e2 (v.withFollow row bb).params] (v.withFollow row bb) os 254) dp (reduceHash (i3 (v.withFollow row bb).params)) (TX [e1 (v.withFollow row bb).params,e2 (v.withFollow row bb).params] (v.withFollow row bb) os 257) dp:=by
 cases bb
 ·exact i8 v os p b
 ·exact EY v os p b
theorem WA(w:World)(es:List DictEntry):RR w p b 6 (bindName pre.env_1 "POINT_WORDS" (.ref 37)) (TX es w os 257) px () (T6 es w os) px:=R.leaf 6 fun K H gd lv=>by rw[Fast.te10295753902157049106,Fast.te14364793385576792824,Fast.te7536695828754713326];kernel_rfl
theorem XF(w:World):RR w p b 1 (alloc D0) (T0 w os) dp 37 (T1 w os) dp:=R.leaf 1 fun K H gd lv=>by kernel_rfl
theorem H0:yE st=dp:=by kernel_rfl
theorem IU:Pf st=px:=by kernel_rfl
theorem HM:Nl st=sp:=by kernel_rfl
theorem L1:RR (v.withFollow row bb) p b 300 (exec st pre.env_1) (T0 (v.withFollow row bb) os) p5 .next (T6 (dE (v.withFollow row bb).params) (v.withFollow row bb) os) px:=by
 rw[p7,exec_Assign_Name (env:=pre.env_1) "POINT_WORDS" (Pf st) (.Dict (keysOf st) (Bz st) (yE st)) (Nl st) (by rfl),HM,IU]
 refine R.mono (N1:=1+(292+(1+(6+0)))) (by decide) (R.bind (Nv p b _ _ _ _) (R.bind (a:=.ref 37) (pos1:=dp) ?_ (R.bind (Nv p b _ _ _ _) (R.bind (WA os p b _ _) R.pure))))
 rw[arm_eval_Dict,zip_pairTrees (keysOf st) (Bz st) pre.env_1 (yE st) (by kernel_rfl) (by kernel_rfl),dictDisplay_pairs _ (fun h=>by have:=congrArg List.length h;rw[pairTrees_length _ _ _ _ (by kernel_rfl) (by kernel_rfl)]at this;exact absurd this (by decide)) (by rw[pairTrees_length _ _ _ _ (by kernel_rfl) (by kernel_rfl)];decide)]
 rw[H0];refine R.bind (N1:=1) (N2:=291) (Nv p b _ _ _ _) (R.bind (N1:=291) (N2:=0) (a:=37) (pos1:=dp) ?_ R.pure);unfold subDict;refine R.bind (N1:=1) (N2:=290) (XF os p b _) (R.bind (N1:=290) (N2:=0) (a:=()) (pos1:=dp) (R.hold ?_) R.pure);rw[if_pos (by rw[pairTrees_length _ _ _ _ (by kernel_rfl) (by kernel_rfl)];decide)]
 have pr:=MK (v.withFollow row bb) os p b
 rw[H0]at pr;refine R.bind (N1:=34) (N2:=256) pr (R.hold ?_);simp only[List.forIn_cons,List.forIn_nil,bind_assoc,pure_bind];refine R.mono (N1:=26+5+(26+35+(26+105+0))) (by decide) (R.bind (R.hold (R.bind (SH v bb os p b) (CO os p b _ _))) ?_)
 refine R.bind (R.hold (R.bind (HN v bb os p b) (KQ v bb os p b _ _))) ?_;refine R.bind (R.hold (R.bind (EZ v bb os p b) (AJ v bb os p b _ _ _))) ?_;exact R.pure
end
end H15
set_option maxHeartbeats 0
namespace H15
open PySem PySem.W HD
noncomputable def ov(es:List DictEntry)(t:BT):BT:=((((((t.ins 37 (dO es)).ins 38 (tp [.str "point" 229,.str "point" 230])).ins 39 (tp [.str "ahead" 231,.str "same" 232,.str "behind" 233])).ins 40 (tp [.str "point" 234,.str "stretch" 235])).ins 41 (tp [.str "ahead" 236,.str "begins" 237,.str "within" 238,.str "ends" 239,.str "behind" 240])).ins 42 (tp [.str "stretch" 241,.str "point" 242])).ins 43 (tp [.str "ahead" 243,.str "ended" 244,.str "holds" 245,.str "begun" 246,.str "behind" 247])
noncomputable abbrev TV(es:List DictEntry)(t:BT)(n k:Nat)(os:OsState):SharedT:=⟨ov es t,n,{},⟨[]⟩,{},k,os⟩
section
variable (w:World)(p:Program)(b:List Stmt)(os:OsState)(es:List DictEntry)
noncomputable abbrev cB(b:List Stmt):Code:=Code.body b pre.env_1
theorem UG:segRunT treeTable p w 11 (some (.ref 6)) 1 1341 (T6 es w os) (piecesOf (Fm 7 49) pre.env_1 (cB b) ⟨17,0,17,11⟩ [topFrame q0])=some (.next,TV es (tF w.params) 304 639 os,cB b,⟨305,0,322,15⟩):=by
 refine byRow2 "special-get-raises" (P:=fun w=>segRunT treeTable p w 11 (some (.ref 6)) 1 1341 (T6 es w os) (piecesOf (Fm 7 49) pre.env_1 (cB b) ⟨17,0,17,11⟩ [topFrame q0])=some (.next,TV es (tF w.params) 304 639 os,cB b,⟨305,0,322,15⟩)) (fun w=>?_) (fun w=>?_) w
 ·rw[Fast.te10110043849684766642,Fast.te14364793385576792824];kernel_rfl
 ·rw[Fast.te10110043849684766642,Fast.te14364793385576792824];kernel_rfl
end
noncomputable abbrev bE:List Stmt:=behindTheImports prog
theorem n8:bE=pre.sts_4++(st::(Fm 7 49++[])):=by kernel_rfl
noncomputable abbrev SB(w:World)(os:OsState):SharedT:=⟨pre.tree_4 w.params,15,{},⟨[]⟩,{},187,os⟩
section
variable (w:World)(os:OsState)
theorem RX:topGo treeTable prog w 11 (some (.ref 6)) 12 ⟨boot_heap w.params,⟨[]⟩,boot_drawn,boot_toks,os⟩ (topStub prog)=some ((SB w os).abs,⟨denote treeTable (.body bE pre.env_1),.body bE pre.env_1,q0,[topFrame q0]⟩):=by
 rw[Fast.te15667345088766844465,Fast.te11892475500146522536,Fast.te14364793385576792824];kernel_rfl
theorem i6:segRun treeTable prog w 11 (some (.ref 6)) 1 1 (SB w os).abs (blockOf bE pre.env_1 (.body bE pre.env_1) q0 [topFrame q0])=some (.next,(SB w os).abs,.body bE pre.env_1,q0):=by
 kernel_rfl
theorem SE(b:List Stmt)(es:List DictEntry):topRun treeTable prog w 11 (some (.ref 6)) 2 (TV es (tF w.params) 304 639 os).abs ⟨doneF .next,cB b,⟨305,0,322,15⟩,[topFrame q0]⟩=some (TV es (tF w.params) 304 639 os).abs:=by
 kernel_rfl
theorem CU{bC:List Stmt}{N:Nat}{r:Shared}(b:List Stmt)(h:topRun treeTable prog w 11 (some (.ref 6)) N (T6 (dE w.params) w os).abs (restOf bC pre.env_1 (.body b pre.env_1) ⟨17,0,17,11⟩ [topFrame q0])=some r) :
  topRun treeTable prog w 11 (some (.ref 6)) (301+N) (T0 w os).abs (restOf (st::bC) pre.env_1 (.body b pre.env_1) ⟨16,0,16,5⟩ [topFrame q0])=some r:=by
 revert h
 refine byRow2 "special-get-raises" (P:=fun w=>topRun treeTable prog w 11 (some (.ref 6)) N (T6 (dE w.params) w os).abs (restOf bC pre.env_1 (.body b pre.env_1) ⟨17,0,17,11⟩ [topFrame q0])=some r->topRun treeTable prog w 11 (some (.ref 6)) (301+N) (T0 w os).abs (restOf (st::bC) pre.env_1 (.body b pre.env_1) ⟨16,0,16,5⟩ [topFrame q0])=some r) (fun w h=>?_) (fun w h=>?_) w
 ·obtain⟨n,l,e⟩:=R.piece (L1 w false os prog b);have:=topRun_mono (301-n) _ _ _ _ (piece_cons e h)
  rw[show n+N+(301-n)=301+N by omega]at this
  exact this
 ·obtain⟨n,l,e⟩:=R.piece (L1 w true os prog b);have:=topRun_mono (301-n) _ _ _ _ (piece_cons e h)
  rw[show n+N+(301-n)=301+N by omega]at this
  exact this
theorem PL(b:List Stmt)(es:List DictEntry):topRun treeTable prog w 11 (some (.ref 6)) (1341+2) (T6 es w os).abs (restOf (Fm 7 49++[]) pre.env_1 (.body b pre.env_1) ⟨17,0,17,11⟩ [topFrame q0])=some (TV es (tF w.params) 304 639 os).abs:=by
 exact piece_app (segRun_of (UG w prog b os es)) (piece_nil (SE w os b es))
noncomputable def H1(P:Params):Heap:=absHeap (ov (dE P) (tF P)) 304 {}
theorem JV:topRun treeTable prog w 11 (some (.ref 6)) (12+(1+(132+(301+(1341+2))))) ⟨boot_heap w.params,⟨[]⟩,boot_drawn,boot_toks,os⟩ (topStub prog)=some ⟨H1 w.params,⟨[]⟩,{},639,os⟩:=by
 refine go_top (RX w os) (piece_block (i6 w os) ?_);rw[n8];exact pre.chain prog _ w os _ _ _ (CU w os _ (PL w os _ _))
end
def qv:Program:=view prog [1,2,3,5,6,7,8,9,11,12,13,14,15,16,17,18,19,20,21,23,24,25,26,27,29,30,31,32,33,34,35,36,37,38,39,40,41,42,43,44,45,46,47,48,49,50,51,52,53,54,55]
def lo:List Str:=[Str.ofString "POINT_WORDS",Str.ofString "END_COUNTS"]
abbrev lw:OpenLaw:=PySem.Challenge.rw_whens_k15_talks_by_kind
abbrev XT:Shared->Bool:=fun s=>xlAt qv [] s&&recOk (RowW.records lw.row.toRowW) s
theorem UX(N:Nat)(h:Nat.ble 600 N=true):∀ w:World,(fencedOpening treeTable prog w N).map (fun s=>(s.heap,s.gens,s.drawn,s.toks))=some (boot_heap w.params,⟨[]⟩,boot_drawn,boot_toks):=boot_open (by kernel_rfl) h (fun _=>rfl)
theorem CW(w:World):((boot_heap w.params).isNs mainGlobals&&(⟨[]⟩:Array GenState).size==0,(boot_heap w.params).objs.size,(boot_heap w.params).nsMap mainGlobals "__annotations__")=(true,11,some (.ref 6)):=by kernel_rfl
theorem R8(w:World)(os:OsState):(staticsOk (importedModules prog.main.body) (boot_heap w.params) (H1 w.params)&&namesBound prog (H1 w.params)&&gensDone ⟨H1 w.params,⟨[]⟩,{},639,os⟩&&laidKept (boot_heap w.params) (H1 w.params))=true:=by kernel_rfl
theorem LF(w:World)(os:OsState):openSeen qv lo (importedModules prog.main.body) XT true ⟨H1 w.params,⟨[]⟩,{},639,os⟩=openGood qv lo:=by
 rw[Fast.te4187177175401517315];kernel_rfl
theorem left(H:Hook)(hH:∀ (w:World) (os:OsState),H.obs ⟨H1 w.params,⟨[]⟩,{},639,os⟩=H.val w):LeftO prog qv lo XT H.obs H.val 4230 :=
 LeftO.of_pieces (H₀:=boot_heap) (H₁:=H1) (gs₀:=⟨[]⟩) (gs₁:=⟨[]⟩) (d₀:=boot_drawn) (d₁:={}) (k₀:=boot_toks) (k₁:=639) (m₀:=11) (ann:=some (.ref 6)) (M:=1789) (UX 4230 (by decide)) CW JV (by decide) fun w=>funext fun os=>by rw[R8 w os,LF w os,hH w os]
theorem head{H:Hook}{d:DefRec}{kwd:List (Str×Expr)}(hH:∀ (w:World) (os:OsState),H.obs ⟨H1 w.params,⟨[]⟩,{},639,os⟩=H.val w)(k1:lw.row.wellSaid=true)(hdef:defOf qv lw.row.name=some (d,kwd))(hp:lw.row.prog.theDef lw.row.name=some (d.params,d.body,d.scope))(hk:kwWritten? d.params.kwonlyargs d.params.kw_defaults=some kwd)
  (hw:lw.row.toRowW.promised) (call:WalkO qv lo (XL qv []) H.says lw.row.toRowW d kwd fun f vs=>PySem.call f vs):lw.row.Holds :=
 holds_open (q:=qv) (loose:=lo) (Xt:=XT) (XP:=XL qv []) (Yf:=H.obs) (Ya:=H.val) (YP:=H.says) (N:=4230) (left H hH) (Hook.of H) (Hook.keeps H) (fun s e=>xl_of s (Bool.and_eq_true_iff.mp e).1) XL.keeps hdef hp hk (fun s e=>recFacts_of (Bool.and_eq_true_iff.mp e).2) (by rfl) k1 (by decide +kernel) ⟨rfl,rfl,rfl,rfl,rfl,by decide +kernel⟩ hw call
end H15
namespace K15
open PySem PySem.Spec PyProof.Rows L2 DL
theorem zM{P:List Value->Prop}(h:P []):∀ us:List Value,us.length=0->P us
 | [],_=>h
 | _::_,e=>nomatch e
theorem gG{P:List Value->Prop}{n:Nat}(h:∀ a us,us.length=n->P (a::us)):∀ us:List Value,us.length=n+1->P us
 | [],e=>nomatch e
 | a::us,e=>h a us (Nat.succ.inj e)
theorem gX{fd:FuncData}{ps:List Str}(h:∀ a0,bindArgs fd {pos:=[a0]}=pure (ps.zip [a0]))(us:List Value)(hl:us.length=1):bindArgs fd {pos:=us}=pure (ps.zip us) :=
 (gG (P:=fun us=>bindArgs fd {pos:=us}=pure (ps.zip (us))) (fun a0=>zM (P:=fun us=>bindArgs fd {pos:=a0::us}=pure (ps.zip (a0::us))) (h a0))) us hl
theorem eS{fd:FuncData}{ps:List Str}(h:∀ a0 a1,bindArgs fd {pos:=[a0,a1]}=pure (ps.zip [a0,a1]))(us:List Value)(hl:us.length=2):bindArgs fd {pos:=us}=pure (ps.zip us) :=
 (gG (P:=fun us=>bindArgs fd {pos:=us}=pure (ps.zip (us))) (fun a0=>gG (P:=fun us=>bindArgs fd {pos:=a0::us}=pure (ps.zip (a0::us))) (fun a1=>zM (P:=fun us=>bindArgs fd {pos:=a0::a1::us}=pure (ps.zip (a0::a1::us))) (h a0 a1)))) us hl
theorem vL{fd:FuncData}{ps:List Str}(h:∀ a0 a1 a2,bindArgs fd {pos:=[a0,a1,a2]}=pure (ps.zip [a0,a1,a2]))(us:List Value)(hl:us.length=3):bindArgs fd {pos:=us}=pure (ps.zip us) :=
 (gG (P:=fun us=>bindArgs fd {pos:=us}=pure (ps.zip (us))) (fun a0=>gG (P:=fun us=>bindArgs fd {pos:=a0::us}=pure (ps.zip (a0::us))) (fun a1=>gG (P:=fun us=>bindArgs fd {pos:=a0::a1::us}=pure (ps.zip (a0::a1::us))) (fun a2=>zM (P:=fun us=>bindArgs fd {pos:=a0::a1::a2::us}=pure (ps.zip (a0::a1::a2::us))) (h a0 a1 a2))))) us hl
theorem WI{fd:FuncData}{ps:List Str}(h:∀ a0 a1 a2 a3,bindArgs fd {pos:=[a0,a1,a2,a3]}=pure (ps.zip [a0,a1,a2,a3]))(us:List Value)(hl:us.length=4):bindArgs fd {pos:=us}=pure (ps.zip us) :=
 (gG (P:=fun us=>bindArgs fd {pos:=us}=pure (ps.zip (us))) (fun a0=>gG (P:=fun us=>bindArgs fd {pos:=a0::us}=pure (ps.zip (a0::us))) (fun a1=>gG (P:=fun us=>bindArgs fd {pos:=a0::a1::us}=pure (ps.zip (a0::a1::us))) (fun a2=>gG (P:=fun us=>bindArgs fd {pos:=a0::a1::a2::us}=pure (ps.zip (a0::a1::a2::us))) (fun a3=>zM (P:=fun us=>bindArgs fd {pos:=a0::a1::a2::a3::us}=pure (ps.zip (a0::a1::a2::a3::us))) (h a0 a1 a2 a3)))))) us hl
theorem JW{fd:FuncData}{ps:List Str}(h:∀ a0 a1 a2 a3 a4,bindArgs fd {pos:=[a0,a1,a2,a3,a4]}=pure (ps.zip [a0,a1,a2,a3,a4]))(us:List Value)(hl:us.length=5):bindArgs fd {pos:=us}=pure (ps.zip us) :=
 (gG (P:=fun us=>bindArgs fd {pos:=us}=pure (ps.zip (us))) (fun a0=>gG (P:=fun us=>bindArgs fd {pos:=a0::us}=pure (ps.zip (a0::us))) (fun a1=>gG (P:=fun us=>bindArgs fd {pos:=a0::a1::us}=pure (ps.zip (a0::a1::us))) (fun a2=>gG (P:=fun us=>bindArgs fd {pos:=a0::a1::a2::us}=pure (ps.zip (a0::a1::a2::us))) (fun a3=>gG (P:=fun us=>bindArgs fd {pos:=a0::a1::a2::a3::us}=pure (ps.zip (a0::a1::a2::a3::us))) (fun a4=>zM (P:=fun us=>bindArgs fd {pos:=a0::a1::a2::a3::a4::us}=pure (ps.zip (a0::a1::a2::a3::a4::us))) (h a0 a1 a2 a3 a4))))))) us hl
theorem all_mk{l:PySem.W.OpenLaw}{w:World}{K:PySem.W.Frag}{h:Heap}{mg:Str->Option Value}{fa:Addr}(X:K.In h)(G:h.Ns mainGlobals mg)(hfa:mg "law"=some (.ref fa))
  {Bl:Addr} {od_0 an_0:Option Addr} {sl_0:Array (Option Value)} {oc_0 kV_0 dc_0 pm_0 cd_0 ct_0:Value} (a0:PySem.W.nsIn K mainGlobals "is_whole"=some (some (.ref Bl))) (l0:K.lookup Bl=some ⟨oc_0,od_0,.func (PySem.W.fnOf "is_whole" "is_whole" (cG mP) (cD mP) (aV mP) .none kV_0 dc_0 pm_0 an_0 cd_0 ct_0),sl_0⟩) (c0:PySem.W.codeIn K cd_0 "is_whole"=true) (k0:PySem.W.keepIn K (.ref Bl)=true)
  {Dx:Addr} {od_1 an_1:Option Addr} {sl_1:Array (Option Value)} {oc_1 kV_1 dc_1 pm_1 cd_1 ct_1:Value} (a1:PySem.W.nsIn K mainGlobals "common"=some (some (.ref Dx))) (l1:K.lookup Dx=some ⟨oc_1,od_1,.func (PySem.W.fnOf "common" "common" (cG oX) (cD oX) (aV oX) .none kV_1 dc_1 pm_1 an_1 cd_1 ct_1),sl_1⟩) (c1:PySem.W.codeIn K cd_1 "common"=true) (k1:PySem.W.keepIn K (.ref Dx)=true)
  {Cq:Addr} {od_2 an_2:Option Addr} {sl_2:Array (Option Value)} {oc_2 kV_2 dc_2 pm_2 cd_2 ct_2:Value} (a2:PySem.W.nsIn K mainGlobals "is_fraction"=some (some (.ref Cq))) (l2:K.lookup Cq=some ⟨oc_2,od_2,.func (PySem.W.fnOf "is_fraction" "is_fraction" (cG oN) (cD oN) (aV oN) .none kV_2 dc_2 pm_2 an_2 cd_2 ct_2),sl_2⟩) (c2:PySem.W.codeIn K cd_2 "is_fraction"=true) (k2:PySem.W.keepIn K (.ref Cq)=true)
  {Cr:Addr} {od_3 an_3:Option Addr} {sl_3:Array (Option Value)} {oc_3 kV_3 dc_3 pm_3 cd_3 ct_3:Value} (a3:PySem.W.nsIn K mainGlobals "words_of"=some (some (.ref Cr))) (l3:K.lookup Cr=some ⟨oc_3,od_3,.func (PySem.W.fnOf "words_of" "words_of" (cG qC) (cD qC) (aV qC) .none kV_3 dc_3 pm_3 an_3 cd_3 ct_3),sl_3⟩) (c3:PySem.W.codeIn K cd_3 "words_of"=true) (k3:PySem.W.keepIn K (.ref Cr)=true)
  {Fd:Addr} {od_4 an_4:Option Addr} {sl_4:Array (Option Value)} {oc_4 kV_4 dc_4 pm_4 cd_4 ct_4:Value} (a4:PySem.W.nsIn K mainGlobals "is_may"=some (some (.ref Fd))) (l4:K.lookup Fd=some ⟨oc_4,od_4,.func (PySem.W.fnOf "is_may" "is_may" (cG oI) (cD oI) (aV oI) .none kV_4 dc_4 pm_4 an_4 cd_4 ct_4),sl_4⟩) (c4:PySem.W.codeIn K cd_4 "is_may"=true) (k4:PySem.W.keepIn K (.ref Fd)=true)
  {Aw:Addr} {od_5 an_5:Option Addr} {sl_5:Array (Option Value)} {oc_5 kV_5 dc_5 pm_5 cd_5 ct_5:Value} (a5:PySem.W.nsIn K mainGlobals "is_name"=some (some (.ref Aw))) (l5:K.lookup Aw=some ⟨oc_5,od_5,.func (PySem.W.fnOf "is_name" "is_name" (cG nY) (cD nY) (aV nY) .none kV_5 dc_5 pm_5 an_5 cd_5 ct_5),sl_5⟩) (c5:PySem.W.codeIn K cd_5 "is_name"=true) (k5:PySem.W.keepIn K (.ref Aw)=true)
  {Eo:Addr} {od_6 an_6:Option Addr} {sl_6:Array (Option Value)} {oc_6 kV_6 dc_6 pm_6 cd_6 ct_6:Value} (a6:PySem.W.nsIn K mainGlobals "is_named_kind"=some (some (.ref Eo))) (l6:K.lookup Eo=some ⟨oc_6,od_6,.func (PySem.W.fnOf "is_named_kind" "is_named_kind" (cG qS) (cD qS) (aV qS) .none kV_6 dc_6 pm_6 an_6 cd_6 ct_6),sl_6⟩) (c6:PySem.W.codeIn K cd_6 "is_named_kind"=true) (k6:PySem.W.keepIn K (.ref Eo)=true)
  {Ey:Addr} {od_7 an_7:Option Addr} {sl_7:Array (Option Value)} {oc_7 kV_7 dc_7 pm_7 cd_7 ct_7:Value} (a7:PySem.W.nsIn K mainGlobals "is_things"=some (some (.ref Ey))) (l7:K.lookup Ey=some ⟨oc_7,od_7,.func (PySem.W.fnOf "is_things" "is_things" (cG rR) (cD rR) (aV rR) .none kV_7 dc_7 pm_7 an_7 cd_7 ct_7),sl_7⟩) (c7:PySem.W.codeIn K cd_7 "is_things"=true) (k7:PySem.W.keepIn K (.ref Ey)=true)
  {Gh:Addr} {od_8 an_8:Option Addr} {sl_8:Array (Option Value)} {oc_8 kV_8 dc_8 pm_8 cd_8 ct_8:Value} (a8:PySem.W.nsIn K mainGlobals "names_of"=some (some (.ref Gh))) (l8:K.lookup Gh=some ⟨oc_8,od_8,.func (PySem.W.fnOf "names_of" "names_of" (cG nD) (cD nD) (aV nD) .none kV_8 dc_8 pm_8 an_8 cd_8 ct_8),sl_8⟩) (c8:PySem.W.codeIn K cd_8 "names_of"=true) (k8:PySem.W.keepIn K (.ref Gh)=true)
  {Fs:Addr} {od_9 an_9:Option Addr} {sl_9:Array (Option Value)} {oc_9 kV_9 dc_9 pm_9 cd_9 ct_9:Value} (a9:PySem.W.nsIn K mainGlobals "kinds_of"=some (some (.ref Fs))) (l9:K.lookup Fs=some ⟨oc_9,od_9,.func (PySem.W.fnOf "kinds_of" "kinds_of" (cG oJ) (cD oJ) (aV oJ) .none kV_9 dc_9 pm_9 an_9 cd_9 ct_9),sl_9⟩) (c9:PySem.W.codeIn K cd_9 "kinds_of"=true) (k9:PySem.W.keepIn K (.ref Fs)=true)
  {Er:Addr} {od_10 an_10:Option Addr} {sl_10:Array (Option Value)} {oc_10 kV_10 dc_10 pm_10 cd_10 ct_10:Value} (a10:PySem.W.nsIn K mainGlobals "are_two_names"=some (some (.ref Er))) (l10:K.lookup Er=some ⟨oc_10,od_10,.func (PySem.W.fnOf "are_two_names" "are_two_names" (cG pQ) (cD pQ) (aV pQ) .none kV_10 dc_10 pm_10 an_10 cd_10 ct_10),sl_10⟩) (c10:PySem.W.codeIn K cd_10 "are_two_names"=true) (k10:PySem.W.keepIn K (.ref Er)=true)
  {Ch:Addr} {od_11 an_11:Option Addr} {sl_11:Array (Option Value)} {oc_11 kV_11 dc_11 pm_11 cd_11 ct_11:Value} (a11:PySem.W.nsIn K mainGlobals "ends_of"=some (some (.ref Ch))) (l11:K.lookup Ch=some ⟨oc_11,od_11,.func (PySem.W.fnOf "ends_of" "ends_of" (cG tE) (cD tE) (aV tE) .none kV_11 dc_11 pm_11 an_11 cd_11 ct_11),sl_11⟩) (c11:PySem.W.codeIn K cd_11 "ends_of"=true) (k11:PySem.W.keepIn K (.ref Ch)=true)
  {Eh:Addr} {od_12 an_12:Option Addr} {sl_12:Array (Option Value)} {oc_12 kV_12 dc_12 pm_12 cd_12 ct_12:Value} (a12:PySem.W.nsIn K mainGlobals "is_end"=some (some (.ref Eh))) (l12:K.lookup Eh=some ⟨oc_12,od_12,.func (PySem.W.fnOf "is_end" "is_end" (cG sD) (cD sD) (aV sD) .none kV_12 dc_12 pm_12 an_12 cd_12 ct_12),sl_12⟩) (c12:PySem.W.codeIn K cd_12 "is_end"=true) (k12:PySem.W.keepIn K (.ref Eh)=true)
  {Ca:Addr} {od_13 an_13:Option Addr} {sl_13:Array (Option Value)} {oc_13 kV_13 dc_13 pm_13 cd_13 ct_13:Value} (a13:PySem.W.nsIn K mainGlobals "is_may_saying"=some (some (.ref Ca))) (l13:K.lookup Ca=some ⟨oc_13,od_13,.func (PySem.W.fnOf "is_may_saying" "is_may_saying" (cG oH) (cD oH) (aV oH) .none kV_13 dc_13 pm_13 an_13 cd_13 ct_13),sl_13⟩) (c13:PySem.W.codeIn K cd_13 "is_may_saying"=true) (k13:PySem.W.keepIn K (.ref Ca)=true)
  {Dh:Addr} {od_14 an_14:Option Addr} {sl_14:Array (Option Value)} {oc_14 kV_14 dc_14 pm_14 cd_14 ct_14:Value} (a14:PySem.W.nsIn K mainGlobals "is_gap_saying"=some (some (.ref Dh))) (l14:K.lookup Dh=some ⟨oc_14,od_14,.func (PySem.W.fnOf "is_gap_saying" "is_gap_saying" (cG pW) (cD pW) (aV pW) .none kV_14 dc_14 pm_14 an_14 cd_14 ct_14),sl_14⟩) (c14:PySem.W.codeIn K cd_14 "is_gap_saying"=true) (k14:PySem.W.keepIn K (.ref Dh)=true)
  {Bu:Addr} {od_15 an_15:Option Addr} {sl_15:Array (Option Value)} {oc_15 kV_15 dc_15 pm_15 cd_15 ct_15:Value} (a15:PySem.W.nsIn K mainGlobals "is_saying"=some (some (.ref Bu))) (l15:K.lookup Bu=some ⟨oc_15,od_15,.func (PySem.W.fnOf "is_saying" "is_saying" (cG oB) (cD oB) (aV oB) .none kV_15 dc_15 pm_15 an_15 cd_15 ct_15),sl_15⟩) (c15:PySem.W.codeIn K cd_15 "is_saying"=true) (k15:PySem.W.keepIn K (.ref Bu)=true)
  {Bb:Addr} {od_16 an_16:Option Addr} {sl_16:Array (Option Value)} {oc_16 kV_16 dc_16 pm_16 cd_16 ct_16:Value} (a16:PySem.W.nsIn K mainGlobals "is_talk"=some (some (.ref Bb))) (l16:K.lookup Bb=some ⟨oc_16,od_16,.func (PySem.W.fnOf "is_talk" "is_talk" (cG pC) (cD pC) (aV pC) .none kV_16 dc_16 pm_16 an_16 cd_16 ct_16),sl_16⟩) (c16:PySem.W.codeIn K cd_16 "is_talk"=true) (k16:PySem.W.keepIn K (.ref Bb)=true)
  {Dt:Addr} {od_17 an_17:Option Addr} {sl_17:Array (Option Value)} {oc_17 kV_17 dc_17 pm_17 cd_17 ct_17:Value} (a17:PySem.W.nsIn K mainGlobals "_law_feed"=some (some (.ref Dt))) (l17:K.lookup Dt=some ⟨oc_17,od_17,.func (PySem.W.fnOf "_law_feed" "_law_feed" (cG pG) (cD pG) (aV pG) .none kV_17 dc_17 pm_17 an_17 cd_17 ct_17),sl_17⟩) (c17:PySem.W.codeIn K cd_17 "_law_feed"=true) (k17:PySem.W.keepIn K (.ref Dt)=true)
  {Fo:Addr} {od_18 an_18:Option Addr} {sl_18:Array (Option Value)} {oc_18 kV_18 dc_18 pm_18 cd_18 ct_18:Value} (a18:PySem.W.nsIn K mainGlobals "_law_draw"=some (some (.ref Fo))) (l18:K.lookup Fo=some ⟨oc_18,od_18,.func (PySem.W.fnOf "_law_draw" "_law_draw" (cG fF) (cD fF) (aV fF) .none kV_18 dc_18 pm_18 an_18 cd_18 ct_18),sl_18⟩) (c18:PySem.W.codeIn K cd_18 "_law_draw"=true) (k18:PySem.W.keepIn K (.ref Fo)=true)
  {Cy:Addr} {od_19 an_19:Option Addr} {sl_19:Array (Option Value)} {oc_19 kV_19 dc_19 pm_19 cd_19 ct_19:Value} (a19:PySem.W.nsIn K mainGlobals "_law_fraction"=some (some (.ref Cy))) (l19:K.lookup Cy=some ⟨oc_19,od_19,.func (PySem.W.fnOf "_law_fraction" "_law_fraction" (cG lG) (cD lG) (aV lG) .none kV_19 dc_19 pm_19 an_19 cd_19 ct_19),sl_19⟩) (c19:PySem.W.codeIn K cd_19 "_law_fraction"=true) (k19:PySem.W.keepIn K (.ref Cy)=true)
  {De:Addr} {od_20 an_20:Option Addr} {sl_20:Array (Option Value)} {oc_20 kV_20 dc_20 pm_20 cd_20 ct_20:Value} (a20:PySem.W.nsIn K mainGlobals "_law_stand"=some (some (.ref De))) (l20:K.lookup De=some ⟨oc_20,od_20,.func (PySem.W.fnOf "_law_stand" "_law_stand" (cG nR) (cD nR) (aV nR) .none kV_20 dc_20 pm_20 an_20 cd_20 ct_20),sl_20⟩) (c20:PySem.W.codeIn K cd_20 "_law_stand"=true) (k20:PySem.W.keepIn K (.ref De)=true)
  {Ef:Addr} {od_21 an_21:Option Addr} {sl_21:Array (Option Value)} {oc_21 kV_21 dc_21 pm_21 cd_21 ct_21:Value} (a21:PySem.W.nsIn K mainGlobals "_law_word"=some (some (.ref Ef))) (l21:K.lookup Ef=some ⟨oc_21,od_21,.func (PySem.W.fnOf "_law_word" "_law_word" (cG rO) (cD rO) (aV rO) .none kV_21 dc_21 pm_21 an_21 cd_21 ct_21),sl_21⟩) (c21:PySem.W.codeIn K cd_21 "_law_word"=true) (k21:PySem.W.keepIn K (.ref Ef)=true)
  {Az:Addr} {od_22 an_22:Option Addr} {sl_22:Array (Option Value)} {oc_22 kV_22 dc_22 pm_22 cd_22 ct_22:Value} (a22:PySem.W.nsIn K mainGlobals "_law_words"=some (some (.ref Az))) (l22:K.lookup Az=some ⟨oc_22,od_22,.func (PySem.W.fnOf "_law_words" "_law_words" (cG lV) (cD lV) (aV lV) .none kV_22 dc_22 pm_22 an_22 cd_22 ct_22),sl_22⟩) (c22:PySem.W.codeIn K cd_22 "_law_words"=true) (k22:PySem.W.keepIn K (.ref Az)=true)
  {Ec:Addr} {od_23 an_23:Option Addr} {sl_23:Array (Option Value)} {oc_23 kV_23 dc_23 pm_23 cd_23 ct_23:Value} (a23:PySem.W.nsIn K mainGlobals "_law_names"=some (some (.ref Ec))) (l23:K.lookup Ec=some ⟨oc_23,od_23,.func (PySem.W.fnOf "_law_names" "_law_names" (cG qT) (cD qT) (aV qT) .none kV_23 dc_23 pm_23 an_23 cd_23 ct_23),sl_23⟩) (c23:PySem.W.codeIn K cd_23 "_law_names"=true) (k23:PySem.W.keepIn K (.ref Ec)=true)
  {Eu:Addr} {od_24 an_24:Option Addr} {sl_24:Array (Option Value)} {oc_24 kV_24 dc_24 pm_24 cd_24 ct_24:Value} (a24:PySem.W.nsIn K mainGlobals "_law_kinds"=some (some (.ref Eu))) (l24:K.lookup Eu=some ⟨oc_24,od_24,.func (PySem.W.fnOf "_law_kinds" "_law_kinds" (cG oZ) (cD oZ) (aV oZ) .none kV_24 dc_24 pm_24 an_24 cd_24 ct_24),sl_24⟩) (c24:PySem.W.codeIn K cd_24 "_law_kinds"=true) (k24:PySem.W.keepIn K (.ref Eu)=true)
  {Cw:Addr} {od_25 an_25:Option Addr} {sl_25:Array (Option Value)} {oc_25 kV_25 dc_25 pm_25 cd_25 ct_25:Value} (a25:PySem.W.nsIn K mainGlobals "_law_things"=some (some (.ref Cw))) (l25:K.lookup Cw=some ⟨oc_25,od_25,.func (PySem.W.fnOf "_law_things" "_law_things" (cG pE) (cD pE) (aV pE) .none kV_25 dc_25 pm_25 an_25 cd_25 ct_25),sl_25⟩) (c25:PySem.W.codeIn K cd_25 "_law_things"=true) (k25:PySem.W.keepIn K (.ref Cw)=true)
  {Ed:Addr} {od_26 an_26:Option Addr} {sl_26:Array (Option Value)} {oc_26 kV_26 dc_26 pm_26 cd_26 ct_26:Value} (a26:PySem.W.nsIn K mainGlobals "_law_may"=some (some (.ref Ed))) (l26:K.lookup Ed=some ⟨oc_26,od_26,.func (PySem.W.fnOf "_law_may" "_law_may" (cG rE) (cD rE) (aV rE) .none kV_26 dc_26 pm_26 an_26 cd_26 ct_26),sl_26⟩) (c26:PySem.W.codeIn K cd_26 "_law_may"=true) (k26:PySem.W.keepIn K (.ref Ed)=true)
  {Gj:Addr} {od_27 an_27:Option Addr} {sl_27:Array (Option Value)} {oc_27 kV_27 dc_27 pm_27 cd_27 ct_27:Value} (a27:PySem.W.nsIn K mainGlobals "_law_times"=some (some (.ref Gj))) (l27:K.lookup Gj=some ⟨oc_27,od_27,.func (PySem.W.fnOf "_law_times" "_law_times" (cG pK) (cD pK) (aV pK) .none kV_27 dc_27 pm_27 an_27 cd_27 ct_27),sl_27⟩) (c27:PySem.W.codeIn K cd_27 "_law_times"=true) (k27:PySem.W.keepIn K (.ref Gj)=true)
  {Bw:Addr} {od_28 an_28:Option Addr} {sl_28:Array (Option Value)} {oc_28 kV_28 dc_28 pm_28 cd_28 ct_28:Value} (a28:PySem.W.nsIn K mainGlobals "_law_telling"=some (some (.ref Bw))) (l28:K.lookup Bw=some ⟨oc_28,od_28,.func (PySem.W.fnOf "_law_telling" "_law_telling" (cG pP) (cD pP) (aV pP) .none kV_28 dc_28 pm_28 an_28 cd_28 ct_28),sl_28⟩) (c28:PySem.W.codeIn K cd_28 "_law_telling"=true) (k28:PySem.W.keepIn K (.ref Bw)=true)
  {Gf:Addr} {od_29 an_29:Option Addr} {sl_29:Array (Option Value)} {oc_29 kV_29 dc_29 pm_29 cd_29 ct_29:Value} (a29:PySem.W.nsIn K mainGlobals "_law_all_ends"=some (some (.ref Gf))) (l29:K.lookup Gf=some ⟨oc_29,od_29,.func (PySem.W.fnOf "_law_all_ends" "_law_all_ends" (cG kZ) (cD kZ) (aV kZ) .none kV_29 dc_29 pm_29 an_29 cd_29 ct_29),sl_29⟩) (c29:PySem.W.codeIn K cd_29 "_law_all_ends"=true) (k29:PySem.W.keepIn K (.ref Gf)=true)
  {Ck:Addr} {od_30 an_30:Option Addr} {sl_30:Array (Option Value)} {oc_30 kV_30 dc_30 pm_30 cd_30 ct_30:Value} (a30:PySem.W.nsIn K mainGlobals "_law_time"=some (some (.ref Ck))) (l30:K.lookup Ck=some ⟨oc_30,od_30,.func (PySem.W.fnOf "_law_time" "_law_time" (cG pR) (cD pR) (aV pR) .none kV_30 dc_30 pm_30 an_30 cd_30 ct_30),sl_30⟩) (c30:PySem.W.codeIn K cd_30 "_law_time"=true) (k30:PySem.W.keepIn K (.ref Ck)=true)
  {Eb:Addr} {od_31 an_31:Option Addr} {sl_31:Array (Option Value)} {oc_31 kV_31 dc_31 pm_31 cd_31 ct_31:Value} (a31:PySem.W.nsIn K mainGlobals "_law_may_saying"=some (some (.ref Eb))) (l31:K.lookup Eb=some ⟨oc_31,od_31,.func (PySem.W.fnOf "_law_may_saying" "_law_may_saying" (cG rG) (cD rG) (aV rG) .none kV_31 dc_31 pm_31 an_31 cd_31 ct_31),sl_31⟩) (c31:PySem.W.codeIn K cd_31 "_law_may_saying"=true) (k31:PySem.W.keepIn K (.ref Eb)=true)
  {Dq:Addr} {od_32 an_32:Option Addr} {sl_32:Array (Option Value)} {oc_32 kV_32 dc_32 pm_32 cd_32 ct_32:Value} (a32:PySem.W.nsIn K mainGlobals "_law_gap_saying"=some (some (.ref Dq))) (l32:K.lookup Dq=some ⟨oc_32,od_32,.func (PySem.W.fnOf "_law_gap_saying" "_law_gap_saying" (cG pJ) (cD pJ) (aV pJ) .none kV_32 dc_32 pm_32 an_32 cd_32 ct_32),sl_32⟩) (c32:PySem.W.codeIn K cd_32 "_law_gap_saying"=true) (k32:PySem.W.keepIn K (.ref Dq)=true)
  {Cv:Addr} {od_33 an_33:Option Addr} {sl_33:Array (Option Value)} {oc_33 kV_33 dc_33 pm_33 cd_33 ct_33:Value} (a33:PySem.W.nsIn K mainGlobals "_law_talk"=some (some (.ref Cv))) (l33:K.lookup Cv=some ⟨oc_33,od_33,.func (PySem.W.fnOf "_law_talk" "_law_talk" (cG nX) (cD nX) (aV nX) .none kV_33 dc_33 pm_33 an_33 cd_33 ct_33),sl_33⟩) (c33:PySem.W.codeIn K cd_33 "_law_talk"=true) (k33:PySem.W.keepIn K (.ref Cv)=true)
  {Dp:Addr} {od_34 an_34:Option Addr} {sl_34:Array (Option Value)} {oc_34 kV_34 dc_34 pm_34 cd_34 ct_34:Value} (a34:PySem.W.nsIn K mainGlobals "_law_is_end"=some (some (.ref Dp))) (l34:K.lookup Dp=some ⟨oc_34,od_34,.func (PySem.W.fnOf "_law_is_end" "_law_is_end" (cG pM) (cD pM) (aV pM) .none kV_34 dc_34 pm_34 an_34 cd_34 ct_34),sl_34⟩) (c34:PySem.W.codeIn K cd_34 "_law_is_end"=true) (k34:PySem.W.keepIn K (.ref Dp)=true)
  {Ej:Addr} {od_35 an_35:Option Addr} {sl_35:Array (Option Value)} {oc_35 kV_35 dc_35 pm_35 cd_35 ct_35:Value} (a35:PySem.W.nsIn K mainGlobals "_law_is_may_saying"=some (some (.ref Ej))) (l35:K.lookup Ej=some ⟨oc_35,od_35,.func (PySem.W.fnOf "_law_is_may_saying" "_law_is_may_saying" (cG pS) (cD pS) (aV pS) .none kV_35 dc_35 pm_35 an_35 cd_35 ct_35),sl_35⟩) (c35:PySem.W.codeIn K cd_35 "_law_is_may_saying"=true) (k35:PySem.W.keepIn K (.ref Ej)=true)
  {Fg:Addr} {od_36 an_36:Option Addr} {sl_36:Array (Option Value)} {oc_36 kV_36 dc_36 pm_36 cd_36 ct_36:Value} (a36:PySem.W.nsIn K mainGlobals "_law_is_gap_saying"=some (some (.ref Fg))) (l36:K.lookup Fg=some ⟨oc_36,od_36,.func (PySem.W.fnOf "_law_is_gap_saying" "_law_is_gap_saying" (cG rA) (cD rA) (aV rA) .none kV_36 dc_36 pm_36 an_36 cd_36 ct_36),sl_36⟩) (c36:PySem.W.codeIn K cd_36 "_law_is_gap_saying"=true) (k36:PySem.W.keepIn K (.ref Fg)=true)
  {Ff:Addr} {od_37 an_37:Option Addr} {sl_37:Array (Option Value)} {oc_37 kV_37 dc_37 pm_37 cd_37 ct_37:Value} (a37:PySem.W.nsIn K mainGlobals "_law_is_saying"=some (some (.ref Ff))) (l37:K.lookup Ff=some ⟨oc_37,od_37,.func (PySem.W.fnOf "_law_is_saying" "_law_is_saying" (cG oW) (cD oW) (aV oW) .none kV_37 dc_37 pm_37 an_37 cd_37 ct_37),sl_37⟩) (c37:PySem.W.codeIn K cd_37 "_law_is_saying"=true) (k37:PySem.W.keepIn K (.ref Ff)=true)
  {Cp:Addr} {od_38 an_38:Option Addr} {sl_38:Array (Option Value)} {oc_38 kV_38 dc_38 pm_38 cd_38 ct_38:Value} (a38:PySem.W.nsIn K mainGlobals "_law_bent_saying"=some (some (.ref Cp))) (l38:K.lookup Cp=some ⟨oc_38,od_38,.func (PySem.W.fnOf "_law_bent_saying" "_law_bent_saying" (cG sW) (cD sW) (aV sW) .none kV_38 dc_38 pm_38 an_38 cd_38 ct_38),sl_38⟩) (c38:PySem.W.codeIn K cd_38 "_law_bent_saying"=true) (k38:PySem.W.keepIn K (.ref Cp)=true)
  {Du:Addr} {od_39 an_39:Option Addr} {sl_39:Array (Option Value)} {oc_39 kV_39 dc_39 pm_39 cd_39 ct_39:Value} (a39:PySem.W.nsIn K mainGlobals "_law_is_name"=some (some (.ref Du))) (l39:K.lookup Du=some ⟨oc_39,od_39,.func (PySem.W.fnOf "_law_is_name" "_law_is_name" (cG qV) (cD qV) (aV qV) .none kV_39 dc_39 pm_39 an_39 cd_39 ct_39),sl_39⟩) (c39:PySem.W.codeIn K cd_39 "_law_is_name"=true) (k39:PySem.W.keepIn K (.ref Du)=true)
  {Ay:Addr} {od_40 an_40:Option Addr} {sl_40:Array (Option Value)} {oc_40 kV_40 dc_40 pm_40 cd_40 ct_40:Value} (a40:PySem.W.nsIn K mainGlobals "_law_is_things"=some (some (.ref Ay))) (l40:K.lookup Ay=some ⟨oc_40,od_40,.func (PySem.W.fnOf "_law_is_things" "_law_is_things" (cG qK) (cD qK) (aV qK) .none kV_40 dc_40 pm_40 an_40 cd_40 ct_40),sl_40⟩) (c40:PySem.W.codeIn K cd_40 "_law_is_things"=true) (k40:PySem.W.keepIn K (.ref Ay)=true)
  {Dv:Addr} {od_41 an_41:Option Addr} {sl_41:Array (Option Value)} {oc_41 kV_41 dc_41 pm_41 cd_41 ct_41:Value} (a41:PySem.W.nsIn K mainGlobals "_law_is_any_talk"=some (some (.ref Dv))) (l41:K.lookup Dv=some ⟨oc_41,od_41,.func (PySem.W.fnOf "_law_is_any_talk" "_law_is_any_talk" (cG rV) (cD rV) (aV rV) .none kV_41 dc_41 pm_41 an_41 cd_41 ct_41),sl_41⟩) (c41:PySem.W.codeIn K cd_41 "_law_is_any_talk"=true) (k41:PySem.W.keepIn K (.ref Dv)=true)
  {zL:Addr} {od_42 an_42:Option Addr} {sl_42:Array (Option Value)} {oc_42 kV_42 dc_42 pm_42 cd_42 ct_42:Value} (a42:PySem.W.nsIn K mainGlobals "_law_spoilt"=some (some (.ref zL))) (l42:K.lookup zL=some ⟨oc_42,od_42,.func (PySem.W.fnOf "_law_spoilt" "_law_spoilt" (cG jZ) (cD jZ) (aV jZ) .none kV_42 dc_42 pm_42 an_42 cd_42 ct_42),sl_42⟩) (c42:PySem.W.codeIn K cd_42 "_law_spoilt"=true) (k42:PySem.W.keepIn K (.ref zL)=true)
  {Bx:Addr} {od_43 an_43:Option Addr} {sl_43:Array (Option Value)} {oc_43 kV_43 dc_43 pm_43 cd_43 ct_43:Value} (a43:PySem.W.nsIn K mainGlobals "law"=some (some (.ref Bx))) (l43:K.lookup Bx=some ⟨oc_43,od_43,.func (PySem.W.fnOf "law" "law" (cG lQ) (cD lQ) (aV lQ) .none kV_43 dc_43 pm_43 an_43 cd_43 ct_43),sl_43⟩) (c43:PySem.W.codeIn K cd_43 "law"=true) (k43:PySem.W.keepIn K (.ref Bx)=true)
  {mE:Addr} {n_END_COUNTS:Nat} {t_END_COUNTS_0 u_END_COUNTS_0 t_END_COUNTS_1 u_END_COUNTS_1:Tok} (Mt:PySem.W.nsIn K mainGlobals "END_COUNTS"=some (some (.ref mE))) (Go:K.lookup mE=some ⟨.type "dict",none,.dict #[⟨PyData.keyHash w.params "point",.str "point" t_END_COUNTS_0,.int (1) u_END_COUNTS_0⟩,⟨PyData.keyHash w.params "stretch",.str "stretch" t_END_COUNTS_1,.int (2) u_END_COUNTS_1⟩] n_END_COUNTS,#[]⟩)  (y_END_COUNTS:(mE==sysModules)=false)
  {mT k_POINT_WORDS_0 r_POINT_WORDS_0 k_POINT_WORDS_1 r_POINT_WORDS_1 k_POINT_WORDS_2 r_POINT_WORDS_2:Addr} {n_POINT_WORDS:Nat} {tk_POINT_WORDS_0_0 tk_POINT_WORDS_0_1 tr_POINT_WORDS_0_0 tr_POINT_WORDS_0_1 tr_POINT_WORDS_0_2 tk_POINT_WORDS_1_0 tk_POINT_WORDS_1_1 tr_POINT_WORDS_1_0 tr_POINT_WORDS_1_1 tr_POINT_WORDS_1_2 tr_POINT_WORDS_1_3 tr_POINT_WORDS_1_4 tk_POINT_WORDS_2_0 tk_POINT_WORDS_2_1 tr_POINT_WORDS_2_0 tr_POINT_WORDS_2_1 tr_POINT_WORDS_2_2 tr_POINT_WORDS_2_3 tr_POINT_WORDS_2_4:Tok} (Rn:PySem.W.nsIn K mainGlobals "POINT_WORDS"=some (some (.ref mT))) (Pz:K.lookup mT=some ⟨.type "dict",none,.dict #[⟨reduceHash (Builtin.Tuple.tupleHashOf [PyData.keyHash w.params "point",PyData.keyHash w.params "point"]),.ref k_POINT_WORDS_0,.ref r_POINT_WORDS_0⟩,⟨reduceHash (Builtin.Tuple.tupleHashOf [PyData.keyHash w.params "point",PyData.keyHash w.params "stretch"]),.ref k_POINT_WORDS_1,.ref r_POINT_WORDS_1⟩,⟨reduceHash (Builtin.Tuple.tupleHashOf [PyData.keyHash w.params "stretch",PyData.keyHash w.params "point"]),.ref k_POINT_WORDS_2,.ref r_POINT_WORDS_2⟩] n_POINT_WORDS,#[]⟩) {nk_POINT_WORDS_0:Nat} {slk_POINT_WORDS_0:Array (Option Value)} (lk_POINT_WORDS_0:K.lookup k_POINT_WORDS_0=some ⟨.type "tuple",none,.seq #[.str "point" tk_POINT_WORDS_0_0,.str "point" tk_POINT_WORDS_0_1] nk_POINT_WORDS_0,slk_POINT_WORDS_0⟩) {nr_POINT_WORDS_0:Nat} {slr_POINT_WORDS_0:Array (Option Value)} (lr_POINT_WORDS_0:K.lookup r_POINT_WORDS_0=some ⟨.type "tuple",none,.seq #[.str "ahead" tr_POINT_WORDS_0_0,.str "same" tr_POINT_WORDS_0_1,.str "behind" tr_POINT_WORDS_0_2] nr_POINT_WORDS_0,slr_POINT_WORDS_0⟩) {nk_POINT_WORDS_1:Nat} {slk_POINT_WORDS_1:Array (Option Value)} (lk_POINT_WORDS_1:K.lookup k_POINT_WORDS_1=some ⟨.type "tuple",none,.seq #[.str "point" tk_POINT_WORDS_1_0,.str "stretch" tk_POINT_WORDS_1_1] nk_POINT_WORDS_1,slk_POINT_WORDS_1⟩) {nr_POINT_WORDS_1:Nat} {slr_POINT_WORDS_1:Array (Option Value)} (lr_POINT_WORDS_1:K.lookup r_POINT_WORDS_1=some ⟨.type "tuple",none,.seq #[.str "ahead" tr_POINT_WORDS_1_0,.str "begins" tr_POINT_WORDS_1_1,.str "within" tr_POINT_WORDS_1_2,.str "ends" tr_POINT_WORDS_1_3,.str "behind" tr_POINT_WORDS_1_4] nr_POINT_WORDS_1,slr_POINT_WORDS_1⟩) {nk_POINT_WORDS_2:Nat} {slk_POINT_WORDS_2:Array (Option Value)} (lk_POINT_WORDS_2:K.lookup k_POINT_WORDS_2=some ⟨.type "tuple",none,.seq #[.str "stretch" tk_POINT_WORDS_2_0,.str "point" tk_POINT_WORDS_2_1] nk_POINT_WORDS_2,slk_POINT_WORDS_2⟩) {nr_POINT_WORDS_2:Nat} {slr_POINT_WORDS_2:Array (Option Value)} (lr_POINT_WORDS_2:K.lookup r_POINT_WORDS_2=some ⟨.type "tuple",none,.seq #[.str "ahead" tr_POINT_WORDS_2_0,.str "ended" tr_POINT_WORDS_2_1,.str "holds" tr_POINT_WORDS_2_2,.str "begun" tr_POINT_WORDS_2_3,.str "behind" tr_POINT_WORDS_2_4] nr_POINT_WORDS_2,slr_POINT_WORDS_2⟩) (y_POINT_WORDS:(mT==sysModules)=false)
  {Ct:Tok} (Qb:PySem.W.nsIn K mainGlobals "LONGEST_NAME"=some (some (.int (8) Ct)))
  {Dz:Tok} (Ri:PySem.W.nsIn K mainGlobals "LETTERS"=some (some (.str "abcdefghijklmnopqrstuvwxyz" Dz)))
  {Fw:Tok} (Pa:PySem.W.nsIn K mainGlobals "MOST_THINGS"=some (some (.int (6) Fw)))
  {Ep:Tok} (Hx:PySem.W.nsIn K mainGlobals "MOST_SAYINGS"=some (some (.int (24) Ep)))
  {nV:Addr} {n_ORDER:Nat} {sl_ORDER:Array (Option Value)} {t_ORDER_0 t_ORDER_1 t_ORDER_2 t_ORDER_3 t_ORDER_4 t_ORDER_5 t_ORDER_6 t_ORDER_7 t_ORDER_8 t_ORDER_9 t_ORDER_10 t_ORDER_11 t_ORDER_12:Tok} (Km:PySem.W.nsIn K mainGlobals "ORDER"=some (some (.ref nV))) (Qy:K.lookup nV=some ⟨.type "tuple",none,.seq #[.str "ahead" t_ORDER_0,.str "meets" t_ORDER_1,.str "overlaps" t_ORDER_2,.str "begins" t_ORDER_3,.str "within" t_ORDER_4,.str "ends" t_ORDER_5,.str "same" t_ORDER_6,.str "ended" t_ORDER_7,.str "holds" t_ORDER_8,.str "begun" t_ORDER_9,.str "lapped" t_ORDER_10,.str "met" t_ORDER_11,.str "behind" t_ORDER_12] n_ORDER,sl_ORDER⟩)
  (z_isinstance:PySem.W.nsIn K mainGlobals "isinstance"=some none)
  (z_int:PySem.W.nsIn K mainGlobals "int"=some none)
  (z_bool:PySem.W.nsIn K mainGlobals "bool"=some none)
  (z_abs:PySem.W.nsIn K mainGlobals "abs"=some none)
  (z_tuple:PySem.W.nsIn K mainGlobals "tuple"=some none)
  (z_len:PySem.W.nsIn K mainGlobals "len"=some none)
  (z_str:PySem.W.nsIn K mainGlobals "str"=some none)
  (z_all:PySem.W.nsIn K mainGlobals "all"=some none)
  (z_sorted:PySem.W.nsIn K mainGlobals "sorted"=some none)
  (z_set:PySem.W.nsIn K mainGlobals "set"=some none)
  (z_dict:PySem.W.nsIn K mainGlobals "dict"=some none)
  (z_range:PySem.W.nsIn K mainGlobals "range"=some none)
  (z_max:PySem.W.nsIn K mainGlobals "max"=some none)
  (z_list:PySem.W.nsIn K mainGlobals "list"=some none)
  (z_repr:PySem.W.nsIn K mainGlobals "repr"=some none)
  : ∃ fd:FuncData,(∀ (s:Shared) (v:Value),BindsTo s fd ⟨[v],[]⟩ [("_law_script",v)])/\∀ base:Heap,K.In base->base.Ns mainGlobals mg->FnOk l.prog w K mg base aQ 8 fa fd ["_law_script"] (LSp K 1 tW):=by
 have e:=hfa.symm.trans (PySem.W.mg_of X G a43)
 cases e
 have jK:=cP (st:=mP) l0 c0 k0
 have qB:=(jK).binds (ps:=lE) fun _ _ _ _ _ _ us hl=>gX (by intros;rfl) us hl
 have oF:=PySem.W.mg_of X G a0
 have rM:=cP (st:=oX) l1 c1 k1
 have Hr:=(rM).binds (ps:=rS) fun _ _ _ _ _ _ us hl=>eS (by intros;rfl) us hl
 have Ng:=PySem.W.mg_of X G a1
 have sG:=cP (st:=oN) l2 c2 k2
 have Kz:=(sG).binds (ps:=rY) fun _ _ _ _ _ _ us hl=>gX (by intros;rfl) us hl
 have Rb:=PySem.W.mg_of X G a2
 have sK:=cP (st:=qC) l3 c3 k3
 have Ip:=(sK).binds (ps:=oV) fun _ _ _ _ _ _ us hl=>gX (by intros;rfl) us hl
 have Pn:=PySem.W.mg_of X G a3
 have pL:=cP (st:=oI) l4 c4 k4
 have Ky:=(pL).binds (ps:=sY) fun _ _ _ _ _ _ us hl=>eS (by intros;rfl) us hl
 have Om:=PySem.W.mg_of X G a4
 have qE:=cP (st:=nY) l5 c5 k5
 have Jc:=(qE).binds (ps:=nS) fun _ _ _ _ _ _ us hl=>gX (by intros;rfl) us hl
 have Iu:=PySem.W.mg_of X G a5
 have pI:=cP (st:=qS) l6 c6 k6
 have Ni:=(pI).binds (ps:=rC) fun _ _ _ _ _ _ us hl=>gX (by intros;rfl) us hl
 have Oo:=PySem.W.mg_of X G a6
 have nN:=cP (st:=rR) l7 c7 k7
 have Mc:=(nN).binds (ps:=rT) fun _ _ _ _ _ _ us hl=>gX (by intros;rfl) us hl
 have Ia:=PySem.W.mg_of X G a7
 have kI:=cP (st:=nD) l8 c8 k8
 have vK:=(kI).binds (ps:=lR) fun _ _ _ _ _ _ us hl=>gX (by intros;rfl) us hl
 have uS:=PySem.W.mg_of X G a8
 have sR:=cP (st:=oJ) l9 c9 k9
 have Iv:=(sR).binds (ps:=rD) fun _ _ _ _ _ _ us hl=>vL (by intros;rfl) us hl
 have Hm:=PySem.W.mg_of X G a9
 have pF:=cP (st:=pQ) l10 c10 k10
 have Ko:=(pF).binds (ps:=nU) fun _ _ _ _ _ _ us hl=>vL (by intros;rfl) us hl
 have Nu:=PySem.W.mg_of X G a10
 have sA:=cP (st:=tE) l11 c11 k11
 have Lp:=(sA).binds (ps:=qG) fun _ _ _ _ _ _ us hl=>gX (by intros;rfl) us hl
 have Jk:=PySem.W.mg_of X G a11
 have nL:=cP (st:=sD) l12 c12 k12
 have Cs:=(nL).binds (ps:=sP) fun _ _ _ _ _ _ us hl=>eS (by intros;rfl) us hl
 have Ex:=PySem.W.mg_of X G a12
 have qH:=cP (st:=oH) l13 c13 k13
 have Mw:=(qH).binds (ps:=sJ) fun _ _ _ _ _ _ us hl=>eS (by intros;rfl) us hl
 have Pi:=PySem.W.mg_of X G a13
 have qZ:=cP (st:=pW) l14 c14 k14
 have Gs:=(qZ).binds (ps:=sN) fun _ _ _ _ _ _ us hl=>eS (by intros;rfl) us hl
 have Hw:=PySem.W.mg_of X G a14
 have qQ:=cP (st:=oB) l15 c15 k15
 have Hc:=(qQ).binds (ps:=pU) fun _ _ _ _ _ _ us hl=>eS (by intros;rfl) us hl
 have Pr:=PySem.W.mg_of X G a15
 have sV:=cP (st:=pC) l16 c16 k16
 have Ka:=(sV).binds (ps:=nP) fun _ _ _ _ _ _ us hl=>gX (by intros;rfl) us hl
 have Hq:=PySem.W.mg_of X G a16
 have rL:=cP (st:=pG) l17 c17 k17
 have Jn:=(rL).binds (ps:=rQ) fun _ _ _ _ _ _ us hl=>eS (by intros;rfl) us hl
 have Og:=PySem.W.mg_of X G a17
 have bJ:=cP (st:=fF) l18 c18 k18
 have bO:=(bJ).binds (ps:=dW) fun _ _ _ _ _ _ us hl=>eS (by intros;rfl) us hl
 have bM:=PySem.W.mg_of X G a18
 have fP:=cP (st:=lG) l19 c19 k19
 have iQ:=(fP).binds (ps:=jV) fun _ _ _ _ _ _ us hl=>eS (by intros;rfl) us hl
 have iP:=PySem.W.mg_of X G a19
 have iU:=cP (st:=nR) l20 c20 k20
 have mX:=(iU).binds (ps:=rB) fun _ _ _ _ _ _ us hl=>eS (by intros;rfl) us hl
 have mS:=PySem.W.mg_of X G a20
 have pY:=cP (st:=rO) l21 c21 k21
 have Gv:=(pY).binds (ps:=qM) fun _ _ _ _ _ _ us hl=>eS (by intros;rfl) us hl
 have Mp:=PySem.W.mg_of X G a21
 have iM:=cP (st:=lV) l22 c22 k22
 have lF:=(iM).binds (ps:=jI) fun _ _ _ _ _ _ us hl=>gX (by intros;rfl) us hl
 have lD:=PySem.W.mg_of X G a22
 have pZ:=cP (st:=qT) l23 c23 k23
 have Pl:=(pZ).binds (ps:=oP) fun _ _ _ _ _ _ us hl=>eS (by intros;rfl) us hl
 have No:=PySem.W.mg_of X G a23
 have sM:=cP (st:=oZ) l24 c24 k24
 have Mi:=(sM).binds (ps:=rH) fun _ _ _ _ _ _ us hl=>eS (by intros;rfl) us hl
 have Jh:=PySem.W.mg_of X G a24
 have oD:=cP (st:=pE) l25 c25 k25
 have My:=(oD).binds (ps:=rW) fun _ _ _ _ _ _ us hl=>eS (by intros;rfl) us hl
 have Gr:=PySem.W.mg_of X G a25
 have qA:=cP (st:=rE) l26 c26 k26
 have Ow:=(qA).binds (ps:=qW) fun _ _ _ _ _ _ us hl=>eS (by intros;rfl) us hl
 have Ic:=PySem.W.mg_of X G a26
 have qL:=cP (st:=pK) l27 c27 k27
 have Mq:=(qL).binds (ps:=oY) fun _ _ _ _ _ _ us hl=>JW (by intros;rfl) us hl
 have Na:=PySem.W.mg_of X G a27
 have sX:=cP (st:=pP) l28 c28 k28
 have Jo:=(sX).binds (ps:=qO) fun _ _ _ _ _ _ us hl=>eS (by intros;rfl) us hl
 have Jq:=PySem.W.mg_of X G a28
 have iC:=cP (st:=kZ) l29 c29 k29
 have lK:=(iC).binds (ps:=jS) fun _ _ _ _ _ _ us hl=>gX (by intros;rfl) us hl
 have lU:=PySem.W.mg_of X G a29
 have nG:=cP (st:=pR) l30 c30 k30
 have Dw:=(nG).binds (ps:=pO) fun _ _ _ _ _ _ us hl=>vL (by intros;rfl) us hl
 have Fv:=PySem.W.mg_of X G a30
 have oE:=cP (st:=rG) l31 c31 k31
 have Nj:=(oE).binds (ps:=rX) fun _ _ _ _ _ _ us hl=>vL (by intros;rfl) us hl
 have Jb:=PySem.W.mg_of X G a31
 have rP:=cP (st:=pJ) l32 c32 k32
 have Mv:=(rP).binds (ps:=oT) fun _ _ _ _ _ _ us hl=>vL (by intros;rfl) us hl
 have Oz:=PySem.W.mg_of X G a32
 have oA:=cP (st:=nX) l33 c33 k33
 have Gz:=(oA).binds (ps:=sF) fun _ _ _ _ _ _ us hl=>WI (by intros;rfl) us hl
 have Jz:=PySem.W.mg_of X G a33
 have mD:=cP (st:=pM) l34 c34 k34
 have Cj:=(mD).binds (ps:=sQ) fun _ _ _ _ _ _ us hl=>eS (by intros;rfl) us hl
 have Fy:=PySem.W.mg_of X G a34
 have sU:=cP (st:=pS) l35 c35 k35
 have Lj:=(sU).binds (ps:=sC) fun _ _ _ _ _ _ us hl=>eS (by intros;rfl) us hl
 have Rs:=PySem.W.mg_of X G a35
 have sI:=cP (st:=rA) l36 c36 k36
 have Hh:=(sI).binds (ps:=qD) fun _ _ _ _ _ _ us hl=>eS (by intros;rfl) us hl
 have Qk:=PySem.W.mg_of X G a36
 have pA:=cP (st:=oW) l37 c37 k37
 have Kd:=(pA).binds (ps:=qN) fun _ _ _ _ _ _ us hl=>eS (by intros;rfl) us hl
 have Rm:=PySem.W.mg_of X G a37
 have qP:=cP (st:=sW) l38 c38 k38
 have Pw:=(qP).binds (ps:=pX) fun _ _ _ _ _ _ us hl=>vL (by intros;rfl) us hl
 have Qr:=PySem.W.mg_of X G a38
 have nT:=cP (st:=qV) l39 c39 k39
 have Qc:=(nT).binds (ps:=oR) fun _ _ _ _ _ _ us hl=>gX (by intros;rfl) us hl
 have Gu:=PySem.W.mg_of X G a39
 have rK:=cP (st:=qK) l40 c40 k40
 have Jd:=(rK).binds (ps:=rZ) fun _ _ _ _ _ _ us hl=>gX (by intros;rfl) us hl
 have Qw:=PySem.W.mg_of X G a40
 have qR:=cP (st:=rV) l41 c41 k41
 have Rc:=(qR).binds (ps:=oO) fun _ _ _ _ _ _ us hl=>gX (by intros;rfl) us hl
 have Py:=PySem.W.mg_of X G a41
 have iY:=cP (st:=jZ) l42 c42 k42
 have kN:=(iY).binds (ps:=fU) fun _ _ _ _ _ _ us hl=>eS (by intros;rfl) us hl
 have kM:=PySem.W.mg_of X G a42
 have Ig:=cP (st:=lQ) l43 c43 k43
 have Lw:=PySem.W.mg_of X G Rn
 have Kk_POINT_WORDS_0:KT K k_POINT_WORDS_0 ["point","point"]:=⟨_,_,_,lk_POINT_WORDS_0,rfl,rfl,rfl,by show 2<=sizeLine;rw[sizeLine_eq];decide,.cons ⟨_,rfl⟩ (.cons ⟨_,rfl⟩ (.nil))⟩
 have Kr_POINT_WORDS_0:KT K r_POINT_WORDS_0 ["ahead","same","behind"]:=⟨_,_,_,lr_POINT_WORDS_0,rfl,rfl,rfl,by show 3<=sizeLine;rw[sizeLine_eq];decide,.cons ⟨_,rfl⟩ (.cons ⟨_,rfl⟩ (.cons ⟨_,rfl⟩ (.nil)))⟩
 have Kk_POINT_WORDS_1:KT K k_POINT_WORDS_1 ["point","stretch"]:=⟨_,_,_,lk_POINT_WORDS_1,rfl,rfl,rfl,by show 2<=sizeLine;rw[sizeLine_eq];decide,.cons ⟨_,rfl⟩ (.cons ⟨_,rfl⟩ (.nil))⟩
 have Kr_POINT_WORDS_1:KT K r_POINT_WORDS_1 ["ahead","begins","within","ends","behind"]:=⟨_,_,_,lr_POINT_WORDS_1,rfl,rfl,rfl,by show 5<=sizeLine;rw[sizeLine_eq];decide,.cons ⟨_,rfl⟩ (.cons ⟨_,rfl⟩ (.cons ⟨_,rfl⟩ (.cons ⟨_,rfl⟩ (.cons ⟨_,rfl⟩ (.nil)))))⟩
 have Kk_POINT_WORDS_2:KT K k_POINT_WORDS_2 ["stretch","point"]:=⟨_,_,_,lk_POINT_WORDS_2,rfl,rfl,rfl,by show 2<=sizeLine;rw[sizeLine_eq];decide,.cons ⟨_,rfl⟩ (.cons ⟨_,rfl⟩ (.nil))⟩
 have Kr_POINT_WORDS_2:KT K r_POINT_WORDS_2 ["ahead","ended","holds","begun","behind"]:=⟨_,_,_,lr_POINT_WORDS_2,rfl,rfl,rfl,by show 5<=sizeLine;rw[sizeLine_eq];decide,.cons ⟨_,rfl⟩ (.cons ⟨_,rfl⟩ (.cons ⟨_,rfl⟩ (.cons ⟨_,rfl⟩ (.cons ⟨_,rfl⟩ (.nil)))))⟩
 have Rj:Dl K w mT Nh:=⟨[(["point","point"],k_POINT_WORDS_0,.ref r_POINT_WORDS_0),(["point","stretch"],k_POINT_WORDS_1,.ref r_POINT_WORDS_1),(["stretch","point"],k_POINT_WORDS_2,.ref r_POINT_WORDS_2)],⟨_,_,_,Pz,rfl,rfl,rfl,rfl,⟨rfl,rfl,rfl,Kk_POINT_WORDS_0,⟨rfl,rfl,rfl,Kk_POINT_WORDS_1,⟨rfl,rfl,rfl,Kk_POINT_WORDS_2,True.intro⟩⟩⟩,by show List.Nodup ([["point","point"],["point","stretch"],["stretch","point"]]:List (List Str));decide +kernel,y_POINT_WORDS⟩,fun Z m H=>⟨_,_,rfl,KT.rp Kr_POINT_WORDS_0,⟨_,_,rfl,KT.rp Kr_POINT_WORDS_1,⟨_,_,rfl,KT.rp Kr_POINT_WORDS_2,rfl⟩⟩⟩⟩
 have Ot:=PySem.W.mg_of X G Km
 have Ir:KT K nV ["ahead","meets","overlaps","begins","within","ends","same","ended","holds","begun","lapped","met","behind"]:=⟨_,_,_,Qy,rfl,rfl,rfl,by show 13<=sizeLine;rw[sizeLine_eq];decide,.cons ⟨_,rfl⟩ (.cons ⟨_,rfl⟩ (.cons ⟨_,rfl⟩ (.cons ⟨_,rfl⟩ (.cons ⟨_,rfl⟩ (.cons ⟨_,rfl⟩ (.cons ⟨_,rfl⟩ (.cons ⟨_,rfl⟩ (.cons ⟨_,rfl⟩ (.cons ⟨_,rfl⟩ (.cons ⟨_,rfl⟩ (.cons ⟨_,rfl⟩ (.cons ⟨_,rfl⟩ (.nil)))))))))))))⟩
 have Qq:=PySem.W.mg_of X G Qb
 have Rt:=PySem.W.mg_of X G Ri
 have Oq:=PySem.W.mg_of X G Pa
 have Hg:=PySem.W.mg_of X G Mt
 have Jw:KD K w mE wP:=⟨[("point",.int (1)),("stretch",.int (2))],⟨_,_,_,Go,rfl,rfl,rfl,rfl,⟨rfl,⟨_,rfl⟩,⟨_,rfl⟩,⟨rfl,⟨_,rfl⟩,⟨_,rfl⟩,True.intro⟩⟩,by show List.Nodup (["point","stretch"]:List Str);decide +kernel,y_END_COUNTS⟩,fun Z m H=>⟨_,_,rfl,by simp only[RP],⟨_,_,rfl,by simp only[RP],rfl⟩⟩⟩
 have Ik:=PySem.W.mg_of X G Hx
 have bD:=PySem.W.mg_none_of X G z_isinstance
 have eU:=PySem.W.mg_none_of X G z_int
 have eV:=PySem.W.mg_none_of X G z_bool
 have lJ:=PySem.W.mg_none_of X G z_abs
 have bK:=PySem.W.mg_none_of X G z_tuple
 have aX:=PySem.W.mg_none_of X G z_len
 have dY:=PySem.W.mg_none_of X G z_str
 have lZ:=PySem.W.mg_none_of X G z_all
 have uF:=PySem.W.mg_none_of X G z_sorted
 have Pb:=PySem.W.mg_none_of X G z_set
 have uD:=PySem.W.mg_none_of X G z_dict
 have eK:=PySem.W.mg_none_of X G z_range
 have Qi:=PySem.W.mg_none_of X G z_max
 have gD:=PySem.W.mg_none_of X G z_list
 have Fh:=PySem.W.mg_none_of X G z_repr
 refine⟨PySem.W.fnOf "law" "law" (cG lQ) (cD lQ) (aV lQ) .none kV_43 dc_43 pm_43 an_43 cd_43 ct_43,fun s v=>.of_eq rfl,fun base _ _=>?_⟩;have Nw:=d6 (P:=l.prog) (w:=w) (mg:=mg) (base:=base) rL aX Qi QM
 have bN:=PP (P:=l.prog) (w:=w) (mg:=mg) (base:=base) bJ GD
 have Mk:=Y4 (P:=l.prog) (w:=w) (mg:=mg) (base:=base) pZ bJ bO bM bN eK aX uF PH
 have Ou:=S6 (P:=l.prog) (w:=w) (mg:=mg) (base:=base) sM bJ bO bM bN eK bK b7
 have Nx:=RZ (P:=l.prog) (w:=w) (mg:=mg) (base:=base) oD pZ Pl No Mk bJ bO bM bN sM Mi Jh Ou aX bK eK KF
 have lP:=OA (P:=l.prog) (w:=w) (mg:=mg) (base:=base) iC CN
 have nM:=SO (P:=l.prog) (w:=w) (mg:=mg) (base:=base) iU eU OT
 have Gn:=VU (P:=l.prog) (w:=w) (mg:=mg) (base:=base) pY iU mX mS nM bD bK NU
 have lC:=BO (P:=l.prog) (w:=w) (mg:=mg) (base:=base) iM X2
 have Hb:=OH (P:=l.prog) (w:=w) (mg:=mg) (base:=base) qA iM lF lD lC bJ bO bM bN aX bK DY
 have Qz:=EI (P:=l.prog) (w:=w) (mg:=mg) (base:=base) oE bJ bO bM bN pY Gv Mp Gn qA Ow Ic Hb iM lF lD lC aX bK SW
 have Ek:=JG (P:=l.prog) (w:=w) (mg:=mg) (base:=base) nG eK aX SG
 have jD:=IA (P:=l.prog) (w:=w) (mg:=mg) (base:=base) fP lJ V5
 have Pp:=j3 (P:=l.prog) (w:=w) (mg:=mg) (base:=base) rP iC lK lU lP bJ bO bM bN nG Dw Fv Ek fP iQ iP jD aX lJ BS
 have Ki:=GN (P:=l.prog) (w:=w) (mg:=mg) (base:=base) oA iC lK lU lP bJ bO bM bN oE Nj Jb Qz rP Mv Oz Pp aX eK bK QK
 have Ra:=Y7 (P:=l.prog) (w:=w) (mg:=mg) (base:=base) qL fP iQ iP jD bJ bO bM bN QR
 have Mr:=NW (P:=l.prog) (w:=w) (mg:=mg) (base:=base) sX bJ bO bM bN qL Mq Na Ra bK AA
 have Mj:=RN (P:=l.prog) (w:=w) (mg:=mg) (base:=base) qP bJ bO bM bN aX bD bK gD w6
 have Hu:=RF (P:=l.prog) (w:=w) (mg:=mg) (base:=base) qE Qq Rt bD dY aX lZ EV
 have Ob:=RH (P:=l.prog) (w:=w) (mg:=mg) (base:=base) pI qE Jc Iu Hu bD bK aX EC
 have uP:=JO (P:=l.prog) (w:=w) (mg:=mg) (base:=base) kI QX
 have Im:=Q8 (P:=l.prog) (w:=w) (mg:=mg) (base:=base) nN pI Ni Oo Ob kI vK uS uP Oq bD bK aX lZ uF Pb JJ
 have Ke:=VS (P:=l.prog) (w:=w) (mg:=mg) (base:=base) pF kI vK uS uP TF
 have Gm:=VP (P:=l.prog) (w:=w) (mg:=mg) (base:=base) sK Lw Rj Ot Ir j7
 have Op:=VW (P:=l.prog) (w:=w) (mg:=mg) (base:=base) pL sK Ip Pn Gm bD bK JK
 have Rp:=OR (P:=l.prog) (w:=w) (mg:=mg) (base:=base) sR uD HB
 have Mx:=SJ (P:=l.prog) (w:=w) (mg:=mg) (base:=base) qH pF Ko Nu Ke pL Ky Om Op sR Iv Hm Rp aX VG
 have sB:=UM (P:=l.prog) (w:=w) (mg:=mg) (base:=base) jK bD eU eV U9
 have Pk:=EX (P:=l.prog) (w:=w) (mg:=mg) (base:=base) sA Hg Jw eK Y1
 have Dm:=v7 (P:=l.prog) (w:=w) (mg:=mg) (base:=base) nL jK qB oF sB sA Lp Jk Pk bD bK aX t9
 have Lr:=WQ (P:=l.prog) (w:=w) (mg:=mg) (base:=base) rM lJ Y6
 have Ny:=WG (P:=l.prog) (w:=w) (mg:=mg) (base:=base) sG jK qB oF sB rM Hr Ng Lr bD bK aX GH
 have Ml:=KW (P:=l.prog) (w:=w) (mg:=mg) (base:=base) qZ nL Cs Ex Dm sG Kz Rb Ny aX bD eV JA
 have Lf:=KR (P:=l.prog) (w:=w) (mg:=mg) (base:=base) qQ qH Mw Pi Mx qZ Gs Hw Ml bD bK QL
 have Gy:=UW (P:=l.prog) (w:=w) (mg:=mg) (base:=base) sV nN Mc Ia Im qQ Hc Pr Lf Ik bD bK aX lZ HH
 have Qh:=P8 (P:=l.prog) (w:=w) (mg:=mg) (base:=base) nT bD dY aX y7
 have Ll:=LR (P:=l.prog) (w:=w) (mg:=mg) (base:=base) rK nT Qc Gu Qh bD bK aX dY Z8
 have Qf:=j0 (P:=l.prog) (w:=w) (mg:=mg) (base:=base) sU iM lF lD lC uD aX bD dY bK WR
 have Fx:=TC (P:=l.prog) (w:=w) (mg:=mg) (base:=base) mD iC lK lU lP bD bK aX dY eU eV n4
 have Js:=RK (P:=l.prog) (w:=w) (mg:=mg) (base:=base) sI mD Cj Fy Fx fP iQ iP jD aX bD bK eV eU TZ
 have Ma:=DQ (P:=l.prog) (w:=w) (mg:=mg) (base:=base) pA sU Lj Rs Qf sI Hh Qk Js bD bK aX dY VE
 have Pm:=Z7 (P:=l.prog) (w:=w) (mg:=mg) (base:=base) qR rK Jd Qw Ll pA Kd Rm Ma bD bK aX j8
 have NS:FnOk l.prog w K mg base aQ (0+2) zL (PySem.W.fnOf "_law_spoilt" "_law_spoilt" (cG jZ) (cD jZ) (aV jZ) .none kV_42 dc_42 pm_42 an_42 cd_42 ct_42) fU (LSp K 2 (hZ 0)):=LP fun _ _ _ h=>h
 have UQ:=xW (j:=0) (P:=l.prog) (w:=w) (mg:=mg) (base:=base) iY bJ bO bM bN kN kM NS bD bK dY aX gD eV eU BA
 have P9:=xW (j:=1) (P:=l.prog) (w:=w) (mg:=mg) (base:=base) iY bJ bO bM bN kN kM UQ bD bK dY aX gD eV eU GZ
 have MV:=xW (j:=2) (P:=l.prog) (w:=w) (mg:=mg) (base:=base) iY bJ bO bM bN kN kM P9 bD bK dY aX gD eV eU MY
 have AL:=xW (j:=3) (P:=l.prog) (w:=w) (mg:=mg) (base:=base) iY bJ bO bM bN kN kM MV bD bK dY aX gD eV eU U4
 have Ac:=xW (j:=4) (P:=l.prog) (w:=w) (mg:=mg) (base:=base) iY bJ bO bM bN kN kM AL bD bK dY aX gD eV eU EG
 exact VO Ig rL Jn Og Nw oD My Gr Nx oA Gz Jz Ki bJ bO bM bN sX Jo Jq Mr qP Pw Qr Mj sV Ka Hq Gy qR Rc Py Pm iY kN kM Ac gD aX eK Fh FO
theorem walk{l:PySem.W.OpenLaw}{q:Program}{loose:List Str}{XP:(Str->Option Value)->Heap->Prop}{YP:World->Heap->Prop}{d:DefRec}{K:Params->PySem.W.Frag}(hn:l.most=some 63)(hdf:d.params.defaults=[])
  (hY:∀ (w:World) (h:Heap),YP w h->(K w.params).In h)
  (F:∀ (w:World) (mg:Str->Option Value) (fa:Addr) (h:Heap),(K w.params).In h->h.Ns mainGlobals mg->mg d.name=some (.ref fa) ->
   ∃ fd:FuncData,(∀ (s:Shared) (u:Value),BindsTo s fd ⟨[u],[]⟩ [("_law_script",u)])/\∀ base:Heap,(K w.params).In base->base.Ns mainGlobals mg->FnOk l.prog w (K w.params) mg base aQ 8 fa fd ["_law_script"] (LSp (K w.params) 1 tW)) :
  PySem.W.WalkO q loose XP YP l.row.toRowW d [] (fun f vs=>PySem.call f vs) :=
 L2.walk_of (n:=63) (k:=8) (x:="_law_script") (CX:=fun _=>aQ) (sp:=fun w=>LSp (K w.params) 1 tW) hn (by decide) hdf ⟨rfl,rfl,by decide,by decide⟩ hY F (fun _ _ a ns hl _ hS=>X9 hS ⟨ns,rfl,hl,fun _=>rfl⟩) fun _ _ _ _ _ z=>z
def OL(P:Params):Obj:=⟨Value.type "dict",none,Data.dict #[{hash:=reduceHash (Builtin.Tuple.tupleHashOf [PyData.keyHash P (Str.ofString "point"),PyData.keyHash P (Str.ofString "point")]),key:=Value.ref 38,val:=Value.ref 39},{hash:=reduceHash (Builtin.Tuple.tupleHashOf [PyData.keyHash P (Str.ofString "point"),PyData.keyHash P (Str.ofString "stretch")]),key:=Value.ref 40,val:=Value.ref 41},{hash:=reduceHash (Builtin.Tuple.tupleHashOf [PyData.keyHash P (Str.ofString "stretch"),PyData.keyHash P (Str.ofString "point")]),key:=Value.ref 42,val:=Value.ref 43}] 3,#[]⟩
def RJ(P:Params):Obj:=⟨Value.type "tuple",none,Data.seq #[Value.str (Str.ofString "point") 229,Value.str (Str.ofString "point") 230],#[]⟩
def FV(P:Params):Obj:=⟨Value.type "tuple",none,Data.seq #[Value.str (Str.ofString "ahead") 231,Value.str (Str.ofString "same") 232,Value.str (Str.ofString "behind") 233],#[]⟩
def BJ(P:Params):Obj:=⟨Value.type "tuple",none,Data.seq #[Value.str (Str.ofString "point") 234,Value.str (Str.ofString "stretch") 235],#[]⟩
def DB(P:Params):Obj:=⟨Value.type "tuple",none,Data.seq #[Value.str (Str.ofString "ahead") 236,Value.str (Str.ofString "begins") 237,Value.str (Str.ofString "within") 238,Value.str (Str.ofString "ends") 239,Value.str (Str.ofString "behind") 240],#[]⟩
def FW(P:Params):Obj:=⟨Value.type "tuple",none,Data.seq #[Value.str (Str.ofString "stretch") 241,Value.str (Str.ofString "point") 242],#[]⟩
def XJ(P:Params):Obj:=⟨Value.type "tuple",none,Data.seq #[Value.str (Str.ofString "ahead") 243,Value.str (Str.ofString "ended") 244,Value.str (Str.ofString "holds") 245,Value.str (Str.ofString "begun") 246,Value.str (Str.ofString "behind") 247],#[]⟩
noncomputable def kk(P:Params):PySem.W.Frag:=[(3,H15.o3 P),(20,H15.o20 P),(21,H15.o21 P),(27,H15.o27 P),(28,H15.o28 P),(34,H15.o34 P),(35,H15.o35 P),(36,H15.o36 P),(37,OL P),(38,RJ P),(39,FV P),(40,BJ P),(41,DB P),(42,FW P),(43,XJ P),(44,H15.o44 P),(50,H15.o50 P),(51,H15.o51 P),(57,H15.o57 P),(58,H15.o58 P),(62,H15.o62 P),(63,H15.o63 P),(69,H15.o69 P),(70,H15.o70 P),(74,H15.o74 P),(75,H15.o75 P),(79,H15.o79 P),(80,H15.o80 P),(86,H15.o86 P),(87,H15.o87 P),(93,H15.o93 P),(94,H15.o94 P),(98,H15.o98 P),(99,H15.o99 P),(105,H15.o105 P),(106,H15.o106 P),(112,H15.o112 P),(113,H15.o113 P),(119,H15.o119 P),(120,H15.o120 P),(126,H15.o126 P),(127,H15.o127 P),(131,H15.o131 P),(132,H15.o132 P),(138,H15.o138 P),(139,H15.o139 P),(145,H15.o145 P),(146,H15.o146 P),(152,H15.o152 P),(153,H15.o153 P),(159,H15.o159 P),(160,H15.o160 P),(166,H15.o166 P),(167,H15.o167 P),(173,H15.o173 P),(174,H15.o174 P),(178,H15.o178 P),(179,H15.o179 P),(183,H15.o183 P),(184,H15.o184 P),(188,H15.o188 P),(189,H15.o189 P),(193,H15.o193 P),(194,H15.o194 P),(200,H15.o200 P),(201,H15.o201 P),(205,H15.o205 P),(206,H15.o206 P),(212,H15.o212 P),(213,H15.o213 P),(219,H15.o219 P),(220,H15.o220 P),(224,H15.o224 P),(225,H15.o225 P),(231,H15.o231 P),(232,H15.o232 P),(238,H15.o238 P),(239,H15.o239 P),(245,H15.o245 P),(246,H15.o246 P),(252,H15.o252 P),(253,H15.o253 P),(259,H15.o259 P),(260,H15.o260 P),(266,H15.o266 P),(267,H15.o267 P),(273,H15.o273 P),(274,H15.o274 P),(278,H15.o278 P),(279,H15.o279 P),(285,H15.o285 P),(286,H15.o286 P),(290,H15.o290 P),(291,H15.o291 P),(297,H15.o297 P),(298,H15.o298 P),(302,H15.o302 P),(303,H15.o303 P)]
end K15
open PySem PySem.W PyProof.Rows
set_option maxRecDepth 100000 in
set_option maxHeartbeats 0 in
theorem PySem.Challenge.cw_whens_k15_talks_by_kind_holds : PySem.Challenge.rw_whens_k15_talks_by_kind.Holds := by
 w_on;o_law;refine H15.head (H:=kHook K15.kk [3,20,21,27,28,34,35,36,37,38,39,40,41,42,43,44,50,51,57,58,62,63,69,70,74,75,79,80,86,87,93,94,98,99,105,106,112,113,119,120,126,127,131,132,138,139,145,146,152,153,159,160,166,167,173,174,178,179,183,184,188,189,193,194,200,201,205,206,212,213,219,220,224,225,231,232,238,239,245,246,252,253,259,260,266,267,273,274,278,279,285,286,290,291,297,298,302,303] (fun _=>by kernel_rfl)) (fun w os=>by kernel_rfl) (by assumption) (by rfl) (by rfl) (by rfl) ?hw ?hc;(case hw=>w_witness2)
 k_fill
 refine K15.walk (l:=PySem.Challenge.rw_whens_k15_talks_by_kind) rfl rfl (fun w h Y=>PySem.W.kIn_of Y) ?F
 case F =>
  intro w mg fa h KX G hmg
  refine' K15.all_mk (Bl:=21) (Dx:=28) (Cq:=35) (Cr:=51) (Fd:=58) (Aw:=63) (Eo:=70) (Ey:=75) (Gh:=80) (Fs:=87) (Er:=94) (Ch:=99) (Eh:=106) (Ca:=113) (Dh:=120) (Bu:=127) (Bb:=132) (Dt:=139) (Fo:=146) (Cy:=153) (De:=160) (Ef:=167) (Az:=174) (Ec:=179) (Eu:=184) (Cw:=189) (Ed:=194) (Gj:=201) (Bw:=206) (Gf:=213) (Ck:=220) (Eb:=225) (Dq:=232) (Cv:=239) (Dp:=246) (Ej:=253) (Fg:=260) (Ff:=267) (Cp:=274) (Du:=279) (Ay:=286) (Dv:=291) (zL:=298) (Bx:=303) (mT:=37) (nV:=36) (mE:=44) (Ct:=286) (Dz:=284) (Fw:=288) (Ep:=351) KX G hmg ?a0 ?l0 ?c0 ?k0 ?a1 ?l1 ?c1 ?k1 ?a2 ?l2 ?c2 ?k2 ?a3 ?l3 ?c3 ?k3 ?a4 ?l4 ?c4 ?k4 ?a5 ?l5 ?c5 ?k5 ?a6 ?l6 ?c6 ?k6 ?a7 ?l7 ?c7 ?k7 ?a8 ?l8 ?c8 ?k8 ?a9 ?l9 ?c9 ?k9 ?a10 ?l10 ?c10 ?k10 ?a11 ?l11 ?c11 ?k11 ?a12 ?l12 ?c12 ?k12 ?a13 ?l13 ?c13 ?k13 ?a14 ?l14 ?c14 ?k14 ?a15 ?l15 ?c15 ?k15 ?a16 ?l16 ?c16 ?k16 ?a17 ?l17 ?c17 ?k17 ?a18 ?l18 ?c18 ?k18 ?a19 ?l19 ?c19 ?k19 ?a20 ?l20 ?c20 ?k20 ?a21 ?l21 ?c21 ?k21 ?a22 ?l22 ?c22 ?k22 ?a23 ?l23 ?c23 ?k23 ?a24 ?l24 ?c24 ?k24 ?a25 ?l25 ?c25 ?k25 ?a26 ?l26 ?c26 ?k26 ?a27 ?l27 ?c27 ?k27 ?a28 ?l28 ?c28 ?k28 ?a29 ?l29 ?c29 ?k29 ?a30 ?l30 ?c30 ?k30 ?a31 ?l31 ?c31 ?k31 ?a32 ?l32 ?c32 ?k32 ?a33 ?l33 ?c33 ?k33 ?a34 ?l34 ?c34 ?k34 ?a35 ?l35 ?c35 ?k35 ?a36 ?l36 ?c36 ?k36 ?a37 ?l37 ?c37 ?k37 ?a38 ?l38 ?c38 ?k38 ?a39 ?l39 ?c39 ?k39 ?a40 ?l40 ?c40 ?k40 ?a41 ?l41 ?c41 ?k41 ?a42 ?l42 ?c42 ?k42 ?a43 ?l43 ?c43 ?k43 ?Mt ?Go ?y_END_COUNTS ?Rn ?Pz ?lk_POINT_WORDS_0 ?lr_POINT_WORDS_0 ?lk_POINT_WORDS_1 ?lr_POINT_WORDS_1 ?lk_POINT_WORDS_2 ?lr_POINT_WORDS_2 ?y_POINT_WORDS ?Qb ?Ri ?Pa ?Hx ?Km ?Qy ?z_isinstance ?z_int ?z_bool ?z_abs ?z_tuple ?z_len ?z_str ?z_all ?z_sorted ?z_set ?z_dict ?z_range ?z_max ?z_list ?z_repr
  (case a0=>kernel_rfl)
  (case l0=>exact rfl)
  (case c0=>kernel_rfl)
  (case k0=>kernel_rfl)
  (case a1=>kernel_rfl)
  (case l1=>exact rfl)
  (case c1=>kernel_rfl)
  (case k1=>kernel_rfl)
  (case a2=>kernel_rfl)
  (case l2=>exact rfl)
  (case c2=>kernel_rfl)
  (case k2=>kernel_rfl)
  (case a3=>kernel_rfl)
  (case l3=>exact rfl)
  (case c3=>kernel_rfl)
  (case k3=>kernel_rfl)
  (case a4=>kernel_rfl)
  (case l4=>exact rfl)
  (case c4=>kernel_rfl)
  (case k4=>kernel_rfl)
  (case a5=>kernel_rfl)
  (case l5=>exact rfl)
  (case c5=>kernel_rfl)
  (case k5=>kernel_rfl)
  (case a6=>kernel_rfl)
  (case l6=>exact rfl)
  (case c6=>kernel_rfl)
  (case k6=>kernel_rfl)
  (case a7=>kernel_rfl)
  (case l7=>exact rfl)
  (case c7=>kernel_rfl)
  (case k7=>kernel_rfl)
  (case a8=>kernel_rfl)
  (case l8=>exact rfl)
  (case c8=>kernel_rfl)
  (case k8=>kernel_rfl)
  (case a9=>kernel_rfl)
  (case l9=>exact rfl)
  (case c9=>kernel_rfl)
  (case k9=>kernel_rfl)
  (case a10=>kernel_rfl)
  (case l10=>exact rfl)
  (case c10=>kernel_rfl)
  (case k10=>kernel_rfl)
  (case a11=>kernel_rfl)
  (case l11=>exact rfl)
  (case c11=>kernel_rfl)
  (case k11=>kernel_rfl)
  (case a12=>kernel_rfl)
  (case l12=>exact rfl)
  (case c12=>kernel_rfl)
  (case k12=>kernel_rfl)
  (case a13=>kernel_rfl)
  (case l13=>exact rfl)
  (case c13=>kernel_rfl)
  (case k13=>kernel_rfl)
  (case a14=>kernel_rfl)
  (case l14=>exact rfl)
  (case c14=>kernel_rfl)
  (case k14=>kernel_rfl)
  (case a15=>kernel_rfl)
  (case l15=>exact rfl)
  (case c15=>kernel_rfl)
  (case k15=>kernel_rfl)
  (case a16=>kernel_rfl)
  (case l16=>exact rfl)
  (case c16=>kernel_rfl)
  (case k16=>kernel_rfl)
  (case a17=>kernel_rfl)
  (case l17=>exact rfl)
  (case c17=>kernel_rfl)
  (case k17=>kernel_rfl)
  (case a18=>kernel_rfl)
  (case l18=>exact rfl)
  (case c18=>kernel_rfl)
  (case k18=>kernel_rfl)
  (case a19=>kernel_rfl)
  (case l19=>exact rfl)
  (case c19=>kernel_rfl)
  (case k19=>kernel_rfl)
  (case a20=>kernel_rfl)
  (case l20=>exact rfl)
  (case c20=>kernel_rfl)
  (case k20=>kernel_rfl)
  (case a21=>kernel_rfl)
  (case l21=>exact rfl)
  (case c21=>kernel_rfl)
  (case k21=>kernel_rfl)
  (case a22=>kernel_rfl)
  (case l22=>exact rfl)
  (case c22=>kernel_rfl)
  (case k22=>kernel_rfl)
  (case a23=>kernel_rfl)
  (case l23=>exact rfl)
  (case c23=>kernel_rfl)
  (case k23=>kernel_rfl)
  (case a24=>kernel_rfl)
  (case l24=>exact rfl)
  (case c24=>kernel_rfl)
  (case k24=>kernel_rfl)
  (case a25=>kernel_rfl)
  (case l25=>exact rfl)
  (case c25=>kernel_rfl)
  (case k25=>kernel_rfl)
  (case a26=>kernel_rfl)
  (case l26=>exact rfl)
  (case c26=>kernel_rfl)
  (case k26=>kernel_rfl)
  (case a27=>kernel_rfl)
  (case l27=>exact rfl)
  (case c27=>kernel_rfl)
  (case k27=>kernel_rfl)
  (case a28=>kernel_rfl)
  (case l28=>exact rfl)
  (case c28=>kernel_rfl)
  (case k28=>kernel_rfl)
  (case a29=>kernel_rfl)
  (case l29=>exact rfl)
  (case c29=>kernel_rfl)
  (case k29=>kernel_rfl)
  (case a30=>kernel_rfl)
  (case l30=>exact rfl)
  (case c30=>kernel_rfl)
  (case k30=>kernel_rfl)
  (case a31=>kernel_rfl)
  (case l31=>exact rfl)
  (case c31=>kernel_rfl)
  (case k31=>kernel_rfl)
  (case a32=>kernel_rfl)
  (case l32=>exact rfl)
  (case c32=>kernel_rfl)
  (case k32=>kernel_rfl)
  (case a33=>kernel_rfl)
  (case l33=>exact rfl)
  (case c33=>kernel_rfl)
  (case k33=>kernel_rfl)
  (case a34=>kernel_rfl)
  (case l34=>exact rfl)
  (case c34=>kernel_rfl)
  (case k34=>kernel_rfl)
  (case a35=>kernel_rfl)
  (case l35=>exact rfl)
  (case c35=>kernel_rfl)
  (case k35=>kernel_rfl)
  (case a36=>kernel_rfl)
  (case l36=>exact rfl)
  (case c36=>kernel_rfl)
  (case k36=>kernel_rfl)
  (case a37=>kernel_rfl)
  (case l37=>exact rfl)
  (case c37=>kernel_rfl)
  (case k37=>kernel_rfl)
  (case a38=>kernel_rfl)
  (case l38=>exact rfl)
  (case c38=>kernel_rfl)
  (case k38=>kernel_rfl)
  (case a39=>kernel_rfl)
  (case l39=>exact rfl)
  (case c39=>kernel_rfl)
  (case k39=>kernel_rfl)
  (case a40=>kernel_rfl)
  (case l40=>exact rfl)
  (case c40=>kernel_rfl)
  (case k40=>kernel_rfl)
  (case a41=>kernel_rfl)
  (case l41=>exact rfl)
  (case c41=>kernel_rfl)
  (case k41=>kernel_rfl)
  (case a42=>kernel_rfl)
  (case l42=>exact rfl)
  (case c42=>kernel_rfl)
  (case k42=>kernel_rfl)
  (case a43=>kernel_rfl)
  (case l43=>exact rfl)
  (case c43=>kernel_rfl)
  (case k43=>kernel_rfl)
  (case Mt=>kernel_rfl)
  (case Go=>exact rfl)
  (case y_END_COUNTS=>rfl)
  (case Rn=>kernel_rfl)
  (case Pz=>exact rfl)
  (case lk_POINT_WORDS_0=>exact rfl)
  (case lr_POINT_WORDS_0=>exact rfl)
  (case lk_POINT_WORDS_1=>exact rfl)
  (case lr_POINT_WORDS_1=>exact rfl)
  (case lk_POINT_WORDS_2=>exact rfl)
  (case lr_POINT_WORDS_2=>exact rfl)
  (case y_POINT_WORDS=>rfl)
  (case Qb=>kernel_rfl)
  (case Ri=>kernel_rfl)
  (case Pa=>kernel_rfl)
  (case Hx=>kernel_rfl)
  (case Km=>kernel_rfl)
  (case Qy=>exact rfl)
  (case z_isinstance=>kernel_rfl)
  (case z_int=>kernel_rfl)
  (case z_bool=>kernel_rfl)
  (case z_abs=>kernel_rfl)
  (case z_tuple=>kernel_rfl)
  (case z_len=>kernel_rfl)
  (case z_str=>kernel_rfl)
  (case z_all=>kernel_rfl)
  (case z_sorted=>kernel_rfl)
  (case z_set=>kernel_rfl)
  (case z_dict=>kernel_rfl)
  (case z_range=>kernel_rfl)
  (case z_max=>kernel_rfl)
  (case z_list=>kernel_rfl)
  (case z_repr=>kernel_rfl)
#print axioms PySem.Challenge.cw_whens_k15_talks_by_kind_holds
