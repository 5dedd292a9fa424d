import PyProof.Rows.All
import Wide.All
import OpenK.AllK
import Wide.FinOn
import Lean
import PyProof.EqAt
import PyProof.EqKinds
import PyProof.TupleCall
import PyProof.ListMulRoad
import KE.KRevIter
import PyProof.ZipIter
import PyProof.TupleIter
import PyProof.Rows.SortWalk
import PyProof.Rows.SortStr
import PyProof.Rows.StrWeight2
import PyProof.ConsumeWalk
import PyProof.SliceStr2
import PyProof.ListRange
import PyProof.TupleOfSeq
import PyProof.P3In
import PyProof.AttrMissHeap
import KE.KDictOf
import PyProof.StrBlockI
import PyProof.WalksEnum
import PyProof.EnumMake
import Open.Tops
import PyProof.DictDisplay
import PyProof.Rows.TupDisplay
import PySem.Challenge.RW_whens_k19_faults_and_rows_had
set_option Elab.async false
set_option linter.all false
set_option maxRecDepth 100000
set_option maxHeartbeats 4000000
namespace L2
open PySem PySem.Spec PyProof.Rows
abbrev Key:=Sum Int Str
def zau4:Key→Value→Bool
 | .inl k,v=>Value.isInt k v
 | .inr x,v=>Value.isStrOf x v
def keyH (w:World):Key→Int
 | .inl k=>hashInt k
 | .inr x=>hashStr w x
theorem zh9:∀ {k:Key} {v:Value},zau4 k v=true→(∃ i t,k=Sum.inl i∧v=Value.int i t)∨(∃ x t,k=Sum.inr x∧v=Value.str x t)
 | .inl i,v,h=>by
  obtain ⟨t,e⟩:=Value.isInt_shape (k:=i) (v:=v) h
  exact .inl ⟨i,t,rfl,e⟩
 | .inr x,v,h=>by
  obtain ⟨t,e⟩:=Value.isStrOf_shape (x:=x) (v:=v) h
  exact .inr ⟨x,t,rfl,e⟩
theorem zaz7 (i:Int) (t:Tok):zau4 (.inl i) (.int i t)=true:=by simp [zau4,Value.isInt]
theorem zay9 (x:Str) (t:Tok):zau4 (.inr x) (.str x t)=true:=by simp [zau4,Value.isStrOf]
theorem zaZ8 (a b:Int):decide ((Sum.inl a:Key)=Sum.inl b)=(a == b):=by
 by_cases e:a=b
 ·subst e; simp
 ·have h:¬ (Sum.inl a:Key)=Sum.inl b:=fun q=>e (Sum.inl.inj q)
  rw [decide_eq_false h]
  exact (beq_eq_false_iff_ne.mpr e).symm
theorem zbd5 (a b:Str):decide ((Sum.inr a:Key)=Sum.inr b)=decide (a=b):=by
 by_cases e:a=b
 ·subst e; simp
 ·have h:¬ (Sum.inr a:Key)=Sum.inr b:=fun q=>e (Sum.inr.inj q)
  rw [decide_eq_false h,decide_eq_false e]
theorem zaX4 (a:Int) (b:Str):decide ((Sum.inl a:Key)=Sum.inr b)=false:=decide_eq_false (fun q=>nomatch q)
theorem zaX6 (a:Str) (b:Int):decide ((Sum.inr a:Key)=Sum.inl b)=false:=decide_eq_false (fun q=>nomatch q)
def zd2 (prog:Program) (w:World):PySem.KeyKind prog w Key where
 is:=zau4
 hash:=keyH w
 inj:=fun v a b ha hb=>by
  rcases zh9 ha with ⟨i,t,rfl,rfl⟩ | ⟨x,t,rfl,rfl⟩
  ·rcases zh9 hb with ⟨j,u,rfl,e⟩ | ⟨y,u,rfl,e⟩
   ·injection e with e1 _; rw [e1]
   ·exact nomatch e
  ·rcases zh9 hb with ⟨j,u,rfl,e⟩ | ⟨y,u,rfl,e⟩
   ·exact nomatch e
   ·injection e with e1 _; rw [e1]
 byValue:=fun k v h=>by
  rcases zh9 h with ⟨i,t,rfl,rfl⟩ | ⟨x,t,rfl,rfl⟩ <;> rfl
 pyHash:=fun hv h=>by
  rcases zh9 hv with ⟨i,t,rfl,rfl⟩ | ⟨x,t,rfl,rfl⟩
  ·exact wpAny_pyHash_int h
  ·exact wpAny_pyHash_str h
 eqBool:=fun hu hv h=>by
  rcases zh9 hu with ⟨i,t,rfl,rfl⟩ | ⟨x,t,rfl,rfl⟩
  ·rcases zh9 hv with ⟨j,u,rfl,rfl⟩ | ⟨y,u,rfl,rfl⟩
   ·rw [zaZ8] at h; exact wpAny_eqBool_int h
   ·rw [zaX4] at h; exact SeqAt.EqAt.int_str i t y u _ _ _ _ h
  ·rcases zh9 hv with ⟨j,u,rfl,rfl⟩ | ⟨y,u,rfl,rfl⟩
   ·rw [zaX6] at h; exact SeqAt.EqAt.str_int x t j u _ _ _ _ h
   ·rw [zbd5] at h; exact wpAny_eqBool_str h
 «strs»:=fun k x t v h=>by
  rcases zh9 h with ⟨i,u,rfl,e⟩ | ⟨y,u,rfl,e⟩
  ·exact nomatch e
  ·injection e with e1 _
   subst e1
   cases v <;> rfl
theorem zak7 (prog:Program) (w:World) (i:Int) (t:Tok):(zd2 prog w).is (.inl i) (.int i t)=true:=zaz7 i t
theorem zam1 (prog:Program) (w:World) (x:Str) (t:Tok):(zd2 prog w).is (.inr x) (.str x t)=true:=zay9 x t
end L2
namespace L2
open PySem PySem.Spec PyProof.Rows
inductive V where
 | non | bl (b:Bool) | int (i:Int) | str (x:Str) | byt (b:Array UInt8) | flt (b:UInt64) | ref (a:Addr) | ty (n:String)
 deriving DecidableEq
def RelV:V→Value→Prop
 | .non,u=>u=Value.none
 | .bl b,u=>u=Value.bool b
 | .int i,u=>∃ t,u=Value.int i t
 | .str x,u=>∃ t,u=Value.str x t
 | .byt b,u=>∃ t,u=Value.bytes b t
 | .flt b,u=>∃ t,u=Value.float b t
 | .ref a,u=>u=Value.ref a
 | .ty n,u=>u=Value.type n
abbrev Vals:List V→List Value→Prop:=Paired RelV
theorem Vals.length {xs:List V} {us:List Value} (r:Vals xs us):xs.length=us.length:=Paired.length r
theorem Vals.get:∀ {xs:List V} {us:List Value} {i:Nat} {x:V},Vals xs us→xs[i]?=some x→∃ u,us[i]?=some u∧RelV x u
 | _,_,_,_,.nil,e=>by simp at e
 | _,_,0,_,.cons r _,e=>by simp at e; subst e; exact ⟨_,rfl,r⟩
 | _,_,i + 1,x,.cons _ t,e=>by
  obtain ⟨u,h1,h2⟩:=Vals.get (i:=i) (x:=x) t (by simpa using e)
  exact ⟨u,by simpa using h1,h2⟩
theorem Vals.set {x:V} {u:Value} (r:RelV x u):∀ {xs:List V} {us:List Value} (i:Nat),Vals xs us→Vals (xs.set i x) (us.set i u)
 | _,_,_,.nil=>.nil
 | _,_,0,.cons _ t=>.cons r t
 | _,_,i + 1,.cons q t=>.cons q (Vals.set r i t)
theorem Vals.append:∀ {xs ys:List V} {us ws:List Value},Vals xs us→Vals ys ws→Vals (xs++ys) (us++ws)
 | _,_,_,_,.nil,s=>s
 | _,_,_,_,.cons r t,s=>.cons r (Vals.append t s)
theorem Vals.take:∀ {xs:List V} {us:List Value} (n:Nat),Vals xs us→Vals (xs.take n) (us.take n)
 | _,_,0,_=>.nil
 | _,_,_ + 1,.nil=>.nil
 | _,_,n + 1,.cons r t=>.cons r (Vals.take n t)
theorem Vals.drop:∀ {xs:List V} {us:List Value} (n:Nat),Vals xs us→Vals (xs.drop n) (us.drop n)
 | _,_,0,r=>r
 | _,_,_ + 1,.nil=>.nil
 | _,_,n + 1,.cons _ t=>Vals.drop n t
def RelO:Option V→Option Value→Prop
 | some v,some u=>RelV v u
 | none,none=>True
 | _,_=>False
def KV {κ:Type}:List (κ×V)→List (κ×Value)→Prop:=Paired fun (p:κ×V) (q:κ×Value)=>p.1=q.1∧RelV p.2 q.2
def kV:Key→V
 | .inl i=>.int i
 | .inr x=>.str x
inductive HO where
 | lst (xs:List V)
 | tup (xs:List V)
 | dK (kvs:List (Key×V)) | dT (kvs:List (List Key×V))
 | set (S:Int→Bool) (n:Nat)
 | ins (C dx:Addr) (fs:List (Str×V))
 | own (x:Addr)
 | xd (fs:List (Str×V))
 | met (f x:Addr)
 | rng (lo hi:Int)
 | frz (o:Obj) (u:HO)
 | tbl (ps:Array Value)
 | ext (φ:Heap→Prop)
abbrev Hp:=Addr→Option HO
def upd (H:Hp) (a:Addr) (o:HO):Hp:=fun b=>if b=a then some o else H b
theorem zc5 {H:Hp} {a:Addr} {o:HO}:upd H a o a=some o:=by unfold upd; rw [if_pos rfl]
theorem zc9 {H:Hp} {a b:Addr} {o:HO} (h:b≠a):upd H a o b=H b:=by unfold upd; rw [if_neg h]
theorem zbk4 {H:Hp} {a b:Addr} {o u:HO} (h:H a=some o) (h':H b=some u) (d:o≠u):a≠b:=by
 intro e; subst e; rw [h] at h'; exact d (Option.some.inj h')
theorem zs2 {H:Hp} {a b:Addr} {o:HO} (h:H a=some o) (h':H b=none):a≠b:=by
 intro e; subst e; rw [h] at h'; cases h'
def NoD (h:Heap) (a:Addr):Prop:=∃ o,h.get? a=some o∧o.dict=none
theorem NoD.new (h:Heap) (c:Value) (d:Data) (hf:Obj.isFreed { cls:=c,data:=d }=false:=by rfl):NoD (h.push { cls:=c,data:=d }) h.objs.size:=⟨_,Heap.get?_push_size _ hf,rfl⟩
theorem NoD.keep {h h':Heap} {a:Addr} (x:NoD h a) (k:∀ o,h.get? a=some o→h'.get? a=some o):NoD h' a:=let ⟨o,e,d⟩:=x; ⟨o,k _ e,d⟩
section
variable (P:Program) (w:World)
def ObjOk (H:Hp) (h:Heap) (a:Addr):HO→Prop
 | .lst xs=>xs.length≤sizeLine∧∃ (its:List Value) (n:Nat),Vals xs its∧h.get? a=some { cls:=.type "list",data:=.seq its.toArray n }
 | .tup xs=>(xs.length≤sizeLine∧NoD h a)∧∃ its:List Value,Vals xs its∧IsTup h a its.toArray
 | .dK kvs=>kvs.length≤sizeLine∧(a == sysModules)=false∧∃ vs,KV kvs vs∧h.DictOf (zd2 P w) a vs
 | .dT kvs=>kvs.length≤sizeLine∧(a == sysModules)=false∧∃ xs:List (List Key×Addr×Value),
   Paired (fun (p:List Key×V) (q:List Key×Addr×Value)=>p.1=q.1∧H q.2.1=some (.tup (p.1.map kV))∧RelV p.2 q.2.2) kvs xs ∧
   ∃ o es ep,h.get? a=some o∧o.ExactDict∧o.data=.dict es ep∧es.toList=xs.map (entryOfKey (tupleKind (zd2 P w)))∧(xs.map (·.1)).Nodup
 | .set S n=>h.SetOf (intKind P w) a S n
 | .ins C dx fs=>H dx=some (.own a)∧fs.length≤1000∧dx≠a∧h.get? a=some (PySem.W.instObj C dx) ∧
   ∃ mA,h.Ns1 dx mA∧(∀ f,RelO (fs.lookup f) (mA f))∧PySem.Within mA (fs.map (·.1))
 | .own _=>∃ o,h.get? a=some o
 | .xd fs=>∃ mA,h.Ns1 a mA∧∀ f,RelO (fs.lookup f) (mA f)
 | .rng lo hi=>∃ t u v,h.get? a=some { cls:=.type "range",data:=.fields #[.int lo t,.int hi u,.int 1 v] }
 | .frz o u=>h.get? a=some o∧ObjOk H h a u
 | .tbl ps=>h.get? a=some { cls:=.none,data:=.fields ps }
 | .met f x=>h.get? a=some (PySem.W.methodObj (.ref f) (.ref x))
 | .ext φ=>φ h∧(∃ o,h.get? a=some o)∧∀ h1 h2:Heap,φ h1→(∀ o,h1.get? a=some o→h2.get? a=some o)→φ h2
def HOk (H:Hp) (h:Heap):Prop:=∀ a o,H a=some o→ObjOk P w H h a o
end
section
variable {P:Program} {w:World} {H H':Hp} {h h':Heap} {a:Addr} {o:HO}
theorem ObjOk.lt (x:ObjOk P w H h a o):a < h.objs.size:=by
 cases o with
 | lst xs=>obtain ⟨_,_,_,_,e⟩:=x; exact Heap.lt_size e
 | tup xs=>obtain ⟨_,_,_,p⟩:=x; exact p.lt
 | dK kvs=>obtain ⟨_,_,_,_,o,_,_,e,_⟩:=x; exact Heap.lt_size e
 | dT kvs=>obtain ⟨_,_,_,_,o,_,_,e,_⟩:=x; exact Heap.lt_size e
 | set S n=>obtain ⟨o,_,_,_,e,_⟩:=x; exact Heap.lt_size e
 | ins C dx fs=>obtain ⟨_,_,_,e,_⟩:=x; exact Heap.lt_size e
 | own y=>obtain ⟨_,e⟩:=x; exact Heap.lt_size e
 | xd fs=>obtain ⟨_,⟨_,_,_,e,_⟩,_⟩:=x; exact Heap.lt_size e
 | rng lo hi=>obtain ⟨_,_,_,e⟩:=x; exact Heap.lt_size e
 | frz ob u=>obtain ⟨e,_⟩:=x; exact Heap.lt_size e
 | tbl ps=>exact Heap.lt_size (show h.get? a=some _ from x)
 | met f y=>exact Heap.lt_size (show h.get? a=some _ from x)
 | ext φ=>obtain ⟨_,⟨_,e⟩,_⟩:=x; exact Heap.lt_size e
theorem Paired.mapP {α β:Type} {F G:α→β→Prop}:∀ {l₁:List α} {l₂:List β},Paired F l₁ l₂→(∀ a b,F a b→G a b)→Paired G l₁ l₂
 | _,_,.nil,_=>.nil
 | _,_,.cons r t,f=>.cons (f _ _ r) (Paired.mapP t f)
theorem ObjOk.stay (x:ObjOk P w H h a o) (k:∀ b u,(b=a∨H b=some (.own a))→h.get? b=some u→h'.get? b=some u)
  (ho:∀ b,H b=some (.own a)→H' b=some (.own a)) (ht:∀ b xs,H b=some (.tup xs)→H' b=some (.tup xs)):ObjOk P w H' h' a o:=by
 induction o with
 | lst xs=>obtain ⟨z,its,n,r,e⟩:=x; exact ⟨z,its,n,r,k _ _ (.inl rfl) e⟩
 | tup xs=>obtain ⟨z,its,r,ob,e,c⟩:=x; exact ⟨⟨z.1,z.2.keep fun _ e=>k _ _ (.inl rfl) e⟩,its,r,ob,k _ _ (.inl rfl) e,c⟩
 | dK kvs=>obtain ⟨z,y,vs,r,ob,es,ep,e,c⟩:=x; exact ⟨z,y,vs,r,ob,es,ep,k _ _ (.inl rfl) e,c⟩
 | dT kvs =>
  obtain ⟨z,y,xs,r,ob,es,ep,e,c⟩:=x
  exact ⟨z,y,xs,Paired.mapP r fun p q z=>⟨z.1,ht _ _ z.2.1,z.2.2⟩,ob,es,ep,k _ _ (.inl rfl) e,c⟩
 | set S n=>obtain ⟨ob,es,ep,t,e,c⟩:=x; exact ⟨ob,es,ep,t,k _ _ (.inl rfl) e,c⟩
 | ins C dx fs =>
  obtain ⟨d,z,ne,e,mA,⟨od,es,ep,e2,c⟩,r⟩:=x
  exact ⟨ho _ d,z,ne,k _ _ (.inl rfl) e,mA,⟨od,es,ep,k _ _ (.inr d) e2,c⟩,r⟩
 | own y=>obtain ⟨ob,e⟩:=x; exact ⟨ob,k _ _ (.inl rfl) e⟩
 | xd fs=>obtain ⟨mA,⟨od,es,ep,e,c⟩,r⟩:=x; exact ⟨mA,⟨od,es,ep,k _ _ (.inl rfl) e,c⟩,r⟩
 | rng lo hi=>obtain ⟨t,u,v,e⟩:=x; exact ⟨t,u,v,k _ _ (.inl rfl) e⟩
 | frz ob u ih=>obtain ⟨e,q⟩:=x; exact ⟨k _ _ (.inl rfl) e,ih q⟩
 | tbl ps =>
  have e:h.get? a=some { cls:=.none,data:=.fields ps }:=x
  show h'.get? a=some { cls:=.none,data:=.fields ps }
  exact k a _ (.inl rfl) e
 | met f y =>
  have e:h.get? a=some (PySem.W.methodObj (.ref f) (.ref y)):=x
  show h'.get? a=some (PySem.W.methodObj (.ref f) (.ref y))
  exact k a _ (.inl rfl) e
 | ext φ=>obtain ⟨p,⟨o,e⟩,st⟩:=x; exact ⟨st _ _ p fun o q=>k _ _ (.inl rfl) q,⟨o,k _ _ (.inl rfl) e⟩,st⟩
theorem HOk.lt (x:HOk P w H h) (e:H a=some o):a < h.objs.size:=(x a o e).lt
theorem HOk.fresh (x:HOk P w H h) (e:h.objs.size≤a):H a=none:=by
 cases q:H a with
 | none=>rfl
 | some u=>exact absurd (Nat.lt_of_lt_of_le (x.lt q) e) (Nat.lt_irrefl _)
theorem HOk.kept (x:HOk P w H h) (k:∀ b u,h.get? b=some u→h'.get? b=some u):HOk P w H h':=fun a o e =>
 (x a o e).stay (fun b u _ q=>k b u q) (fun _ q=>q) fun _ _ q=>q
theorem HOk.laid (x:HOk P w H h) (k:∀ b u,h.get? b=some u→h'.get? b=some u) (hp:h.objs.size≤a) (new:ObjOk P w (upd H a o) h' a o):HOk P w (upd H a o) h':=fun b u e=>by
 have hn:=x.fresh hp
 by_cases hb:b=a
 ·subst hb; rw [zc5] at e; cases e; exact new
 ·rw [zc9 hb] at e
  exact (x b u e).stay (fun c v _ q=>k c v q) (fun c q=>by rw [zc9 (zs2 q hn)]; exact q) fun c xs q=>by rw [zc9 (zs2 q hn)]; exact q
end
def Rd (H:Hp) (a:Addr) (u:HO):Prop:=H a=some u∨∃ o,H a=some (.frz o u)
theorem Rd.of {H:Hp} {a:Addr} {u:HO} (h:H a=some u):Rd H a u:=.inl h
theorem Rd.ok {P:Program} {w:World} {H:Hp} {h:Heap} {a:Addr} {u:HO} (r:Rd H a u) (x:HOk P w H h):ObjOk P w H h a u:=by
 rcases r with r | ⟨o,r⟩
 ·exact x a u r
 ·obtain ⟨_,q⟩:=x a _ r
  exact q
def Mut:Option HO→Prop
 | some (.lst _)=>True
 | some (.dK _)=>True
 | some (.dT _)=>True
 | some (.set _ _)=>True
 | some (.ins _ _ _)=>True
 | some (.ext _)=>True
 | _=>False
section
variable {P:Program} {w:World} {H:Hp} {h h':Heap} {x e:Addr} {o':HO}
theorem HOk.write (ok:HOk P w H h) (mu:Mut (H x)) (he:e=x∨H e=some (.own x)) (k:∀ b u,b≠e→h.get? b=some u→h'.get? b=some u) (heo:∃ u,h'.get? e=some u)
  (new:ObjOk P w (upd H x o') h' x o'):HOk P w (upd H x o') h':=fun b u q=>by
 have nown:∀ c y,H c=some (.own y)→c≠x:=fun c y r z=>by subst z; rw [r] at mu; exact mu
 have ntup:∀ c xs,H c=some (.tup xs)→c≠x:=fun c xs r z=>by subst z; rw [r] at mu; exact mu
 by_cases hb:b=x
 ·subst hb; rw [zc5] at q; cases q; exact new
 ·rw [zc9 hb] at q
  by_cases hbe:b=e
  ·have q':H b=some (.own x):=by
    rcases he with z | z
    ·exact absurd (hbe.trans z) hb
    ·rw [hbe]; exact z
   rw [q] at q'; cases q'
   obtain ⟨v,hv⟩:=heo
   exact ⟨v,by rw [hbe]; exact hv⟩
  ·refine (ok b u q).stay (fun c v hc r=>k c v ?_ r) (fun c r=>by rw [zc9 (nown c b r)]; exact r) fun c xs r=>by rw [zc9 (ntup c xs r)]; exact r
   rcases hc with rfl | hc
   ·exact hbe
   ·rintro rfl
    rcases he with z | z
    ·exact nown c b hc z
    ·rw [hc] at z; cases z; exact hb rfl
end
structure Un (fs ex:List Addr) (H H':Hp) (h h':Heap):Prop where
 keep:∀ b o,h.get? b=some o→H b=none→b ∉ fs→b ∉ ex→h'.get? b=some o
 slot:∀ b o,h.get? b=some o→H b=none→b∈fs→b ∉ ex→∃ sl,h'.get? b=some { o with slots:=sl }
 free:∀ b o,h.get? b=some o→H b=none→b ∉ ex→H' b=none
 there:∀ b o,h.get? b=some o→b ∉ ex→∃ o',h'.get? b=some o'
 tups:∀ b xs,H b=some (.tup xs)→H' b=some (.tup xs)
 frzs:∀ b o u,H b=some (.frz o u)→H' b=some (.frz o u)
 tbls:∀ b ps,H b=some (.tbl ps)→∃ more,H' b=some (.tbl (ps++more))
section
variable {fs fs' ex ex':List Addr} {H H1 H2:Hp} {h h1 h2 h':Heap} {a x e:Addr} {o:HO}
theorem Un.any (u:Un fs ex H H1 h h1) {b:Addr} {ob:Obj} (q:h.get? b=some ob) (n:H b=none) (hx:b ∉ ex):∃ sl,h1.get? b=some { ob with slots:=sl }:=by
 by_cases hb:b∈fs
 ·exact u.slot b ob q n hb hx
 ·exact ⟨ob.slots,u.keep b ob q n hb hx⟩
theorem Un.trans (a:Un fs ex H H1 h h1) (b:Un fs ex H1 H2 h1 h2):Un fs ex H H2 h h2 where
 keep:=fun c ob q n hc hx=>b.keep c ob (a.keep c ob q n hc hx) (a.free c ob q n hx) hc hx
 slot:=fun c ob q n hc hx=>by
  obtain ⟨sl,e1⟩:=a.slot c ob q n hc hx
  obtain ⟨sl',e2⟩:=b.slot c _ e1 (a.free c ob q n hx) hc hx
  exact ⟨sl',e2⟩
 free:=fun c ob q n hx=>by
  obtain ⟨o',e1⟩:=a.there c ob q hx
  exact b.free c o' e1 (a.free c ob q n hx) hx
 there:=fun c ob q hx=>by
  obtain ⟨o',e1⟩:=a.there c ob q hx
  exact b.there c o' e1 hx
 tups:=fun c xs q=>b.tups c xs (a.tups c xs q)
 frzs:=fun c ob xs q=>b.frzs c ob xs (a.frzs c ob xs q)
 tbls:=fun c ps q=>by
  obtain ⟨m1,e1⟩:=a.tbls c ps q
  obtain ⟨m2,e2⟩:=b.tbls c _ e1
  exact ⟨m1++m2,by rw [e2,Array.append_assoc]⟩
theorem Un.kept (k:∀ b u,h.get? b=some u→h'.get? b=some u):Un fs ex H H h h' :=
 ⟨fun b ob q _ _ _=>k b ob q,fun b ob q _ _ _=>⟨ob.slots,k b ob q⟩,fun _ _ _ n _=>n,fun b ob q _=>⟨ob,k b ob q⟩,fun _ _ q=>q,fun _ _ _ q=>q,fun _ ps q=>⟨#[],by rw [q]; simp⟩⟩
theorem Un.refl:Un fs ex H H h h:=Un.kept fun _ _ q=>q
theorem Un.laid (k:∀ b u,h.get? b=some u→h'.get? b=some u) (hp:h.objs.size≤a) (hn:H a=none):Un fs ex H (upd H a o) h h' where
 keep:=fun b u q _ _ _=>k b u q
 slot:=fun b u q _ _ _=>⟨u.slots,k b u q⟩
 free:=fun b u q n _=>by rw [zc9 (Nat.ne_of_lt (Nat.lt_of_lt_of_le (Heap.lt_size q) hp))]; exact n
 there:=fun b u q _=>⟨u,k b u q⟩
 tups:=fun b xs q=>by rw [zc9 (zs2 q hn)]; exact q
 frzs:=fun b u xs q=>by rw [zc9 (zs2 q hn)]; exact q
 tbls:=fun b ps q=>⟨#[],by rw [zc9 (zs2 q hn),q]; simp⟩
theorem Un.write (mu:Mut (H x)) (he:e=x∨H e=some (.own x)) (k:∀ b u,b≠e→h.get? b=some u→h'.get? b=some u) (heo:∃ u,h'.get? e=some u):Un fs ex H (upd H x o) h h':=by
 have hx:∀ b,H b=none→b≠x:=fun b n z=>by subst z; rw [n] at mu; exact mu
 have hb:∀ b,H b=none→b≠e:=fun b n z=>by
  subst z
  rcases he with r | r
  ·exact hx b n r
  ·rw [n] at r; cases r
 have hm:∀ b u,H b=some u→¬ Mut (some u)→b≠x:=fun b u q nm z=>by subst z; rw [q] at mu; exact nm mu
 refine ⟨fun b u q n _ _=>k b u (hb b n) q,fun b u q n _ _=>⟨u.slots,k b u (hb b n) q⟩,fun b u q n _=>by rw [zc9 (hx b n)]; exact n,fun b u q _=>?_,
  fun b xs q=>by rw [zc9 (hm b _ q fun z=>z)]; exact q,fun b u xs q=>by rw [zc9 (hm b _ q fun z=>z)]; exact q,fun b ps q=>⟨#[],by rw [zc9 (hm b _ q fun z=>z),q]; simp⟩⟩
 by_cases hbe:b=e
 ·subst hbe; exact heo
 ·exact ⟨u,k b u hbe q⟩
theorem Un.mono (u:Un fs ex H H1 h h1) (hs:∀ b∈fs,b∈fs') (hx:∀ b∈ex,b∈ex'):Un fs' ex' H H1 h h1 :=
 ⟨fun b ob q n hb he=>u.keep b ob q n (fun z=>hb (hs b z)) fun z=>he (hx b z),fun _ _ q n _ he=>u.any q n fun z=>he (hx _ z),fun b ob q n he=>u.free b ob q n fun z=>he (hx b z),fun b ob q he=>u.there b ob q fun z=>he (hx b z),u.tups,u.frzs,u.tbls⟩
end
def trk (h:Heap) (H:Hp):List Addr:=(List.range h.objs.size).filter fun a=>(H a).isSome
def hidT (h:Heap) (H:Hp):Heap:=PySem.W.hideAll h (trk h H)
theorem zaD8 (h:Heap) (H:Hp):(hidT h H).objs.size=h.objs.size:=PySem.W.hideAll_size _ _
theorem zaI6 {h:Heap} {H:Hp} {b:Addr} {o:Obj} (e:h.get? b=some o) (n:H b=none):(hidT h H).get? b=some o :=
 PySem.W.hideAll_get _ e fun hm=>by
  have q:(H b).isSome=true:=(List.mem_filter.mp hm).2
  rw [n] at q; simp at q
theorem zaU3 {h:Heap} {H:Hp} {b:Addr} {o:Obj} (e:(hidT h H).get? b=some o):h.get? b=some o∧H b=none:=by
 have e':h.get? b=some o:=PySem.W.of_hideAll (trk h H) e
 refine ⟨e',?_⟩
 cases q:H b with
 | none=>rfl
 | some x =>
  have hm:b∈trk h H:=List.mem_filter.mpr ⟨List.mem_range.mpr (Heap.lt_size e'),by simp [q]⟩
  have z:(hidT h H).get? b=none:=PySem.W.hideAll_none (trk h H) hm
  rw [z] at e; cases e
def zaU5 (g h:Heap) (L:Addr):List (Addr×Obj):=(List.range h.objs.size).filterMap fun a=>if a=L∨(g.get? a).isSome=true then none else (h.get? a).map fun o=>(a,o)
def rest (g h:Heap) (L d:Addr):List (Addr×Obj):=(zaU5 g h L).filter fun p=>decide (p.1≠d)
end L2
namespace L2
open PySem PySem.Spec PyProof.Rows
structure Mod (K:PySem.W.Frag) (mg:Str→Option Value) (base:Heap):Prop where
 kin:K.In base
 glob:base.Ns mainGlobals mg
 blt:∃ mb,base.Ns builtinsNs mb∧∀ x:Str,x≠"__name__"→mb x=bootBuiltins x
 nolimit:base.NoLimit
structure Cx where
 prog:Program
 w:World
 K:PySem.W.Frag
 mg:Str→Option Value
 base:Heap
 A:Around
 N:List Str
 s₀:Shared
 H₀:Hp
 env:Env
 outer:List Env
 stack:List Env
 ex:List Addr
 fn:Str→Bool
 calm:Bool
 pn:List (Addr×Obj)
 xe:Value→Shared→Prop
def frs (l:List Env):List Addr:=l.filterMap (·.frame)
abbrev Cx.fs (X:Cx):List Addr:=frs X.outer
def Vis (sc:Scope) (x:Str):Prop:=sc.names.lookup x=some .local∨sc.names.lookup x=some .cell∨sc.names.lookup x=some .free
def Loc (sc:Scope) (x:Str):Prop:=sc.names.lookup x=some .local∨sc.names.lookup x=some .cell
def Look (env:Env) (h:Heap) (m:Str→Option Value) (x:Str) (u:Value):Prop :=
 (env.kindOf x=some .local∧m x=some u)∨((env.kindOf x=some .cell∨env.kindOf x=some .free)∧∃ c,env.cells.lookup x=some c∧h.IsCell c (some u))
structure Cx.Ok (X:Cx):Prop where
 mod:Mod X.K X.mg X.base
 kind:X.env.scope.kind=.function
 glob:X.env.globals=mainGlobals
 blt:X.env.builtins=builtinsNs
 above:X.s₀.heap.objs.size≤X.env.locals
 inj:∀ x y c,X.env.cells.lookup x=some c→X.env.cells.lookup y=some c→x=y
 has:∀ x,(X.env.kindOf x=some .cell∨X.env.kindOf x=some .free)→∃ c,X.env.cells.lookup x=some c
 cab:∀ x c,X.fn x=true→X.env.cells.lookup x=some c→X.s₀.heap.objs.size≤c
 hd:X.calm=true→X.A.handled=none
 frames:X.A.frames=some X.stack
 stk:X.stack=X.outer∨(X.stack=X.env :: X.outer∧X.env.frame=some X.env.locals)
 exf:∀ b∈X.ex,b≠X.env.locals∧∀ x c,X.env.cells.lookup x=some c→c≠b
 bs:∀ b o,X.base.get? b=some o→X.s₀.heap.get? b=some o∧X.H₀ b=none
 bsz:X.base.objs.size≤X.s₀.heap.objs.size
 noex:∀ b o,X.base.get? b=some o→b ∉ X.ex
 exfs:∀ b∈X.ex,b ∉ X.fs
 funs:X.s₀.heap.FunFrames X.base X.outer
 frf:∀ b∈X.fs,X.H₀ b=none
structure Inv (X:Cx) (pins:List (Addr×Obj)) (σ:List (Option V)) (H:Hp) (s:Shared):Prop where
 ok:X.Ok
 os:s.os=X.s₀.os
 bare:AllBare s.gens
 base:Un X.fs X.ex X.H₀ H X.s₀.heap s.heap
 loc:∃ m,s.heap.Ns X.env.locals m∧∀ (i:Nat) (x:Str) (v:V),X.N[i]?=some x→σ[i]?=some (some v)→Vis X.env.scope x→∃ u,RelV v u∧Look X.env s.heap m x u
 cell:∀ x c,X.env.cells.lookup x=some c→∃ v,s.heap.IsCell c v
 free:H X.env.locals=none
 freeC:∀ x c,X.env.cells.lookup x=some c→H c=none
 pin:∀ p∈X.pn++pins,s.heap.get? p.1=some p.2∧H p.1=none∧p.1≠X.env.locals∧p.1 ∉ X.fs∧∀ v,p.2.data≠.cell v
 hok:HOk X.prog X.w H s.heap
 len:σ.length=X.N.length
section
variable {X:Cx} {pins:List (Addr×Obj)} {σ:List (Option V)} {H H':Hp} {s:Shared} {h':Heap}
theorem Cx.Ok.nofr (ok:X.Ok) {b:Addr} {o:Obj} (e:X.base.get? b=some o):b ∉ X.fs:=fun hb=>by
 have:=(ok.funs.mem hb).1
 rw [e] at this; cases this
theorem Inv.bs (I:Inv X pins σ H s):∀ b o,X.base.get? b=some o→s.heap.get? b=some o∧H b=none:=fun b o e =>
 ⟨I.base.keep b o (I.ok.bs b o e).1 (I.ok.bs b o e).2 (I.ok.nofr e) (I.ok.noex b o e),I.base.free b o (I.ok.bs b o e).1 (I.ok.bs b o e).2 (I.ok.noex b o e)⟩
theorem Inv.bk (I:Inv X pins σ H s):∀ b o,X.base.get? b=some o→s.heap.get? b=some o:=fun b o e=>(I.bs b o e).1
theorem Inv.mod (I:Inv X pins σ H s):Mod X.K X.mg X.base:=I.ok.mod
theorem Inv.kIn (I:Inv X pins σ H s):X.K.In s.heap:=I.ok.mod.kin.keeps I.bk
theorem Inv.nolimit (I:Inv X pins σ H s):s.heap.NoLimit:=I.ok.mod.nolimit.keeps I.bk
theorem Inv.fr (I:Inv X pins σ H s):∃ m,Fr X.base X.env.locals s.heap m :=
 let ⟨m,hn,_⟩:=I.loc
 ⟨m,hn,I.bk,Nat.le_trans I.ok.bsz I.ok.above⟩
theorem Inv.lt (I:Inv X pins σ H s):X.env.locals < s.heap.objs.size:=let ⟨_,hn,_⟩:=I.loc; hn.lt
theorem Inv.sz (I:Inv X pins σ H s):X.s₀.heap.objs.size≤s.heap.objs.size:=Nat.le_trans I.ok.above (Nat.le_of_lt I.lt)
theorem Inv.nofs (I:Inv X pins σ H s) {a:Addr} (h:s.heap.objs.size≤a):a ∉ X.fs:=fun hb=>by
 obtain ⟨_,o,ho,_⟩:=I.ok.funs.mem hb
 exact absurd (Nat.lt_of_lt_of_le (Heap.lt_size ho) (Nat.le_trans I.sz h)) (Nat.lt_irrefl _)
theorem Inv.cne (I:Inv X pins σ H s):∀ x c,X.env.cells.lookup x=some c→c≠X.env.locals:=fun x c e z=>by
 obtain ⟨v,o,ho,hd⟩:=I.cell x c e
 obtain ⟨m,⟨o',es,ep,ho',hd',_⟩,_⟩:=I.loc
 rw [z,ho'] at ho; cases ho; rw [hd'] at hd; cases hd
theorem Inv.funs (I:Inv X pins σ H s):s.heap.FunFrames X.base X.outer:=by
 have all:∀ (l:List Env),(∀ b∈frs l,b∈X.fs)→X.s₀.heap.FunFrames X.base l→s.heap.FunFrames X.base l:=by
  intro l
  induction l with
  | nil=>intro _ _; trivial
  | cons env r ih =>
   intro hs hl
   obtain ⟨hk,⟨L,o,hf,hn,ho,hd⟩,hr⟩:=hl
   have hL:L∈X.fs:=hs L (by unfold frs; rw [List.filterMap_cons,hf]; exact List.mem_cons_self)
   obtain ⟨sl,e⟩:=I.base.slot L o ho (I.ok.frf L hL) hL fun z=>I.ok.exfs L z hL
   exact ⟨hk,⟨L,_,hf,hn,e,hd⟩,ih (fun b hb=>hs b (by unfold frs; rw [List.filterMap_cons,hf]; exact List.mem_cons_of_mem _ hb)) hr⟩
 exact all X.outer (fun _ hb=>hb) I.ok.funs
theorem Inv.stack (I:Inv X pins σ H s):s.heap.FunFrames X.base X.stack:=by
 rcases I.ok.stk with e | ⟨e,hf⟩
 ·rw [e]; exact I.funs
 ·rw [e]
  obtain ⟨m,hn,_⟩:=I.loc
  refine .cons (by rw [I.ok.kind]; decide) hf hn ?_ I.funs
  exact Heap.get?_none_of_le (Nat.le_trans I.ok.bsz I.ok.above)
theorem Inv.stkSub (I:Inv X pins σ H s):∀ b∈frs X.stack,b∈X.env.locals :: X.fs:=fun b hb=>by
 rcases I.ok.stk with e | ⟨e,hf⟩
 ·rw [e] at hb; exact List.mem_cons_of_mem _ hb
 ·rw [e] at hb
  unfold frs at hb
  rw [List.filterMap_cons,hf] at hb
  exact hb
theorem Inv.stkFree (I:Inv X pins σ H s):∀ b∈frs X.stack,H b=none:=fun b hb=>by
 rcases List.mem_cons.mp (I.stkSub b hb) with e | hb
 ·rw [e]; exact I.free
 ·obtain ⟨_,o,ho,_⟩:=I.ok.funs.mem hb
  exact I.base.free b o ho (I.ok.frf b hb) fun z=>I.ok.exfs b z hb
theorem Inv.step {g':Array GenState} {t':Nat} {d':Drawn} {ch:List Addr} (I:Inv X pins σ H s)
  (hch:∀ b∈ch,(b∈X.ex∨X.s₀.heap.objs.size≤b)∧b≠X.env.locals∧(∀ x c,X.env.cells.lookup x=some c→c≠b)∧∀ p∈X.pn++pins,p.1≠b)
  (keep:∀ b o,b≠X.env.locals→b ∉ X.fs→b ∉ ch→s.heap.get? b=some o→H b=none→h'.get? b=some o)
  (slot:∀ b o,b≠X.env.locals→b∈X.fs→b ∉ ch→s.heap.get? b=some o→H b=none→∃ sl,h'.get? b=some { o with slots:=sl }) (free:∀ b o,b ∉ ch→s.heap.get? b=some o→H b=none→H' b=none)
  (there:∀ b o,b ∉ ch→s.heap.get? b=some o→∃ o',h'.get? b=some o')
  (tups:∀ b xs,H b=some (.tup xs)→H' b=some (.tup xs)) (frzs:∀ b o u,H b=some (.frz o u)→H' b=some (.frz o u)) (tbls:∀ b ps,H b=some (.tbl ps)→∃ more,H' b=some (.tbl (ps++more)))
  (ns:∀ m,s.heap.Ns X.env.locals m→h'.Ns X.env.locals m) (hok:HOk X.prog X.w H' h') (hg:AllBare g') :
  Inv X pins σ H' { s with heap:=h',gens:=g',drawn:=d',toks:=t' }:=by
 have neL:∀ b o,X.s₀.heap.get? b=some o→b≠X.env.locals:=fun b o e=>Nat.ne_of_lt (Nat.lt_of_lt_of_le (Heap.lt_size e) I.ok.above)
 have neC:∀ b o,X.s₀.heap.get? b=some o→b ∉ X.ex→b ∉ ch:=fun b o e hx hb=>by
  rcases (hch b hb).1 with z | z
  ·exact hx z
  ·exact absurd (Nat.lt_of_lt_of_le (Heap.lt_size e) z) (Nat.lt_irrefl _)
 have cellK:∀ x c,X.env.cells.lookup x=some c→∀ v,s.heap.IsCell c v→h'.IsCell c v:=fun x c e v ⟨o,ho,hd⟩=>by
  have nch:c ∉ ch:=fun z=>(hch c z).2.2.1 x c e rfl
  by_cases hc:c∈X.fs
  ·obtain ⟨sl,q⟩:=slot c o (I.cne x c e) hc nch ho (I.freeC x c e)
   exact ⟨_,q,hd⟩
  ·exact ⟨o,keep c o (I.cne x c e) hc nch ho (I.freeC x c e),hd⟩
 refine ⟨I.ok,I.os,hg,⟨fun b o e n hb hx=>?_,fun b o e n hb hx=>?_,fun b o e n hx=>?_,fun b o e hx=>?_,fun b xs e=>tups b xs (I.base.tups b xs e),fun b o xs e=>frzs b o xs (I.base.frzs b o xs e),fun b ps e=>?_⟩,?_,fun x c e=>?_,?_,fun x c e=>?_,fun p hp=>?_,hok,I.len⟩
 ·exact keep b o (neL b o e) hb (neC b o e hx) (I.base.keep b o e n hb hx) (I.base.free b o e n hx)
 ·obtain ⟨sl,e1⟩:=I.base.slot b o e n hb hx
  obtain ⟨sl',e2⟩:=slot b _ (neL b o e) hb (neC b o e hx) e1 (I.base.free b o e n hx)
  exact ⟨sl',e2⟩
 ·obtain ⟨o',e1⟩:=I.base.there b o e hx
  exact free b o' (neC b o e hx) e1 (I.base.free b o e n hx)
 ·obtain ⟨o',e1⟩:=I.base.there b o e hx
  exact there b o' (neC b o e hx) e1
 ·obtain ⟨m1,e1⟩:=I.base.tbls b ps e
  obtain ⟨m2,e2⟩:=tbls b _ e1
  exact ⟨m1++m2,by rw [e2,Array.append_assoc]⟩
 ·obtain ⟨m,hn,hl⟩:=I.loc
  refine ⟨m,ns m hn,fun i x v e1 e2 e3=>?_⟩
  obtain ⟨u,r,l⟩:=hl i x v e1 e2 e3
  refine ⟨u,r,?_⟩
  rcases l with l | ⟨k,c,e,z⟩
  ·exact .inl l
  ·exact .inr ⟨k,c,e,cellK x c e _ z⟩
 ·obtain ⟨v,z⟩:=I.cell x c e
  exact ⟨v,cellK x c e v z⟩
 ·obtain ⟨m,⟨o,_,_,ho,_⟩,_⟩:=I.loc
  exact free _ o (fun z=>(hch _ z).2.1 rfl) ho I.free
 ·obtain ⟨v,o,ho,hd⟩:=I.cell x c e
  exact free c o (fun z=>(hch c z).2.2.1 x c e rfl) ho (I.freeC x c e)
 ·obtain ⟨e,n,ne,nf,d⟩:=I.pin p hp
  have nch:p.1 ∉ ch:=fun z=>(hch p.1 z).2.2.2 p hp rfl
  exact ⟨keep p.1 p.2 ne nf nch e n,free p.1 p.2 nch e n,ne,nf,d⟩
theorem Inv.un {t':Nat} (I:Inv X pins σ H s) (u:Un X.fs [] H H' s.heap h') (hok:HOk X.prog X.w H' h'):Inv X pins σ H' { s with heap:=h',toks:=t' }:=by
 obtain ⟨m,⟨o,es,ep,ho,r⟩,_⟩:=id I.loc
 obtain ⟨sl,hL⟩:=u.any ho I.free (by simp)
 exact I.step (g':=s.gens) (d':=s.drawn) (ch:=[]) (fun _ z=>nomatch z) (fun b o _ hb _ e n=>u.keep b o e n hb (by simp)) (fun b o _ hb _ e n=>u.slot b o e n hb (by simp)) (fun b o _ e n=>u.free b o e n (by simp)) (fun b o _ e=>u.there b o e (by simp)) u.tups u.frzs u.tbls (fun m' hm=>by
  obtain ⟨o',es',ep',ho',r'⟩:=hm
  rw [ho] at ho'; cases ho'
  exact ⟨_,es',ep',hL,r'⟩) hok I.bare
theorem Inv.call {g':Array GenState} {t':Nat} {d':Drawn} {ch:List Addr} (I:Inv X pins σ H s) (u:Un (frs X.stack) ch H H' s.heap h') (hok:HOk X.prog X.w H' h') (hg:AllBare g')
  (hch:∀ b∈ch,(b∈X.ex∨X.s₀.heap.objs.size≤b)∧b≠X.env.locals∧(∀ x c,X.env.cells.lookup x=some c→c≠b)∧∀ p∈X.pn++pins,p.1≠b) :
  Inv X pins σ H' { s with heap:=h',gens:=g',drawn:=d',toks:=t' }:=by
 obtain ⟨m,⟨o,es,ep,ho,r⟩,_⟩:=id I.loc
 obtain ⟨sl,hL⟩:=u.any ho I.free fun z=>(hch _ z).2.1 rfl
 exact I.step (ch:=ch) hch (fun b o hL hb hc e n=>u.keep b o e n (fun z=>(List.mem_cons.mp (I.stkSub b z)).elim hL hb) hc) (fun b o _ _ hc e n=>u.any e n hc) (fun b o hc e n=>u.free b o e n hc) (fun b o hc e=>u.there b o e hc) u.tups u.frzs u.tbls (fun m' hm=>by
  obtain ⟨o',es',ep',ho',r'⟩:=hm
  rw [ho] at ho'; cases ho'
  exact ⟨_,es',ep',hL,r'⟩) hok hg
theorem Inv.turned {t':Nat} {it:Addr} (I:Inv X pins σ H s) (k:∀ b o,b≠it→s.heap.get? b=some o→h'.get? b=some o) (hn:H it=none) (hL:it≠X.env.locals)
  (h1:it∈X.ex∨X.s₀.heap.objs.size≤it) (h2:∀ x c,X.env.cells.lookup x=some c→c≠it) (h3:∀ p∈X.pn++pins,p.1≠it):Inv X pins σ H { s with heap:=h',toks:=t' }:=by
 have nit:∀ b u,H b=some u→b≠it:=fun b u e z=>by rw [z,hn] at e; cases e
 refine I.step (g':=s.gens) (d':=s.drawn) (ch:=[it]) (fun b hb=>?_) (fun b o _ _ hc e _=>k b o (fun z=>hc (by simp [z])) e) (fun b o _ _ hc e _=>⟨o.slots,k b o (fun z=>hc (by simp [z])) e⟩) (fun _ _ _ _ n=>n)
  (fun b o hc e=>⟨o,k b o (fun z=>hc (by simp [z])) e⟩) (fun _ _ e=>e) (fun _ _ _ e=>e) (fun b ps e=>⟨#[],by rw [e]; simp⟩) (fun m hm=>?_) (fun b u e=>?_) I.bare
 ·have e:b=it:=by simpa using hb
  subst e
  exact ⟨h1,hL,h2,h3⟩
 ·obtain ⟨o,es,ep,ho,r⟩:=hm
  exact ⟨o,es,ep,k _ o (Ne.symm hL) ho,r⟩
 ·refine (I.hok b u e).stay (fun c v hc q=>k c v ?_ q) (fun _ q=>q) fun _ _ q=>q
  rcases hc with z | z
  ·rw [z]; exact nit b u e
  ·exact nit c _ z
theorem Inv.tok (I:Inv X pins σ H s) (t:Nat):Inv X pins σ H { s with toks:=t }:=I.un (h':=s.heap) (t':=t) Un.refl I.hok
theorem Inv.kept {t':Nat} (I:Inv X pins σ H s) (k:∀ b u,s.heap.get? b=some u→h'.get? b=some u):Inv X pins σ H { s with heap:=h',toks:=t' }:=I.un (Un.kept k) (I.hok.kept k)
theorem Inv.laid {a:Addr} {o:HO} {t':Nat} (I:Inv X pins σ H s) (k:∀ b u,s.heap.get? b=some u→h'.get? b=some u) (hp:s.heap.objs.size≤a) (new:ObjOk X.prog X.w (upd H a o) h' a o) :
  Inv X pins σ (upd H a o) { s with heap:=h',toks:=t' }:=I.un (Un.laid k hp (I.hok.fresh hp)) (I.hok.laid k hp new)
theorem Inv.write {x e:Addr} {o:HO} {t':Nat} (I:Inv X pins σ H s) (mu:Mut (H x)) (he:e=x∨H e=some (.own x)) (k:∀ b u,b≠e→s.heap.get? b=some u→h'.get? b=some u) (heo:∃ u,h'.get? e=some u)
  (new:ObjOk X.prog X.w (upd H x o) h' x o):Inv X pins σ (upd H x o) { s with heap:=h',toks:=t' }:=I.un (Un.write mu he k heo) (I.hok.write mu he k heo new)
theorem Inv.pins_of {pins':List (Addr×Obj)} (I:Inv X pins σ H s) (h:∀ p∈pins',s.heap.get? p.1=some p.2∧H p.1=none∧p.1≠X.env.locals∧p.1 ∉ X.fs∧∀ v,p.2.data≠.cell v):Inv X pins' σ H s :=
 ⟨I.ok,I.os,I.bare,I.base,I.loc,I.cell,I.free,I.freeC,fun p hp=>(List.mem_append.mp hp).elim (fun z=>I.pin p (List.mem_append_left _ z)) (h p),I.hok,I.len⟩
theorem zap9 {N:List Str} (hN:N.Nodup) {i j:Nat} {x:Str} (a:N[i]?=some x) (b:N[j]?=some x):i=j:=by
 obtain ⟨h1,e1⟩:=List.getElem?_eq_some_iff.mp a
 obtain ⟨h2,e2⟩:=List.getElem?_eq_some_iff.mp b
 exact (List.getElem_inj hN).mp (e1.trans e2.symm)
theorem zag5 {M:Model} {A:Around} {E:Value→Shared→Prop} {i:Nat} {x:Str} {v:V} {u:Value} {Q:Unit→Shared→Prop} (I:Inv X pins σ H s) (hN:X.N.Nodup) (hi:X.N[i]?=some x) (hx:Loc X.env.scope x) (r:RelV v u)
  (h:∀ s',Inv X pins (σ.set i (some v)) H s'→(∃ a,Heap.SameBut a s.heap s'.heap∧(a=X.env.locals∨X.env.cells.lookup x=some a))→Q () s') (hf:X.fn x=true∨X.env.scope.names.lookup x=some .local:=by first | exact .inl rfl | exact .inr rfl | assumption):wpAny M A (storeName X.env x u) Q E s:=by
 obtain ⟨m,hn,hl⟩:=id I.loc
 have hcls:(X.env.scope.kind == .class || (X.env.scope.kind == .module && X.env.locals != X.env.globals))=false:=by rw [I.ok.kind]; rfl
 have hiσ:i < σ.length:=by rw [I.len]; exact (List.getElem?_eq_some_iff.mp hi).1
 have cne:=I.cne
 have tracked:∀ {a:Addr} {h':Heap},(∃ o,s.heap.get? a=some o∧H a=none)→Heap.SameBut a s.heap h'→HOk X.prog X.w H h':=fun {a h'} ha hs b ob e=>by
  obtain ⟨_,_,hfree⟩:=ha
  refine (I.hok b ob e).stay (fun c w' hc q=>(hs.2 c ?_).trans q) (fun _ q=>q) fun _ _ q=>q
  rintro rfl
  rcases hc with rfl | hc
  ·rw [hfree] at e; cases e
  ·rw [hfree] at hc; cases hc
 rcases hx with hk | hk
 ·refine wpAny_storeName_local hk hn (fun h' hn' hs=>?_) hcls
  obtain ⟨oL,_,_,hoL,_⟩:=id hn
  refine h _ ⟨I.ok,I.os,I.bare,⟨fun b o e n hb hx=>?_,fun b o e n hb hx=>?_,I.base.free,fun b o e hx=>?_,I.base.tups,I.base.frzs,I.base.tbls⟩,⟨_,hn',fun j y v' e1 e2 e3=>?_⟩,fun y c e=>?_,I.free,I.freeC,fun p hp=>?_,tracked ⟨oL,hoL,I.free⟩ hs,by simpa using I.len⟩ ⟨_,hs,.inl rfl⟩
  ·exact (hs.2 b (Nat.ne_of_lt (Nat.lt_of_lt_of_le (Heap.lt_size e) I.ok.above))).trans (I.base.keep b o e n hb hx)
  ·obtain ⟨sl,e1⟩:=I.base.slot b o e n hb hx
   exact ⟨sl,(hs.2 b (Nat.ne_of_lt (Nat.lt_of_lt_of_le (Heap.lt_size e) I.ok.above))).trans e1⟩
  ·obtain ⟨o',e1⟩:=I.base.there b o e hx
   exact ⟨o',(hs.2 b (Nat.ne_of_lt (Nat.lt_of_lt_of_le (Heap.lt_size e) I.ok.above))).trans e1⟩
  ·by_cases hj:j=i
   ·subst hj
    rw [hi] at e1; cases e1
    rw [List.getElem?_set_self hiσ] at e2
    cases e2
    exact ⟨u,r,.inl ⟨hk,by simp⟩⟩
   ·rw [List.getElem?_set_ne (Ne.symm hj)] at e2
    obtain ⟨u',r',q⟩:=hl j y v' e1 e2 e3
    refine ⟨u',r',?_⟩
    rcases q with ⟨k,e⟩ | ⟨k,c,e,z⟩
    ·refine .inl ⟨k,?_⟩
     have:y≠x:=fun e=>hj (zap9 hN e1 (e ▸ hi))
     simp [this,e]
    ·exact .inr ⟨k,c,e,z.sameBut hs (cne y c e)⟩
  ·obtain ⟨w',z⟩:=I.cell y c e
   exact ⟨w',z.sameBut hs (cne y c e)⟩
  ·obtain ⟨e,n,ne,nf,d⟩:=I.pin p hp
   exact ⟨(hs.2 p.1 ne).trans e,n,ne,nf,d⟩
 ·have hfn:X.fn x=true:=by
   rcases hf with z | z
   ·exact z
   ·rw [z] at hk; cases hk
  obtain ⟨c,hc⟩:=I.ok.has x (.inl hk)
  obtain ⟨w',z⟩:=I.cell x c hc
  refine wpAny_storeName_cell I.ok.kind hk hc z (fun h' hc' hs=>?_)
  obtain ⟨oc,hoc,hocd⟩:=id z
  refine h { s with heap:=h' } ⟨I.ok,I.os,I.bare,⟨fun b o e n hb hx=>?_,fun b o e n hb hx=>?_,I.base.free,fun b o e hx=>?_,I.base.tups,I.base.frzs,I.base.tbls⟩,⟨m,hn.sameBut hs (Ne.symm (cne x c hc)),fun j y v' e1 e2 e3=>?_⟩,fun y c' e=>?_,I.free,I.freeC,fun p hp=>?_,tracked ⟨oc,hoc,I.freeC x c hc⟩ hs,by simpa using I.len⟩ ⟨c,hs,.inr hc⟩
  ·exact (hs.2 b (Nat.ne_of_lt (Nat.lt_of_lt_of_le (Heap.lt_size e) (I.ok.cab x c hfn hc)))).trans (I.base.keep b o e n hb hx)
  ·obtain ⟨sl,e1⟩:=I.base.slot b o e n hb hx
   exact ⟨sl,(hs.2 b (Nat.ne_of_lt (Nat.lt_of_lt_of_le (Heap.lt_size e) (I.ok.cab x c hfn hc)))).trans e1⟩
  ·obtain ⟨o',e1⟩:=I.base.there b o e hx
   exact ⟨o',(hs.2 b (Nat.ne_of_lt (Nat.lt_of_lt_of_le (Heap.lt_size e) (I.ok.cab x c hfn hc)))).trans e1⟩
  ·by_cases hj:j=i
   ·subst hj
    rw [hi] at e1; cases e1
    rw [List.getElem?_set_self hiσ] at e2
    cases e2
    exact ⟨u,r,.inr ⟨.inl hk,c,hc,hc'⟩⟩
   ·rw [List.getElem?_set_ne (Ne.symm hj)] at e2
    obtain ⟨u',r',q⟩:=hl j y v' e1 e2 e3
    refine ⟨u',r',?_⟩
    rcases q with q | ⟨k,c',e,z'⟩
    ·exact .inl q
    ·refine .inr ⟨k,c',e,z'.sameBut hs ?_⟩
     rintro rfl
     exact hj (zap9 hN e1 (I.ok.inj _ _ _ e hc ▸ hi))
  ·by_cases hcc:c'=c
   ·subst hcc; exact ⟨_,hc'⟩
   ·obtain ⟨w2,z2⟩:=I.cell y c' e
    exact ⟨w2,z2.sameBut hs hcc⟩
  ·obtain ⟨e,n,ne,nf,d⟩:=I.pin p hp
   refine ⟨(hs.2 p.1 ?_).trans e,n,ne,nf,d⟩
   intro q
   rw [q,hoc] at e
   have q':oc=p.2:=Option.some.inj e
   exact d w' (by rw [← q']; exact hocd)
theorem zS7 {M:Model} {A:Around} {E:Value→Shared→Prop} {i:Nat} {x:Str} {v:V} {u:Value} {Q:Unit→Shared→Prop} (I:Inv X pins σ H s) (hN:X.N.Nodup) (hi:X.N[i]?=some x) (hx:Loc X.env.scope x) (r:RelV v u)
  (h:∀ s',Inv X pins (σ.set i (some v)) H s'→Q () s') (hf:X.fn x=true∨X.env.scope.names.lookup x=some .local:=by first | exact .inl rfl | exact .inr rfl | assumption):wpAny M A (storeName X.env x u) Q E s :=
 zag5 I hN hi hx r (fun s' I' _=>h s' I') hf
theorem Inv.call' {s':Shared} {ch:List Addr} (I:Inv X pins σ H s) (ho:s'.os=s.os) (u:Un (frs X.stack) ch H H' s.heap s'.heap) (hok:HOk X.prog X.w H' s'.heap) (hg:AllBare s'.gens)
  (hch:∀ b∈ch,(b∈X.ex∨X.s₀.heap.objs.size≤b)∧b≠X.env.locals∧(∀ x c,X.env.cells.lookup x=some c→c≠b)∧∀ p∈X.pn++pins,p.1≠b):Inv X pins σ H' s':=by
 obtain ⟨h',g',d',t',o'⟩:=s'
 have e:o'=s.os:=ho
 subst e
 exact I.call (g':=g') (t':=t') (d':=d') u hok hg hch
end
abbrev XK:=Value→Option Addr→Hp→Prop
abbrev St:=List (Option V)
abbrev VK:=V→Hp→Prop
abbrev TE:=St→Hp→VK→Prop
abbrev TT:=St→Hp→(Bool→Hp→Prop)→Prop
abbrev TA:=St→Hp→(List V→Hp→Prop)→Prop
structure Ends where
 nx:St→Hp→Prop
 rt:VK
 bk:St→Hp→Prop:=fun _ _=>False
 ct:St→Hp→Prop:=fun _ _=>False
abbrev TS:=Ends→St→Hp→Prop
def EP (X:Cx) (pins:List (Addr×Obj)) (σ:St) (Q:VK) (u:Value) (s':Shared):Prop:=∃ v H',Inv X pins σ H' s'∧RelV v u∧Q v H'
def TP (X:Cx) (pins:List (Addr×Obj)) (σ:St) (Q:Bool→Hp→Prop) (b:Bool) (s':Shared):Prop:=∃ H',Inv X pins σ H' s'∧Q b H'
def AP (X:Cx) (pins:List (Addr×Obj)) (σ:St) (Q:List V→Hp→Prop) (us:List Value) (s':Shared):Prop:=∃ vs H',Inv X pins σ H' s'∧Vals vs us∧Q vs H'
def SP (X:Cx) (pins:List (Addr×Obj)) (D:Ends) (f:Flow) (s':Shared):Prop :=
 match f with
 | .next=>∃ σ' H',Inv X pins σ' H' s'∧D.nx σ' H'
 | .brk=>∃ σ' H',Inv X pins σ' H' s'∧D.bk σ' H'
 | .cont=>∃ σ' H',Inv X pins σ' H' s'∧D.ct σ' H'
 | .ret u=>∃ v σ' H',Inv X pins σ' H' s'∧RelV v u∧D.rt v H'
def PE (X:Cx) (e:Expr) (t:TE):Prop :=
 ∀ (pins:List (Addr×Obj)) (s:Shared) (σ:St) (H:Hp) (Q:VK),Inv X pins σ H s→t σ H Q→wpAny (model X.prog X.w) X.A (eval e X.env) (EP X pins σ Q) X.xe s
def PT (X:Cx) (e:Expr) (t:TT):Prop :=
 ∀ (pins:List (Addr×Obj)) (s:Shared) (σ:St) (H:Hp) (Q:Bool→Hp→Prop),Inv X pins σ H s→t σ H Q→wpAny (model X.prog X.w) X.A (isTrue e X.env (eval e X.env)) (TP X pins σ Q) X.xe s
def PW (X:Cx) (e:Expr) (t:TT):Prop :=
 ∀ (whole:Sem Value) (pins:List (Addr×Obj)) (s:Shared) (σ:St) (H:Hp) (Q:Bool→Hp→Prop),Inv X pins σ H s→t σ H Q→wpAny (model X.prog X.w) X.A (isTrue e X.env whole) (TP X pins σ Q) X.xe s
theorem PW.pt {X:Cx} {e:Expr} {t:TT} (h:PW X e t):PT X e t:=h _
def PA (X:Cx) (es:List Expr) (t:TA):Prop :=
 ∀ (pos:Pos) (pins:List (Addr×Obj)) (s:Shared) (σ:St) (H:Hp) (Q:List V→Hp→Prop),Inv X pins σ H s→t σ H Q→wpAny (model X.prog X.w) X.A (spliced (backTo pos (starEach es X.env))) (AP X pins σ Q) X.xe s
def PS (X:Cx) (st:Stmt) (t:TS):Prop :=
 ∀ (pins:List (Addr×Obj)) (s:Shared) (σ:St) (H:Hp) (D:Ends),Inv X pins σ H s→t D σ H→wpAny (model X.prog X.w) X.A (exec st X.env) (SP X pins D) X.xe s
def PSs (X:Cx) (st:List Stmt) (t:TS):Prop :=
 ∀ (pins:List (Addr×Obj)) (s:Shared) (σ:St) (H:Hp) (D:Ends),Inv X pins σ H s→t D σ H→wpAny (model X.prog X.w) X.A (execs st X.env) (SP X pins D) X.xe s
theorem thn {α:Type} {t:Sem α} {Q Q':α→Shared→Prop} {M:Model} {A:Around} {E:Value→Shared→Prop} {s:Shared} (h:wpAny M A t Q E s) (hQ:∀ a s,Q a s→Q' a s):wpAny M A t Q' E s:=wpAny_mono h hQ fun _ _ x=>x
end L2
namespace L2
open PySem PySem.Spec PyProof.Rows
section
variable {X:Cx}
def tVar (i:Nat):TE:=fun σ H Q=>∃ v,σ[i]?=some (some v)∧Q v H
def tC (v:V):TE:=fun _ H Q=>Q v H
theorem zaZ2 {i:Nat} {x:Str} {pos:Pos} (hN:X.N[i]?=some x) (hv:Vis X.env.scope x) (hd:(x == ("__debug__" : Str))=false:=by decide) (hcd:(x == ("__classdict__" : Str))=false:=by decide):PE X (.Name x pos) (tVar i):=by
 intro pins s σ H Q I h
 obtain ⟨v,e,h⟩:=h
 obtain ⟨m,hn,hl⟩:=I.loc
 obtain ⟨u,r,l⟩:=hl i x v hN e hv
 have fin:EP X pins σ Q u s:=⟨v,H,I,r,h⟩
 rcases l with ⟨hk,hm⟩ | ⟨hk,c,hc,hcell⟩
 ·exact wpAny_Name (wpAny_loadName_local I.ok.kind hk hn hm fin) hd
 ·rcases hk with hk | hk
  ·exact wpAny_Name (wpAny_loadName_cell I.ok.kind hk hc hcell fin) hd
  ·exact wpAny_Name (wpAny_loadName_free I.ok.kind hk hc hcell fin hcd) hd
theorem zbf3 {i j pos}:PE X (.Constant (.int i) j pos) (tC (.int i)):=fun _ _ _ H _ I h=>wpAny_Constant_int ⟨.int i,H,I.tok _,⟨_,rfl⟩,h⟩
theorem zbl3 {b j pos}:PE X (.Constant (.bool b) j pos) (tC (.bl b)):=fun _ _ _ H _ I h=>Constant_bool ⟨.bl b,H,I,rfl,h⟩
theorem zbf5 {j pos}:PE X (.Constant .none j pos) (tC .non):=fun _ _ _ H _ I h=>Constant_none ⟨.non,H,I,rfl,h⟩
theorem zbe0 {x j pos}:PE X (.Constant (.str x) j pos) (tC (.str x)):=fun _ _ _ H _ I h=>Calls.Constant_str ⟨.str x,H,I.tok _,⟨_,rfl⟩,h⟩
def Gl (X:Cx) (x:Str):Prop:=X.env.kindOf x=some .globalImplicit
theorem zaC4 {E:Value→Shared→Prop} {pins:List (Addr×Obj)} {s:Shared} {σ:St} {H:Hp} {x:Str} {u:Value} {pos:Pos} {Q:Value→Shared→Prop} (I:Inv X pins σ H s) (hg:Gl X x) (hm:X.mg x=some u) (h:Q u s)
  (hd:(x == ("__debug__" : Str))=false:=by decide):wpAny (model X.prog X.w) X.A (eval (.Name x pos) X.env) Q E s :=
 Calls.Name_function_global I.ok.kind hg (Calls.loadGlobal_global (by rw [I.ok.glob]; exact I.mod.glob.keeps I.bk) hm h) hd
theorem zP2 {E:Value→Shared→Prop} {pins:List (Addr×Obj)} {s:Shared} {σ:St} {H:Hp} {x:Str} {u:Value} {pos:Pos} {Q:Value→Shared→Prop} (I:Inv X pins σ H s) (hg:Gl X x) (hm:X.mg x=none) (hv:bootBuiltins x=some u) (h:Q u s)
  (hn:x≠"__name__":=by decide) (hd:(x == ("__debug__" : Str))=false:=by decide):wpAny (model X.prog X.w) X.A (eval (.Name x pos) X.env) Q E s:=by
 obtain ⟨mb,h1,h2⟩:=I.mod.blt
 exact Calls.Name_function_global I.ok.kind hg (Calls.loadGlobal_builtin (by rw [I.ok.glob]; exact I.mod.glob.keeps I.bk) hm (by rw [I.ok.blt]; exact h1.keeps I.bk) ((h2 x hn).trans hv) h) hd
theorem zan2 {x:Str} {v:V} {u:Value} {pos:Pos} (hg:Gl X x) (hm:X.mg x=some u) (r:RelV v u) (hd:(x == ("__debug__" : Str))=false:=by decide):PE X (.Name x pos) (tC v) :=
 fun _ _ _ H _ I h=>zaC4 I hg hm ⟨v,H,I,r,h⟩ hd
theorem zaT4 {x:Str} {v:V} {u:Value} {pos:Pos} (hg:Gl X x) (hm:X.mg x=none) (hv:bootBuiltins x=some u) (r:RelV v u) (hn:x≠"__name__":=by decide) (hd:(x == ("__debug__" : Str))=false:=by decide):PE X (.Name x pos) (tC v) :=
 fun _ _ _ H _ I h=>zP2 I hg hm hv ⟨v,H,I,r,h⟩ hn hd
variable {a b:Expr} {ta tb:TE} {pos:Pos}
def tB (t:TE):TT:=fun σ H Q=>t σ H fun x H1=>∃ c,x=.bl c∧Q c H1
theorem zbe5 {e:Expr} {t:TE} (h:PE X e t) (he:∀ whole,isTrue e X.env whole=(do let v ← whole; standAt e.pos; holding [v] (truthy v)):=by intro _; rfl):PT X e (tB t):=by
 intro pins s σ H Q I hw
 refine isTrue_plain (thn (h pins s σ H _ I hw) fun v s1 ⟨x,H1,I1,r1,q1⟩=>?_) (he _)
 obtain ⟨d,rfl,q⟩:=q1
 cases r1
 exact wpAny_truthy_bool ⟨H1,I1,q⟩
variable {tA tB':TT} {rest:List Expr}
def tNot (t:TT):TT:=fun σ H Q=>t σ H fun c H1=>Q (!c) H1
theorem zbd4 (ha:PT X a tA):PT X (.UnaryOp .Not a pos) (tNot tA):=by
 intro pins s σ H Q I h
 exact isTrue_not (ha pins s σ H (fun c H1=>Q (!c) H1) I h)
def zbl4 (ta tb:TE):TE:=fun σ H Q=>ta σ H fun x H1=>∃ c,x=.bl c∧if c=true then tb σ H1 Q else Q (.bl false) H1
def tOrV (ta tb:TE):TE:=fun σ H Q=>ta σ H fun x H1=>∃ c,x=.bl c∧if c=true then Q (.bl true) H1 else tb σ H1 Q
def zbm6 (ta:TE):TE:=fun σ H Q=>ta σ H fun x H1=>∃ c,x=.bl c∧Q (.bl (!c)) H1
theorem zbb0 {op} {t:TE} (h:PE X a t):PE X (.BoolOp op [a] pos) t:=fun pins s σ H Q I hw=>BoolOp_one (h pins s σ H Q I hw)
theorem zbb3 (ha:PE X a ta) (hb:PE X (.BoolOp .And (b :: rest) pos) tb):PE X (.BoolOp .And (a :: b :: rest) pos) (zbl4 ta tb):=by
 intro pins s σ H Q I h
 refine BoolOp_and (thn (ha pins s σ H _ I h) fun v s1 ⟨x,H1,I1,r1,q1⟩=>?_)
 obtain ⟨c,rfl,q1⟩:=q1
 cases r1
 refine wpAny_truthy_bool ?_
 cases c with
 | true=>exact hb pins s1 σ H1 Q I1 q1
 | false=>exact ⟨.bl false,H1,I1,rfl,q1⟩
theorem zbl2 (ha:PE X a ta) (hb:PE X (.BoolOp .Or (b :: rest) pos) tb):PE X (.BoolOp .Or (a :: b :: rest) pos) (tOrV ta tb):=by
 intro pins s σ H Q I h
 refine BoolOp_or (thn (ha pins s σ H _ I h) fun v s1 ⟨x,H1,I1,r1,q1⟩=>?_)
 obtain ⟨c,rfl,q1⟩:=q1
 cases r1
 refine wpAny_truthy_bool ?_
 cases c with
 | false=>exact hb pins s1 σ H1 Q I1 q1
 | true=>exact ⟨.bl true,H1,I1,rfl,q1⟩
theorem zbg7 (ha:PE X a ta):PE X (.UnaryOp .Not a pos) (zbm6 ta):=by
 intro pins s σ H Q I h
 refine UnaryOp_ (thn (ha pins s σ H _ I h) fun v s1 ⟨x,H1,I1,r1,q1⟩=>?_)
 obtain ⟨c,rfl,q1⟩:=q1
 cases r1
 exact not_of (wpAny_truthy_bool ⟨.bl (!c),H1,I1,rfl,q1⟩)
def tIf (t:TT) (ta tb:TE):TE:=fun σ H Q=>t σ H fun c H1=>if c=true then ta σ H1 Q else tb σ H1 Q
theorem zaH0 {c:Expr} (hc:PT X c tA) (ha:PE X a ta) (hb:PE X b tb):PE X (.IfExp c a b pos) (tIf tA ta tb):=by
 intro pins s σ H Q I h
 refine wpAny_IfExp (thn (hc pins s σ H _ I h) fun d s1 ⟨H1,I1,q1⟩=>?_)
 cases d with
 | true=>exact ha pins s1 σ H1 Q I1 q1
 | false=>exact hb pins s1 σ H1 Q I1 q1
end
end L2
namespace L2
open PySem PySem.Spec PyProof.Rows
def SqL (K:PySem.W.Frag) (H:Hp) (a:Addr) (xs:List V):Prop :=
 Rd H a (.lst xs) ∨
  ∃ (o:Obj) (its:Array Value) (n:Nat),K.lookup a=some o∧o.cls=.type "list"∧o.dict=none∧o.data=.seq its n∧its.size≤sizeLine∧Vals xs its.toList
def SqT (K:PySem.W.Frag) (H:Hp) (a:Addr) (xs:List V):Prop :=
 Rd H a (.tup xs) ∨
  ∃ (o:Obj) (its:Array Value) (n:Nat),K.lookup a=some o∧(o.cls=.type "tuple"∧o.dict=none)∧o.data=.seq its n∧its.size≤sizeLine∧Vals xs its.toList
def absV:Value→Option V
 | .none=>some .non
 | .bool b=>some (.bl b)
 | .int i _=>some (.int i)
 | .str x _=>some (.str x)
 | .bytes b _=>some (.byt b)
 | .float b _=>some (.flt b)
 | .ref a=>some (.ref a)
 | .type n=>some (.ty n)
 | _=>none
theorem RelV.abs {x:V} {u:Value} (r:RelV x u):absV u=some x:=by
 cases x with
 | non=>cases r; rfl
 | bl _=>cases r; rfl
 | int _=>obtain ⟨t,rfl⟩:=r; rfl
 | str _=>obtain ⟨t,rfl⟩:=r; rfl
 | byt _=>obtain ⟨t,rfl⟩:=r; rfl
 | flt _=>obtain ⟨t,rfl⟩:=r; rfl
 | ref _=>cases r; rfl
 | ty _=>cases r; rfl
theorem RelV.inj {x y:V} {u:Value} (r:RelV x u) (q:RelV y u):x=y:=Option.some.inj (r.abs.symm.trans q.abs)
theorem Vals.inj:∀ {xs ys:List V} {us:List Value},Vals xs us→Vals ys us→xs=ys
 | _,_,_,.nil,.nil=>rfl
 | _,_,_,.cons r t,.cons r' t'=>by rw [r.inj r',Vals.inj t t']
section
variable {X:Cx} {pins:List (Addr×Obj)} {σ:St} {H:Hp} {s:Shared} {a:Addr} {xs ys:List V}
theorem SqL.of {K:PySem.W.Frag} (h:H a=some (.lst xs)):SqL K H a xs:=.inl (.inl h)
theorem SqT.of {K:PySem.W.Frag} (h:H a=some (.tup xs)):SqT K H a xs:=.inl (.inl h)
theorem Inv.list (I:Inv X pins σ H s) (h:SqL X.K H a xs):∃ its:List Value,Vals xs its∧PlainL s.heap a its.toArray∧xs.length≤sizeLine:=by
 rcases h with h | ⟨o,its,n,hk,hc,hd,hs,hz,r⟩
 ·obtain ⟨z,its,n,r,e⟩:=h.ok I.hok
  exact ⟨its,r,⟨_,n,e,rfl,rfl,rfl⟩,z⟩
 ·refine ⟨its.toList,r,⟨o,n,I.kIn a o hk,hc,hd,by simpa using hs⟩,?_⟩
  have e:=r.length
  simp only [Array.length_toList] at e
  omega
theorem Inv.tuple (I:Inv X pins σ H s) (h:SqT X.K H a xs):∃ its:List Value,Vals xs its∧IsTup s.heap a its.toArray∧xs.length≤sizeLine:=by
 rcases h with h | ⟨o,its,n,hk,hc,hs,hz,r⟩
 ·obtain ⟨z,its,r,p⟩:=h.ok I.hok
  exact ⟨its,r,p,z.1⟩
 ·refine ⟨its.toList,r,⟨o,I.kIn a o hk,hc.1,n,by simpa using hs⟩,?_⟩
  have e:=r.length
  simp only [Array.length_toList] at e
  omega
theorem Inv.list_inj (I:Inv X pins σ H s) (h:SqL X.K H a xs) (h':SqL X.K H a ys):xs=ys:=by
 obtain ⟨its,r,⟨o,n,e,_,_,d⟩,_⟩:=I.list h
 obtain ⟨its',r',⟨o',n',e',_,_,d'⟩,_⟩:=I.list h'
 rw [e] at e'; cases e'
 rw [d] at d'
 injection d' with d1 _
 have:its=its':=by simpa using congrArg Array.toList d1
 subst this
 exact r.inj r'
theorem Inv.tuple_inj (I:Inv X pins σ H s) (h:SqT X.K H a xs) (h':SqT X.K H a ys):xs=ys:=by
 obtain ⟨its,r,⟨o,e,_,n,d⟩,_⟩:=I.tuple h
 obtain ⟨its',r',⟨o',e',_,n',d'⟩,_⟩:=I.tuple h'
 rw [e] at e'; cases e'
 rw [d] at d'
 injection d' with d1 _
 have:its=its':=by simpa using congrArg Array.toList d1
 subst this
 exact r.inj r'
end
abbrev Cx.wish (X:Cx) (E:Value→Shared→Prop):Cx:={ X with xe:=E }
abbrev Cx.nox (X:Cx):Cx:=X.wish fun _ _=>False
theorem Cx.Ok.wish {X:Cx} (ok:X.Ok) (E:Value→Shared→Prop):(X.wish E).Ok :=
 ⟨ok.mod,ok.kind,ok.glob,ok.blt,ok.above,ok.inj,ok.has,ok.cab,ok.hd,ok.frames,ok.stk,ok.exf,ok.bs,ok.bsz,ok.noex,ok.exfs,ok.funs,ok.frf⟩
theorem Cx.Ok.unwish {X:Cx} {E:Value→Shared→Prop} (ok:(X.wish E).Ok):X.Ok :=
 ⟨ok.mod,ok.kind,ok.glob,ok.blt,ok.above,ok.inj,ok.has,ok.cab,ok.hd,ok.frames,ok.stk,ok.exf,ok.bs,ok.bsz,ok.noex,ok.exfs,ok.funs,ok.frf⟩
section
variable {X:Cx} {pins:List (Addr×Obj)} {σ:St} {H:Hp} {s:Shared} {E:Value→Shared→Prop}
theorem Inv.wish (I:Inv X pins σ H s) (E:Value→Shared→Prop):Inv (X.wish E) pins σ H s:=⟨I.ok.wish E,I.os,I.bare,I.base,I.loc,I.cell,I.free,I.freeC,I.pin,I.hok,I.len⟩
theorem Inv.unwish (I:Inv (X.wish E) pins σ H s):Inv X pins σ H s:=⟨I.ok.unwish,I.os,I.bare,I.base,I.loc,I.cell,I.free,I.freeC,I.pin,I.hok,I.len⟩
theorem SP.unwish {D:Ends} {f:Flow} {s':Shared} (h:SP (X.wish E) pins D f s'):SP X pins D f s':=by
 cases f with
 | next=>obtain ⟨σ',H',I,q⟩:=h; exact ⟨σ',H',I.unwish,q⟩
 | brk=>obtain ⟨σ',H',I,q⟩:=h; exact ⟨σ',H',I.unwish,q⟩
 | cont=>obtain ⟨σ',H',I,q⟩:=h; exact ⟨σ',H',I.unwish,q⟩
 | ret u=>obtain ⟨v,σ',H',I,r,q⟩:=h; exact ⟨v,σ',H',I.unwish,r,q⟩
theorem PE.nox {e:Expr} {t:TE} (h:PE X.nox e t):PE X e t:=fun pins s σ H Q I hw =>
 wpAny_mono (h pins s σ H Q (I.wish _) hw) (fun _ _ ⟨v,H',I',r,q⟩=>⟨v,H',I'.unwish,r,q⟩) fun _ _ z=>False.elim z
theorem PT.nox {e:Expr} {t:TT} (h:PT X.nox e t):PT X e t:=fun pins s σ H Q I hw =>
 wpAny_mono (h pins s σ H Q (I.wish _) hw) (fun _ _ ⟨H',I',q⟩=>⟨H',I'.unwish,q⟩) fun _ _ z=>False.elim z
theorem PSs.nox {st:List Stmt} {t:TS} (h:PSs X.nox st t):PSs X st t:=fun pins s σ H D I hw =>
 wpAny_mono (h pins s σ H D (I.wish _) hw) (fun _ _ q=>q.unwish) fun _ _ z=>False.elim z
end
section
variable {X:Cx} {st:Stmt} {rest:List Stmt} {t u:TS} {e:Expr} {te:TE} {pos:Pos}
def zbl8:TS:=fun D σ H=>D.nx σ H
def tSeq (t u:TS):TS:=fun D σ H=>t { D with nx:=u D } σ H
theorem zaT8:PSs X [] zbl8:=fun _ _ σ H _ I h=>wpAny_execs_nil ⟨σ,H,I,h⟩
theorem zaL8 (h1:PS X st t) (h2:PSs X rest u):PSs X (st :: rest) (tSeq t u):=by
 intro pins s σ H D I h
 refine wpAny_execs_cons (thn (h1 pins s σ H { D with nx:=u D } I h) fun f s1 q=>?_)
 cases f with
 | next =>
  obtain ⟨σ',H',I',q⟩:=q
  exact h2 pins s1 σ' H' D I' q
 | ret v=>exact q
 | brk=>exact q
 | cont=>exact q
theorem Inv.quiet {pins:List (Addr×Obj)} {σ:St} {H:Hp} {s:Shared} (I:Inv X pins σ H s):interactive X.env=false:=by simp [interactive,I.ok.kind]
def zbi1 (te:TE):TS:=fun D σ H=>te σ H fun _ H1=>D.nx σ H1
theorem zaP0 (he:PE X e te) (hs:swapsWith e none pos.line X.env=pure false:=by rfl):PS X (.Expr e pos) (zbi1 te):=by
 intro pins s σ H D I h
 exact wpAny_Expr_any (thn (he pins s σ H _ I h) fun v s1 ⟨x,H1,I1,r1,q1⟩=>⟨σ,H1,I1,q1⟩) I.quiet hs
def tRet (te:TE):TS:=fun D σ H=>te σ H D.rt
theorem zbh2 (he:PE X e te):PS X (.Return (some e) pos) (tRet te):=by
 intro pins s σ H D I h
 exact wpAny_Return_some (thn (he pins s σ H _ I h) fun v s1 ⟨x,H1,I1,r1,q1⟩=>⟨x,σ,H1,I1,r1,q1⟩)
def tIfS (c:TT) (t u:TS):TS:=fun D σ H=>c σ H fun b H1=>if b=true then t D σ H1 else u D σ H1
theorem zbj7 {c:Expr} {a b:List Stmt} {tc:TT} (hc:PT X c tc) (ha:PSs X a t) (hb:PSs X b u):PS X (.If c a b pos) (tIfS tc t u):=by
 intro pins s σ H D I h
 refine wpAny_If (thn (hc pins s σ H _ I h) fun d s1 ⟨H1,I1,q1⟩=>?_)
 cases d with
 | true=>exact ha pins s1 σ H1 D I1 q1
 | false=>exact hb pins s1 σ H1 D I1 q1
end
abbrev TG:=V→St→Hp→(St→Hp→Prop)→Prop
abbrev TGs:=List V→St→Hp→(St→Hp→Prop)→Prop
def PG (X:Cx) (target:Expr) (t:TG):Prop :=
 ∀ (pins:List (Addr×Obj)) (s:Shared) (σ:St) (H:Hp) (v:V) (u:Value) (Q:St→Hp→Prop),Inv X pins σ H s→RelV v u→t v σ H Q →
  wpAny (model X.prog X.w) X.A (assign target X.env u) (fun _ s'=>∃ σ' H',Inv X pins σ' H' s'∧Q σ' H') X.xe s
def PGs (X:Cx) (ts:List Expr) (t:TGs):Prop :=
 ∀ (pins:List (Addr×Obj)) (s:Shared) (σ:St) (H:Hp) (vs:List V) (us:List Value) (Q:St→Hp→Prop),Inv X pins σ H s→Vals vs us→t vs σ H Q →
  wpAny (model X.prog X.w) X.A (assignInOrder ((assignEach ts X.env).map (·.2)) us) (fun _ s'=>∃ σ' H',Inv X pins σ' H' s'∧Q σ' H') X.xe s
abbrev TSet:=V→V→V→Hp→(Hp→Prop)→Prop
def PSet (X:Cx) (t:TSet):Prop :=
 ∀ (pins:List (Addr×Obj)) (s:Shared) (σ:St) (H:Hp) (o i v:V) (ov iv u:Value) (Q:Hp→Prop),Inv X pins σ H s→RelV o ov→RelV i iv→RelV v u→t o i v H Q →
  wpAny (model X.prog X.w) X.A (setItem ov iv u) (fun _ s'=>∃ H',Inv X pins σ H' s'∧Q H') X.xe s
section
variable {X:Cx} {pos:Pos}
def zbg3 (i:Nat):TG:=fun v σ H Q=>Q (σ.set i (some v)) H
theorem zaR2 {i:Nat} {x:Str} (hN:X.N.Nodup) (hi:X.N[i]?=some x) (hx:Loc X.env.scope x) (hf:X.fn x=true∨X.env.scope.names.lookup x=some .local:=by first | exact .inl rfl | exact .inr rfl | assumption):PG X (.Name x pos) (zbg3 i):=by
 intro pins s σ H v u Q I r h
 exact wpAny_assign_Name (zS7 I hN hi hx r (fun s' I'=>⟨_,H,I',h⟩) hf)
def gNil:TGs:=fun vs σ H Q=>vs=[]∧Q σ H
def zbn0 (t:TG) (u:TGs):TGs:=fun vs σ H Q=>∃ v r,vs=v :: r∧t v σ H fun σ' H'=>u r σ' H' Q
theorem zaT1:PGs X [] gNil:=by
 intro pins s σ H vs us Q I r h
 obtain ⟨e,h⟩:=h
 subst e
 cases r
 exact assignInOrder_nil ⟨σ,H,I,h⟩
theorem zaG8 {e:Expr} {es:List Expr} {t:TG} {u:TGs} (h1:PG X e t) (h2:PGs X es u)
  (hs:(assignEach (e :: es) X.env).map (·.2)=assign e X.env :: (assignEach es X.env).map (·.2):=by rfl):PGs X (e :: es) (zbn0 t u):=by
 intro pins s σ H vs us Q I r h
 obtain ⟨v,vr,e1,h⟩:=h
 subst e1
 cases r with
 | cons r rr =>
  rw [hs]
  refine assignInOrder_cons (thn (h1 pins s σ H _ _ _ I r h) fun _ s1 ⟨σ1,H1,I1,q1⟩=>?_)
  exact h2 pins s1 σ1 H1 _ _ Q I1 rr q1
def gTup (K:PySem.W.Frag) (n:Nat) (t:TGs):TG:=fun v σ H Q=>∃ a xs,v=.ref a∧SqT K H a xs∧xs.length=n∧t xs σ H Q
theorem zbg2 {es:List Expr} {k:Nat} {t:TGs} {n:Nat} (hc:X.calm=true) (h:PGs X es t)
  (hn:(assignEach es X.env).length=n:=by rfl) (hst:(assignEach es X.env).findIdx? (·.1)=none:=by rfl):PG X (.Tuple es k pos) (gTup X.K n t):=by
 intro pins s σ H v u Q I r hw
 obtain ⟨a,xs,e1,hq,hl,hw⟩:=hw
 subst e1
 cases r
 obtain ⟨its,rv,ht,hz⟩:=I.tuple hq
 refine assign_Tuple_tuple (I.ok.hd hc) ht (by simp [hn,← hl,rv.length]) hst fun h' hx=>?_
 have I1:Inv X pins σ H { s with heap:=h' }:=I.kept (t':=s.toks) fun b o e=>hx b o (Nat.ne_of_lt (Heap.lt_size e)) e
 exact h pins _ σ H xs _ Q I1 (by simpa using rv) hw
def gSub (to ti:TE) (t:TSet):TG:=fun v σ H Q=>to σ H fun o H1=>ti σ H1 fun i H2=>t o i v H2 fun H3=>Q σ H3
theorem zbg1 {o i:Expr} {to ti:TE} {t:TSet} (ho:PE X o to) (hi:PE X i ti) (hs:PSet X t)
  (ha:∀ v,assign (.Subscript o i pos) X.env v=(do
   let ov ← holding [v] (eval o X.env)
   let iv ← holding [v,ov] (eval i X.env)
   standAt pos
   holding [v,ov,iv] (setItem ov iv v)
   release [v,ov,iv] []):=by intro _; rfl):PG X (.Subscript o i pos) (gSub to ti t):=by
 intro pins s σ H v u Q I r h
 rw [ha]
 refine wpAny_bind (wpAny_holding (thn (ho pins s σ H _ I h) fun ov s1 ⟨x,H1,I1,r1,q1⟩=>?_))
 refine wpAny_bind (wpAny_holding (thn (hi pins s1 σ H1 _ I1 q1) fun iv s2 ⟨y,H2,I2,r2,q2⟩=>?_))
 refine wpAny_bind (wpAny_standAt (wpAny_bind (wpAny_holding (thn (hs pins s2 σ H2 x y v ov iv u _ I2 r1 r2 r q2) fun _ s3 ⟨H3,I3,q3⟩=>?_))))
 exact wpAny_release ⟨σ,H3,I3,q3⟩
def tAsg (te:TE) (g:TG):TS:=fun D σ H=>te σ H fun x H1=>g x σ H1 D.nx
theorem zaN0 {tg e:Expr} {te:TE} {g:TG} (he:PE X e te) (hg:PG X tg g) (hs:swapsWithSole [tg] e pos.line X.env=pure false:=by rfl) (hw:swappedStores [tg] e X.env=pure none:=by rfl)
  (h1:(assignEach [tg] X.env).map (·.2)=[assign tg X.env]:=by rfl):PS X (.Assign [tg] e pos) (tAsg te g):=by
 intro pins s σ H D I h
 refine wpAny_Assign_stores (thn (he pins s σ H _ I h) fun v s1 ⟨x,H1,I1,r1,q1⟩=>?_) hs hw
 rw [h1]
 exact thn (hg pins s1 σ H1 x v _ I1 r1 q1) fun _ s2 q=>q
theorem zbc5 {i:Nat} {x:Str} {e:Expr} {te:TE} {pos':Pos} (hN:X.N.Nodup) (hi:X.N[i]?=some x) (hx:Loc X.env.scope x) (he:PE X e te) (hs:swapsWith e (some (.Name x pos')) pos.line X.env=pure false:=by rfl) (hf:X.fn x=true∨X.env.scope.names.lookup x=some .local:=by first | exact .inl rfl | exact .inr rfl | assumption) :
  PS X (.Assign [.Name x pos'] e pos) (tAsg te (zbg3 i)):=by
 intro pins s σ H D I h
 refine wpAny_Assign_Name (thn (he pins s σ H _ I h) fun v s1 ⟨y,H1,I1,r1,q1⟩=>?_) hs
 exact zS7 I1 hN hi hx r1 (fun s2 I2=>⟨_,H1,I2,q1⟩) hf
def tPar (i j:Nat) (ta:TA):TS:=fun D σ H=>ta σ H fun vs H1=>∃ v w,vs=[v,w]∧D.nx ((σ.set i (some v)).set j (some w)) H1
theorem zba2 {i j:Nat} {x y:Str} {a b:Expr} {ta:TA} {px py pt:Pos} {kt k2 pt2} (hc:X.calm=true) (hN:X.N.Nodup) (hi:X.N[i]?=some x) (hj:X.N[j]?=some y) (hij:i≠j)
  (hx:X.env.scope.names.lookup x=some .local) (hy:X.env.scope.names.lookup y=some .local) (ha:PA X [a,b] ta)
  (hw:swappedStores [.Tuple [.Name x px,.Name y py] kt pt] (.Tuple [a,b] k2 pt2) X.env=pure (some [x,y]))
  (hs:swapsWithSole [.Tuple [.Name x px,.Name y py] kt pt] (.Tuple [a,b] k2 pt2) pos.line X.env=pure false:=by rfl) :
  PS X (.Assign [.Tuple [.Name x px,.Name y py] kt pt] (.Tuple [a,b] k2 pt2) pos) (tPar i j ta):=by
 intro pins s σ H D I h
 rw [exec_Assign_arm]
 refine wpAny_bind (wpAny_standAt ?_)
 rw [hs]
 refine wpAny_bind (wpAny_pure ?_)
 rw [if_neg (by decide)]
 refine wpAny_bind (Tuple_ (thn (ha _ pins s σ H _ I h) fun us s1 ⟨vs,H1,I1,r1,q1⟩=>?_))
 obtain ⟨v,w,e1,q1⟩:=q1
 subst e1
 obtain ⟨u1,u2,rfl,rv,rw'⟩:∃ u1 u2,us=[u1,u2]∧RelV v u1∧RelV w u2:=by
  cases r1 with
  | cons p q =>
   cases q with
   | cons p' q' =>
    cases q'
    exact ⟨_,_,rfl,p,p'⟩
 refine wpAny_newObj_type ?_ (by show 2≤sizeLine; decide)
 have I2:Inv X pins σ H1 { s1 with heap:=s1.heap.push { cls:=.type "tuple",data:=.seq [u1,u2].toArray } }:=I1.kept (t':=s1.toks) fun b o e=>Heap.get?_push_of_some _ e
 rw [hw]
 refine wpAny_bind (wpAny_pure ?_)
 show wpAny (model X.prog X.w) X.A (do rule "assign.swapped-stores"; let items ← unpackItems (.ref s1.heap.objs.size) 2 none; assignInOrder [fun v=>bindName X.env y v,fun v=>bindName X.env x v] items.reverse; pure Flow.next) _ _ _
 refine wpAny_bind (wpAny_rule (wpAny_bind (unpackItems_tuple (items:=#[u1,u2]) (I.ok.hd hc) (IsTup.new s1.heap _) fun h' hx'=>?_)))
 have I3:=I2.kept (h':=h') (t':=s1.toks) fun b o e=>hx' b o (Nat.ne_of_lt (Heap.lt_size e)) e
 show wpAny _ _ (assignInOrder [fun v=>bindName X.env y v,fun v=>bindName X.env x v] [u2,u1]>>=fun _=>pure Flow.next) _ _ _
 refine wpAny_bind (assignInOrder_cons (wpAny_bindName (zS7 I3 hN hj (.inl hy) rw' (fun s2 I4=>?_) (.inr hy))))
 refine assignInOrder_cons (wpAny_bindName (zS7 I4 hN hi (.inl hx) rv (fun s3 I5=>assignInOrder_nil (wpAny_pure ?_)) (.inr hx)))
 rw [List.set_comm _ _ (Ne.symm hij)] at I5
 exact ⟨_,H1,I5,q1⟩
end
section
variable {X:Cx} {pos:Pos}
def zbb9 (c:TT) (tb:TS):TS:=fun D σ H=>∃ W:Nat→St→Hp→Prop,(∃ m,W m σ H)∧∀ m σ H,W m σ H →
 c σ H fun b H1=>if b=true then ∃ N:St→Hp→Prop,(∀ σ' H',N σ' H'→∃ m',m' < m∧W m' σ' H')∧tb { D with nx:=N,ct:=N,bk:=D.nx } σ H1 else D.nx σ H1
theorem zaK6 {c:Expr} {body:List Stmt} {tc:TT} {tb:TS} (hp:PassesOwn (model X.prog X.w) X.A X.env X.xe) (hc:PT X c tc) (hb:PSs X body tb):PS X (.While c body [] pos) (zbb9 tc tb):=by
 intro pins s σ H D I h
 obtain ⟨W,⟨m0,w0⟩,turn⟩:=h
 refine wpAny_While (codeAny_whileLoop (fun n s'=>∃ σ' H',Inv X pins σ' H' s'∧W n σ' H') ?_ m0 ⟨σ,H,I,w0⟩)
 rintro n s1 ⟨σ1,H1,I1,w1⟩
 refine wpAny_passesOwn hp (thn (hc pins s1 σ1 H1 _ I1 (turn n σ1 H1 w1)) fun b s2 ⟨H2,I2,q2⟩=>?_)
 cases b with
 | true =>
  obtain ⟨N,hN,q2⟩:=q2
  rw [if_pos rfl]
  refine wpAny_passesOwn hp (thn (hb pins s2 σ1 H2 _ I2 q2) fun f s3 q3=>?_)
  cases f with
  | next =>
   obtain ⟨σ3,H3,I3,n3⟩:=q3
   obtain ⟨m',hm,w3⟩:=hN σ3 H3 n3
   exact ⟨m',hm,σ3,H3,I3,w3⟩
  | cont =>
   obtain ⟨σ3,H3,I3,n3⟩:=q3
   obtain ⟨m',hm,w3⟩:=hN σ3 H3 n3
   exact ⟨m',hm,σ3,H3,I3,w3⟩
  | brk=>exact q3
  | ret v=>exact q3
 | false =>
  rw [if_neg Bool.false_ne_true]
  exact wpAny_execs_nil ⟨σ1,H2,I2,q2⟩
end
structure It where
 go:Nat→Hp→Prop
 yld:Nat→Hp→V→Hp→Prop
 stop:Nat→Hp→Prop
def FpOk (X:Cx) (pins:List (Addr×Obj)) (H:Hp) (b:Addr):Prop :=
 H b=none∧b≠X.env.locals∧b ∉ X.fs∧(b∈X.ex∨X.s₀.heap.objs.size≤b)∧(∀ x c,X.env.cells.lookup x=some c→c≠b)∧∀ p∈X.pn++pins,p.1≠b
theorem Inv.fpOk {X:Cx} {pins:List (Addr×Obj)} {σ:St} {H H':Hp} {s:Shared} {b:Addr} (I:Inv X pins σ H s) (hb:s.heap.objs.size≤b) (hn:H' b=none):FpOk X pins H' b:=by
 refine ⟨hn,Nat.ne_of_gt (Nat.lt_of_lt_of_le I.lt hb),I.nofs hb,.inr (Nat.le_trans I.sz hb),fun x c e z=>?_,fun p hp z=>?_⟩
 ·obtain ⟨v,q⟩:=I.cell x c e
  exact absurd (Nat.lt_of_lt_of_le q.lt (by rw [z]; exact hb)) (Nat.lt_irrefl _)
 ·exact absurd (Nat.lt_of_lt_of_le (Heap.lt_size (I.pin p hp).1) (by rw [z]; exact hb)) (Nat.lt_irrefl _)
structure Turn (P:Program) (w:World) (K:PySem.W.Frag) (tg:Expr) (J:It) (fp:List Addr) (it:Addr) (tn:Nat→Heap→Prop):Prop where
 mem:it∈fp
 obj:∀ i h,tn i h→∀ b∈fp,∃ o,h.get? b=some o∧∀ v,o.data≠.cell v
 keep:∀ i h h',tn i h→(∀ b∈fp,∀ o,h.get? b=some o→h'.get? b=some o)→tn i h'
 item:∀ (X:Cx),X.prog=P→X.w=w→X.K=K→X.calm=true→∀ (i:Nat) (pins:List (Addr×Obj)) (s:Shared) (σ:St) (H:Hp) (E:Value→Shared→Prop),Inv X pins σ H s→(∀ b∈fp,FpOk X pins H b)→tn i s.heap→J.go i H →
  wpAny (model P w) X.A (pyNext (.ref it)) (fun r s1=>∃ u,r=some u ∧
   wpAny (model P w) X.A (letOwnedTupleGo tg (.ref it) u) (fun _ s2=>∃ x H',Inv X pins σ H' s2∧RelV x u∧J.yld i H x H'∧tn (i + 1) s2.heap∧∀ b∈fp,H' b=none) E s1) E s
 done:∀ (X:Cx),X.prog=P→X.w=w→X.K=K→X.calm=true→∀ (i:Nat) (pins:List (Addr×Obj)) (s:Shared) (σ:St) (H:Hp) (E:Value→Shared→Prop),Inv X pins σ H s→(∀ b∈fp,FpOk X pins H b)→tn i s.heap→J.stop i H →
  wpAny (model P w) X.A (pyNext (.ref it)) (fun r s1=>r=none∧Inv X pins σ H s1) E s
 self:∀ (A:Around) (i:Nat) (s:Shared) (Q:Value→Shared→Prop) (E:Value→Shared→Prop),tn i s.heap→Q (.ref it) s→wpAny (model P w) A (pyIter (.ref it)) Q E s
abbrev TI:=St→Hp→(It→Hp→Prop)→Prop
def PIE (X:Cx) (pins:List (Addr×Obj)) (σ:St) (tg:Expr) (R:It→Hp→Prop) (itv:Value) (s2:Shared):Prop :=
 ∃ (it:Addr) (fp:List Addr) (tn:Nat→Heap→Prop) (J:It) (H':Hp),itv=.ref it∧Inv X pins σ H' s2∧Turn X.prog X.w X.K tg J fp it tn∧tn 0 s2.heap∧(∀ b∈fp,FpOk X pins H' b)∧R J H'
def PI (X:Cx) (tg iter:Expr) (wi:TI):Prop :=
 ∀ (pins:List (Addr×Obj)) (s:Shared) (σ:St) (H:Hp) (R:It→Hp→Prop),Inv X pins σ H s→wi σ H R →
  wpAny (model X.prog X.w) X.A (eval iter X.env) (fun v s1=>wpAny (model X.prog X.w) X.A (pyIter v) (PIE X pins σ tg R) X.xe s1) X.xe s
theorem zaV4 {M:Model} {A:Around} {E:Value→Shared→Prop} {s:Shared} {tg:Expr} {it:Addr} {u:Value} {o:Obj} {n:String} {vs:Array Value} {Q:Unit→Shared→Prop} (ho:s.heap.get? it=some o) (hc:o.cls=.type n) (hd:o.data=.fields vs)
  (hn:["enumerate","zip","dict_itemiterator","dict_reverseitemiterator","odict_iterator","itertools.zip_longest","itertools.pairwise"].contains n=false) (hQ:Q () s):wpAny M A (letOwnedTupleGo tg (.ref it) u) Q E s:=by
 unfold letOwnedTupleGo
 cases tg <;> first
  | exact wpAny_pure hQ
  | (cases u <;> first
    | exact wpAny_pure hQ
    | (refine wpAny_bind (wpAny_load ho ?_)
       rw [hc,hd]
       show wpAny M A (if (["enumerate","zip","dict_itemiterator","dict_reverseitemiterator","odict_iterator","itertools.zip_longest","itertools.pairwise"].contains n && vs[0]? == some (rawInt _))=true then _ else _) Q E s
       rw [if_neg (by intro h; rw [hn,Bool.false_and] at h; cases h)]
       exact wpAny_pure hQ))
def Itl (K:PySem.W.Frag) (a:Addr):It :=
 ⟨fun i H=>∃ xs x,SqL K H a xs∧xs[i]?=some x,fun i H x H'=>H'=H∧∀ xs,SqL K H a xs→xs[i]?=some x,fun i H=>∃ xs,SqL K H a xs∧xs.length≤i⟩
def Itt (K:PySem.W.Frag) (a:Addr):It :=
 ⟨fun i H=>∃ xs x,SqT K H a xs∧xs[i]?=some x,fun i H x H'=>H'=H∧∀ xs,SqT K H a xs→xs[i]?=some x,fun i H=>∃ xs,SqT K H a xs∧xs.length≤i⟩
def Itr (lo:Int) (n:Nat):It:=⟨fun i _=>i < n,fun i H x H'=>H'=H∧x=.int (lo + i),fun i _=>n≤i⟩
theorem zaA7 {P:Program} {w:World} {K:PySem.W.Frag} {tg:Expr} (a it:Addr):Turn P w K tg (Itl K a) [it] it (fun i h=>h.IsListIter it a i) where
 mem:=by simp
 obj:=fun i h st b hb=>by
  have e:b=it:=by simpa using hb
  subst e
  obtain ⟨o,e,c,d⟩:=st
  exact ⟨o,e,fun v z=>by rw [d] at z; cases z⟩
 keep:=fun i h h' st k=>st.at fun o e=>k it (by simp) o e
 item:=by
  intro X hP hw hK hc i pins s σ H E I hf st hg
  subst hP hw hK
  obtain ⟨xs,x,hq,hx⟩:=hg
  obtain ⟨its,rv,p,hz⟩:=I.list hq
  obtain ⟨u,hu,ru⟩:=rv.get hx
  obtain ⟨f0,f1,f2,f3,f4,f5⟩:=hf it (by simp)
  refine wpAny_pyNext_list_item st p.isList (x:=u) (by simpa using hu) fun h' st' sb=>?_
  have I1:Inv X pins σ H { s with heap:=h' }:=I.turned (t':=s.toks) (fun b o hb e=>(sb.2 b hb).trans e) f0 f1 f3 f4 f5
  obtain ⟨o,e,c,d⟩:=id st'
  exact ⟨u,rfl,zaV4 (s:={ s with heap:=h' }) e c d (by decide) ⟨x,H,I1,ru,⟨rfl,fun ys hy=>by rw [I.list_inj hy hq]; exact hx⟩,st',fun b hb=>(hf b hb).1⟩⟩
 done:=by
  intro X hP hw hK hc i pins s σ H E I hf st hg
  subst hP hw hK
  obtain ⟨xs,hq,hx⟩:=hg
  obtain ⟨its,rv,p,hz⟩:=I.list hq
  obtain ⟨f0,f1,f2,f3,f4,f5⟩:=hf it (by simp)
  have hl:=rv.length
  exact wpAny_pyNext_list_end (I.ok.hd hc) st p.isList (by simp; omega) fun h' eb=>⟨rfl,I.turned (t':=s.toks) (fun b o hb e=>eb b o hb e) f0 f1 f3 f4 f5⟩
 self:=fun _ _ _ _ _ st h=>wpAny_pyIter_listiter st h
theorem zav3 {P:Program} {w:World} {K:PySem.W.Frag} {tg:Expr} (a it:Addr):Turn P w K tg (Itt K a) [it] it (fun i h=>h.IsTupleIter it a i) where
 mem:=by simp
 obj:=fun i h st b hb=>by
  have e:b=it:=by simpa using hb
  subst e
  obtain ⟨o,e,c,d⟩:=st
  exact ⟨o,e,fun v z=>by rw [d] at z; cases z⟩
 keep:=fun i h h' st k=>st.at fun o e=>k it (by simp) o e
 item:=by
  intro X hP hw hK hc i pins s σ H E I hf st hg
  subst hP hw hK
  obtain ⟨xs,x,hq,hx⟩:=hg
  obtain ⟨its,rv,p,hz⟩:=I.tuple hq
  obtain ⟨u,hu,ru⟩:=rv.get hx
  obtain ⟨f0,f1,f2,f3,f4,f5⟩:=hf it (by simp)
  refine wpAny_pyNext_tuple_item st (show s.heap.IsTuple a its.toArray from p) (x:=u) (by simpa using hu) fun h' st' sb=>?_
  have I1:Inv X pins σ H { s with heap:=h' }:=I.turned (t':=s.toks) (fun b o hb e=>(sb.2 b hb).trans e) f0 f1 f3 f4 f5
  obtain ⟨o,e,c,d⟩:=id st'
  exact ⟨u,rfl,zaV4 (s:={ s with heap:=h' }) e c d (by decide) ⟨x,H,I1,ru,⟨rfl,fun ys hy=>by rw [I.tuple_inj hy hq]; exact hx⟩,st',fun b hb=>(hf b hb).1⟩⟩
 done:=by
  intro X hP hw hK hc i pins s σ H E I hf st hg
  subst hP hw hK
  obtain ⟨xs,hq,hx⟩:=hg
  obtain ⟨its,rv,p,hz⟩:=I.tuple hq
  obtain ⟨f0,f1,f2,f3,f4,f5⟩:=hf it (by simp)
  have hl:=rv.length
  exact wpAny_pyNext_tuple_end (I.ok.hd hc) st (show s.heap.IsTuple a its.toArray from p) (by simp; omega) fun h' eb=>⟨rfl,I.turned (t':=s.toks) (fun b o hb e=>eb b o hb e) f0 f1 f3 f4 f5⟩
 self:=fun _ _ _ _ _ st h=>wpAny_pyIter_tupleiter st h
theorem zau1 {P:Program} {w:World} {K:PySem.W.Frag} {tg:Expr} (it:Addr) (lo:Int) (n:Nat):Turn P w K tg (Itr lo n) [it] it (fun i h=>IsRangeIter h it (lo + (i:Nat) * 1) ((n:Int) - (i:Nat)) 1) where
 mem:=by simp
 obj:=fun i h st b hb=>by
  have e:b=it:=by simpa using hb
  subst e
  exact ⟨_,st,fun v z=>by
   have z':Data.fields _=Data.cell v:=z
   cases z'⟩
 keep:=fun i h h' st k=>k it (by simp) _ st
 item:=by
  intro X hP hw hK hc i pins s σ H E I hf st hg
  subst hP hw hK
  obtain ⟨f0,f1,f2,f3,f4,f5⟩:=hf it (by simp)
  have W:=Walks.range (prog:=X.prog) (w:=X.w) (I.ok.hd hc) it lo 1 n
  refine W.item i s _ _ hg st fun v h' tk hv st' kk=>?_
  obtain ⟨t,rfl⟩:=hv
  have I1:Inv X pins σ H { s with heap:=h',toks:=tk }:=I.turned (fun b o hb e=>kk b o (by simpa using hb) e) f0 f1 f3 f4 f5
  refine ⟨_,rfl,zaV4 (s:={ s with heap:=h',toks:=tk }) (n:="range_iterator") st' rfl rfl (by decide) ⟨.int (lo + i),H,I1,⟨t,?_⟩,⟨rfl,rfl⟩,st',fun b hb=>(hf b hb).1⟩⟩
  rw [Int.mul_one]
 done:=by
  intro X hP hw hK hc i pins s σ H E I hf st hg
  subst hP hw hK
  obtain ⟨f0,f1,f2,f3,f4,f5⟩:=hf it (by simp)
  exact wpAny_pyNext_range_end (I.ok.hd hc) st (by have:n≤i:=hg; omega) fun h' eb=>⟨rfl,I.turned (t':=s.toks) (fun b o hb e=>eb b o hb e) f0 f1 f3 f4 f5⟩
 self:=fun _ _ _ _ _ st h=>wpAny_pyIter_rangeiter st h
end L2
namespace L2
open PySem PySem.Spec PyProof.Rows
section
variable {X:Cx} {tg:Expr}
theorem zaI0 {pins:List (Addr×Obj)} {σ:St} {H:Hp} {s:Shared} {R:It→Hp→Prop} {E:Value→Shared→Prop} {lo hi:Int} {t u v:Tok} {tk:Nat} (I:Inv X pins σ H s) (h1:-(2 ^ 62)≤lo) (h2:lo < 2 ^ 62) (h3:-(2 ^ 62)≤hi) (h4:hi < 2 ^ 62)
  (q:R (Itr lo (hi - lo).toNat) H):wpAny (model X.prog X.w) X.A (pyIter (.ref s.heap.objs.size)) (PIE X pins σ tg R) E { s with heap:=s.heap.push { cls:=.type "range",data:=.fields #[.int lo t,.int hi u,.int 1 v] },toks:=tk }:=by
 refine wpAny_pyIter_range (IsRange.new ..) (small_one h1 h2 h3 h4) ?_
 have I1:Inv X pins σ H { s with heap:=s.heap.push { cls:=.type "range",data:=.fields #[.int lo t,.int hi u,.int 1 v] },toks:=tk }:=I.kept fun b o e=>Heap.get?_push_of_some _ e
 refine ⟨(s.heap.push { cls:=.type "range",data:=.fields #[.int lo t,.int hi u,.int 1 v] }).objs.size,[(s.heap.push { cls:=.type "range",data:=.fields #[.int lo t,.int hi u,.int 1 v] }).objs.size],_,_,H,rfl,
  I1.kept (t':=tk) fun b o e=>Heap.get?_push_of_some _ e,zau1 _ lo (hi - lo).toNat,?_,fun b hb=>?_,q⟩
 ·have e1:lo + ((0:Nat):Int) * 1=lo:=by simp
  have e2:(((hi - lo).toNat:Nat):Int) - ((0:Nat):Int)=Builtin.Range.rangeSize lo hi 1:=by rw [rangeSize_one]; split <;> omega
  show IsRangeIter _ _ (lo + ((0:Nat):Int) * 1) ((((hi - lo).toNat:Nat):Int) - ((0:Nat):Int)) 1
  rw [e1,e2]
  exact Heap.get?_push_size _ rfl
 ·have e:b=(s.heap.push { cls:=.type "range",data:=.fields #[.int lo t,.int hi u,.int 1 v] }).objs.size:=by simpa using hb
  subst e
  exact I1.fpOk (Nat.le_refl _) (I1.hok.fresh (Nat.le_refl _))
def zbm2 (ta:TA):TI:=fun σ H R=>ta σ H fun vs H1=>∃ j:Int,vs=[.int j]∧-(2 ^ 62)≤j∧j < 2 ^ 62∧R (Itr 0 j.toNat) H1
theorem zax8 {a:Expr} {ta:TA} {p pos:Pos} (hg:Gl X "range") (hm:X.mg "range"=none) (ha:PA X [a] ta) (hs:starEach [a] X.env=[(false,eval a X.env)]:=by rfl):PI X tg (.Call (.Name "range" p) [a] [] pos) (zbm2 ta):=by
 intro pins s σ H R I h
 refine Call_ (zP2 I hg hm boot_range (PyProof.Rows.callWith_type1 (thn (ha pos pins s σ H _ I h) fun us s1 ⟨vs,H1,I1,r1,q1⟩=>?_) hs rfl))
 obtain ⟨j,e,q1,q2,q⟩:=q1
 subst e
 cases r1 with
 | cons r rr =>
  cases rr
  obtain ⟨t,rfl⟩:=r
  exact call_range_1 (zaI0 I1 (by omega) (by omega) q1 q2 (by simpa using q))
def tFor (wi:TI) (g:TG) (tb:TS):TS:=fun D σ H=>wi σ H fun J H1=>∃ W:Nat→Nat→St→Hp→Prop,(∃ m,W 0 m σ H1)∧∀ i m σ H,W i m σ H →
 (J.stop i H∧D.nx σ H)∨(J.go i H∧∃ N:St→Hp→Prop,(∀ σ' H',N σ' H'→∃ m',m' < m∧W (i + 1) m' σ' H')∧∀ x H',J.yld i H x H'→g x σ H' fun σ2 H2=>tb { D with nx:=N,ct:=N,bk:=D.nx } σ2 H2)
def zT6 (fp:List Addr) (h:Heap):List (Addr×Obj):=fp.filterMap fun b=>(h.get? b).map fun o=>(b,o)
theorem zm5 {fp:List Addr} {h:Heap} {b:Addr} {o:Obj} (hb:b∈fp) (e:h.get? b=some o):(b,o)∈zT6 fp h:=List.mem_filterMap.mpr ⟨b,hb,by rw [e]; rfl⟩
theorem zaA3 {fp:List Addr} {h:Heap} {p:Addr×Obj} (hp:p∈zT6 fp h):p.1∈fp∧h.get? p.1=some p.2:=by
 obtain ⟨b,hb,e⟩:=List.mem_filterMap.mp hp
 cases q:h.get? b with
 | none=>rw [q] at e; cases e
 | some o =>
  rw [q] at e
  have e':(b,o)=p:=Option.some.inj e
  subst e'
  exact ⟨hb,q⟩
theorem Inv.pinned {pins:List (Addr×Obj)} {σ:St} {H:Hp} {s:Shared} {fp:List Addr} (I:Inv X pins σ H s) (hf:∀ b∈fp,FpOk X pins H b) (ho:∀ b∈fp,∃ o,s.heap.get? b=some o∧∀ v,o.data≠.cell v):Inv X (pins++zT6 fp s.heap) σ H s :=
 I.pins_of fun p hp=>(List.mem_append.mp hp).elim (fun z=>I.pin p (List.mem_append_right _ z)) fun z=>by
  obtain ⟨hb,e⟩:=zaA3 z
  obtain ⟨f0,f1,f2,_⟩:=hf p.1 hb
  obtain ⟨o,e',d⟩:=ho p.1 hb
  rw [e] at e'; cases e'
  exact ⟨e,f0,f1,f2,d⟩
theorem Inv.unpinned {pins pl:List (Addr×Obj)} {σ:St} {H:Hp} {s:Shared} (I:Inv X (pins++pl) σ H s):Inv X pins σ H s:=I.pins_of fun p hp=>I.pin p (List.mem_append_right _ (List.mem_append_left _ hp))
theorem zbc9 {iter:Expr} {body:List Stmt} {wi:TI} {g:TG} {tb:TS} {pos:Pos} (hp:PassesOwn (model X.prog X.w) X.A X.env X.xe) (hc:X.calm=true) (hi:PI X tg iter wi) (hg:PG X tg g) (hb:PSs X body tb)
  (hs:∀ x,foldedSetIterable iter X.env x=pure x:=by intro _; rfl):PS X (.For tg iter body [] pos) (tFor wi g tb):=by
 intro pins s σ H D I h
 refine wpAny_For (thn (hi pins s σ H _ I h) fun v s1 h1=>thn h1 fun itv s2 h2=>?_) hs
 obtain ⟨it,fp,tn,J,H2,e,I2,T,st2,f2,W,⟨m0,w0⟩,turn⟩:=h2
 subst e
 -- what stays true of the iterator's objects through the loop
 have stat:∀ {H':Hp},(∀ b∈fp,H' b=none)→∀ b∈fp,FpOk X pins H' b:=fun hn b hb=>⟨hn b hb,(f2 b hb).2⟩
 refine codeAny_forLoop_any (fun n s'=>∃ i σ' H',Inv X pins σ' H' s'∧tn i s'.heap∧(∀ b∈fp,H' b=none)∧W i n σ' H') ?_ m0 ⟨0,σ,H2,I2,st2,fun b hb=>(f2 b hb).1,w0⟩
 rintro n s3 ⟨i,σ3,H3,I3,st3,fr3,w3⟩
 rcases turn i n σ3 H3 w3 with ⟨stop,qn⟩ | ⟨go,N,hN,step⟩
 ·refine wpAny_passesOwn hp (thn (T.done X rfl rfl rfl hc i pins s3 σ3 H3 X.xe I3 (stat fr3) st3 stop) fun r s4 ⟨hr,I4⟩=>?_)
  subst hr
  exact wpAny_execs_nil ⟨σ3,H3,I4,qn⟩
 ·refine wpAny_passesOwn hp (thn (T.item X rfl rfl rfl hc i pins s3 σ3 H3 X.xe I3 (stat fr3) st3 go) fun r s4 ⟨u,hr,h4⟩=>?_)
  subst hr
  refine wpAny_passesOwn hp (thn h4 fun _ s5 ⟨x,H5,I5,r5,y5,st5,fr5⟩=>?_)
  have I5':=I5.pinned (stat fr5) (T.obj _ _ st5)
  refine wpAny_passesOwn hp (thn (hg _ s5 σ3 H5 x u _ I5' r5 (step x H5 y5)) fun _ s6 ⟨σ6,H6,I6,q6⟩=>?_)
  refine wpAny_passesOwn hp (thn (hb _ s6 σ6 H6 _ I6 q6) fun f s7 q7=>?_)
  have again:∀ {σ7:St} {H7:Hp},Inv X (pins++zT6 fp s5.heap) σ7 H7 s7→N σ7 H7→∃ m,m < n∧∃ i σ' H',Inv X pins σ' H' s7∧tn i s7.heap∧(∀ b∈fp,H' b=none)∧W i m σ' H':=fun {σ7 H7} I7 n7=>by
   obtain ⟨m',hm,w7⟩:=hN σ7 H7 n7
   refine ⟨m',hm,i + 1,σ7,H7,I7.unpinned,T.keep _ _ _ st5 fun b hb o e=>(I7.pin (b,o) (List.mem_append_right _ (List.mem_append_right _ (zm5 hb e)))).1,fun b hb=>?_,w7⟩
   obtain ⟨o,e,d⟩:=T.obj _ _ st5 b hb
   exact (I7.pin (b,o) (List.mem_append_right _ (List.mem_append_right _ (zm5 hb e)))).2.1
  cases f with
  | next=>obtain ⟨σ7,H7,I7,n7⟩:=q7; exact again I7 n7
  | cont=>obtain ⟨σ7,H7,I7,n7⟩:=q7; exact again I7 n7
  | brk=>obtain ⟨σ7,H7,I7,q7⟩:=q7; exact ⟨σ7,H7,I7.unpinned,q7⟩
  | ret v=>obtain ⟨x7,σ7,H7,I7,r7,q7⟩:=q7; exact ⟨x7,σ7,H7,I7.unpinned,r7,q7⟩
end
end L2
namespace L2
open PySem PySem.Spec PyProof.Rows
abbrev R2:=V→V→Hp→VK→Prop
def OpR (X:Cx) (f:Value→Value→Sem Value) (r:R2):Prop :=
 ∀ (pins:List (Addr×Obj)) (s:Shared) (σ:St) (H:Hp) (x y:V) (v u:Value) (Q:VK),Inv X pins σ H s→RelV x v→RelV y u→r x y H Q →
  wpAny (model X.prog X.w) X.A (f v u) (EP X pins σ Q) X.xe s
def UnR (X:Cx) (f:Value→Sem Value) (r:V→Hp→VK→Prop):Prop :=
 ∀ (pins:List (Addr×Obj)) (s:Shared) (σ:St) (H:Hp) (x:V) (v:Value) (Q:VK),Inv X pins σ H s→RelV x v→r x H Q →
  wpAny (model X.prog X.w) X.A (f v) (EP X pins σ Q) X.xe s
def CallR (X:Cx) (f:Value) (r:List V→Hp→VK→Prop):Prop :=
 ∀ (pins:List (Addr×Obj)) (s:Shared) (σ:St) (H:Hp) (xs:List V) (us:List Value) (Q:VK),Inv X pins σ H s→Vals xs us→r xs H Q →
  wpAny (model X.prog X.w) X.A (call f us) (EP X pins σ Q) X.xe s
def tOp (r:R2) (ta tb:TE):TE:=fun σ H Q=>ta σ H fun x H1=>tb σ H1 fun y H2=>r x y H2 Q
def tUn (r:V→Hp→VK→Prop) (ta:TE):TE:=fun σ H Q=>ta σ H fun x H1=>r x H1 Q
def rI (C:Int→Int→Prop) (g:Int→Int→V):R2:=fun x y H Q=>∃ i j,x=.int i∧y=.int j∧C i j∧Q (g i j) H
def rI0 (g:Int→Int→V):R2:=fun x y H Q=>∃ i j,x=.int i∧y=.int j∧Q (g i j) H
def rU (g:Int→V):V→Hp→VK→Prop:=fun x H Q=>∃ i,x=.int i∧Q (g i) H
section
variable {X:Cx} {a b c:Expr} {ta tb tc:TE} {pos:Pos}
theorem binT (ha:PE X a ta) (hb:PE X b tb) {pins:List (Addr×Obj)} {s:Shared} {σ:St} {H:Hp} {R:V→V→Hp→Prop} (I:Inv X pins σ H s)
  (h:ta σ H fun x H1=>tb σ H1 fun y H2=>R x y H2) {Q:Value→Shared→Prop} {f:Value→Value→Sem Value}
  (hf:∀ v u s2 x y H2,Inv X pins σ H2 s2→RelV x v→RelV y u→R x y H2→wpAny (model X.prog X.w) X.A (f v u) Q X.xe s2) :
  wpAny (model X.prog X.w) X.A (eval a X.env) (fun v s₁=>wpAny (model X.prog X.w) X.A (eval b X.env) (fun u s₂=>wpAny (model X.prog X.w) X.A (f v u) Q X.xe s₂) X.xe s₁) X.xe s:=by
 refine thn (ha pins s σ H _ I h) fun v s1 ⟨x,H1,I1,r1,q1⟩=>?_
 refine thn (hb pins s1 σ H1 _ I1 q1) fun u s2 ⟨y,H2,I2,r2,q2⟩=>?_
 exact hf v u s2 x y H2 I2 r1 r2 q2
theorem zbi8 {op:UnaryOp} {r:V→Hp→VK→Prop} (ho:UnR X (unaryOp op) r) (ha:PE X a ta):PE X (.UnaryOp op a pos) (tUn r ta):=by
 intro pins s σ H Q I h
 exact UnaryOp_ (thn (ha pins s σ H _ I h) fun v s1 ⟨x,H1,I1,r1,q1⟩=>ho pins s1 σ H1 x v Q I1 r1 q1)
theorem opI {f:Value→Value→Sem Value} {C:Int→Int→Prop} {g:Int→Int→Int}
  (rule:∀ (i j:Int) (t u:Tok) (s:Shared) (Q:Value→Shared→Prop) (E:Value→Shared→Prop),C i j→Q (.int (g i j) s.toks) { s with toks:=s.toks + 1 }→wpAny (model X.prog X.w) X.A (f (.int i t) (.int j u)) Q E s) :
  OpR X f (rI C fun i j=>.int (g i j)):=by
 intro pins s σ H x y v u Q I rx ry h
 obtain ⟨i,j,rfl,rfl,hc,q⟩:=h
 obtain ⟨t,rfl⟩:=rx
 obtain ⟨t',rfl⟩:=ry
 exact rule i j t t' s _ _ hc ⟨.int (g i j),H,I.tok _,⟨_,rfl⟩,q⟩
theorem opI0 {f:Value→Value→Sem Value} {g:Int→Int→Int}
  (rule:∀ (i j:Int) (t u:Tok) (s:Shared) (Q:Value→Shared→Prop) (E:Value→Shared→Prop),Q (.int (g i j) s.toks) { s with toks:=s.toks + 1 }→wpAny (model X.prog X.w) X.A (f (.int i t) (.int j u)) Q E s) :
  OpR X f (rI0 fun i j=>.int (g i j)):=by
 intro pins s σ H x y v u Q I rx ry h
 obtain ⟨i,j,rfl,rfl,q⟩:=h
 obtain ⟨t,rfl⟩:=rx
 obtain ⟨t',rfl⟩:=ry
 exact rule i j t t' s _ _ ⟨.int (g i j),H,I.tok _,⟨_,rfl⟩,q⟩
theorem opB0 {f:Value→Value→Sem Value} {g:Int→Int→Bool}
  (rule:∀ (i j:Int) (t u:Tok) (s:Shared) (Q:Value→Shared→Prop) (E:Value→Shared→Prop),Q (.bool (g i j)) s→wpAny (model X.prog X.w) X.A (f (.int i t) (.int j u)) Q E s) :
  OpR X f (rI0 fun i j=>.bl (g i j)):=by
 intro pins s σ H x y v u Q I rx ry h
 obtain ⟨i,j,rfl,rfl,q⟩:=h
 obtain ⟨t,rfl⟩:=rx
 obtain ⟨t',rfl⟩:=ry
 exact rule i j t t' s _ _ ⟨.bl (g i j),H,I,rfl,q⟩
def CPow (i j:Int):Prop:=0≤j∧j≤1000000∧i.natAbs < 2 ^ 64
def CMul (i j:Int):Prop:=(-(2 ^ 64) < i∧i < 2 ^ 64)∨(-(2 ^ 64) < j∧j < 2 ^ 64)
theorem CMul.ok {i j:Int} (h:CMul i j):IntMulOk i j:=by
 rcases h with ⟨h1,h2⟩ | ⟨h1,h2⟩
 ·exact .of_left (intBits_le_64 h1 h2)
 ·exact .of_right (intBits_le_64 h1 h2)
theorem zaY1:OpR X (binaryOp .Add) (rI0 fun i j=>.int (i + j)):=opI0 fun _ _ _ _ _ _ _ q=>add_int q
theorem zba9:OpR X (binaryOp .Sub) (rI0 fun i j=>.int (i - j)):=opI0 fun _ _ _ _ _ _ _ q=>sub_int q
theorem zaS9:OpR X (binaryOp .Mod) (rI (fun _ j=>j≠0) fun i j=>.int (i.fmod j)):=opI fun _ _ _ _ _ _ _ hc q=>mod_int' hc q
theorem zbe8:OpR X (binaryOp .Pow) (rI CPow fun i j=>.int (i ^ j.toNat)):=opI fun _ _ _ _ _ _ _ hc q=>pow_int_small hc.1 hc.2.1 hc.2.2 q
theorem unI {f:Value→Sem Value} {g:Int→Int}
  (rule:∀ (i:Int) (t:Tok) (s:Shared) (Q:Value→Shared→Prop) (E:Value→Shared→Prop),Q (.int (g i) s.toks) { s with toks:=s.toks + 1 }→wpAny (model X.prog X.w) X.A (f (.int i t)) Q E s) :
  UnR X f (rU fun i=>.int (g i)):=by
 intro pins s σ H x v Q I rx h
 obtain ⟨i,rfl,q⟩:=h
 obtain ⟨t,rfl⟩:=rx
 exact rule i t s _ _ ⟨.int (g i),H,I.tok _,⟨_,rfl⟩,q⟩
theorem zba8:UnR X (unaryOp .USub) (rU fun i=>.int (-i)):=unI fun _ _ _ _ _ q=>neg_int q
end
def scal:V→V→Bool
 | .non,.non=>true | .non,.int _=>true | .int _,.non=>true | .non,.bl _=>true | .bl _,.non=>true | .non,.str _=>true | .str _,.non=>true
 | .int _,.int _=>true | .bl _,.bl _=>true | .str _,.str _=>true | .byt _,.byt _=>true
 | .int _,.str _=>true | .str _,.int _=>true | .bl _,.str _=>true | .str _,.bl _=>true
 | _,_=>false
def rEq:R2:=fun x y H Q=>scal x y=true∧Q (.bl (decide (x=y))) H
def rNe:R2:=fun x y H Q=>scal x y=true∧Q (.bl (!decide (x=y))) H
theorem zaz2 {i j:Int}:decide (V.int i=V.int j)=(i == j):=by
 rw [Bool.eq_iff_iff]
 simp
theorem zaN1 {i j:Bool}:decide (V.bl i=V.bl j)=(i == j):=by
 rw [Bool.eq_iff_iff]
 simp
theorem zaD4 {i j:Str}:decide (V.str i=V.str j)=(i == j):=by
 rw [Bool.eq_iff_iff]
 simp
theorem zaE1 {i j:Array UInt8}:decide (V.byt i=V.byt j)=(i.toList == j.toList):=by
 rw [Bool.eq_iff_iff]
 cases i
 cases j
 simp
section
variable {X:Cx} {a b c:Expr} {ta tb tc:TE} {pos:Pos}
theorem zf0 {pins:List (Addr×Obj)} {σ:St} {H:Hp} {s:Shared} {Q:VK} {k k':Bool} (I:Inv X pins σ H s) (q:Q (.bl k) H) (e:k=k'):EP X pins σ Q (.bool k') s:=by
 subst e
 exact ⟨.bl k,H,I,rfl,q⟩
theorem zbk8:OpR X (compareOp .Eq) rEq:=by
 intro pins s σ H x y v u Q I rx ry h
 obtain ⟨hs,q⟩:=h
 cases x with
 | non =>
  cases rx
  cases y with
  | non=>cases ry; exact PySem.EqNone.eq_none_none (zf0 I q (by simp))
  | bl j=>cases ry; exact PySem.EqNone.eq_none_bool (zf0 I q (by simp))
  | int j=>obtain ⟨t',rfl⟩:=ry; exact PySem.EqNone.eq_none_int (zf0 I q (by simp))
  | str j=>obtain ⟨t',rfl⟩:=ry; exact PySem.EqNone.eq_none_str (zf0 I q (by simp))
  | _=>exact absurd (show false=true from hs) Bool.false_ne_true
 | bl i =>
  cases rx
  cases y with
  | non=>cases ry; exact PySem.EqNone.eq_bool_none (zf0 I q (by simp))
  | bl j=>cases ry; exact eq_bool (zf0 I q zaN1)
  | str j=>obtain ⟨t',rfl⟩:=ry; exact PySem.EqMixed.eq_bool_str (zf0 I q (by simp))
  | _=>exact absurd (show false=true from hs) Bool.false_ne_true
 | int i =>
  obtain ⟨t,rfl⟩:=rx
  cases y with
  | non=>cases ry; exact PySem.EqNone.eq_int_none (zf0 I q (by simp))
  | int j=>obtain ⟨t',rfl⟩:=ry; exact eq_int (zf0 I q zaz2)
  | str j=>obtain ⟨t',rfl⟩:=ry; exact PySem.EqMixed.eq_int_str (zf0 I q (by simp))
  | _=>exact absurd (show false=true from hs) Bool.false_ne_true
 | str i =>
  obtain ⟨t,rfl⟩:=rx
  cases y with
  | non=>cases ry; exact PySem.EqNone.eq_str_none (zf0 I q (by simp))
  | bl j=>cases ry; exact PySem.EqMixed.eq_str_bool (zf0 I q (by simp))
  | int j=>obtain ⟨t',rfl⟩:=ry; exact PySem.EqMixed.eq_str_int (zf0 I q (by simp))
  | str j=>obtain ⟨t',rfl⟩:=ry; exact eq_str (zf0 I q zaD4)
  | _=>exact absurd (show false=true from hs) Bool.false_ne_true
 | byt i =>
  obtain ⟨t,rfl⟩:=rx
  cases y with
  | byt j=>obtain ⟨t',rfl⟩:=ry; exact PySem.W.eq_bytes (zf0 I q zaE1)
  | _=>exact absurd (show false=true from hs) Bool.false_ne_true
 | _=>cases y <;> exact absurd (show false=true from hs) Bool.false_ne_true
theorem zbm8:OpR X (compareOp .NotEq) rNe:=by
 intro pins s σ H x y v u Q I rx ry h
 obtain ⟨hs,q⟩:=h
 cases x with
 | non =>
  cases rx
  cases y with
  | non=>cases ry; exact PySem.EqNone.ne_none_none (zf0 I q (by simp))
  | bl j=>cases ry; exact PySem.EqNone.ne_none_bool (zf0 I q (by simp))
  | int j=>obtain ⟨t',rfl⟩:=ry; exact PySem.EqNone.ne_none_int (zf0 I q (by simp))
  | str j=>obtain ⟨t',rfl⟩:=ry; exact PySem.EqNone.ne_none_str (zf0 I q (by simp))
  | _=>exact absurd (show false=true from hs) Bool.false_ne_true
 | bl i =>
  cases rx
  cases y with
  | non=>cases ry; exact PySem.EqNone.ne_bool_none (zf0 I q (by simp))
  | bl j=>cases ry; exact ne_bool (zf0 I q (congrArg not zaN1))
  | str j=>obtain ⟨t',rfl⟩:=ry; exact PySem.EqMixed.ne_bool_str (zf0 I q (by simp))
  | _=>exact absurd (show false=true from hs) Bool.false_ne_true
 | int i =>
  obtain ⟨t,rfl⟩:=rx
  cases y with
  | non=>cases ry; exact PySem.EqNone.ne_int_none (zf0 I q (by simp))
  | int j=>obtain ⟨t',rfl⟩:=ry; exact ne_int (zf0 I q (congrArg not zaz2))
  | str j=>obtain ⟨t',rfl⟩:=ry; exact PySem.EqMixed.ne_int_str (zf0 I q (by simp))
  | _=>exact absurd (show false=true from hs) Bool.false_ne_true
 | str i =>
  obtain ⟨t,rfl⟩:=rx
  cases y with
  | non=>cases ry; exact PySem.EqNone.ne_str_none (zf0 I q (by simp))
  | bl j=>cases ry; exact PySem.EqMixed.ne_str_bool (zf0 I q (by simp))
  | int j=>obtain ⟨t',rfl⟩:=ry; exact PySem.EqMixed.ne_str_int (zf0 I q (by simp))
  | str j=>obtain ⟨t',rfl⟩:=ry; exact ne_str (zf0 I q (congrArg not zaD4))
  | _=>exact absurd (show false=true from hs) Bool.false_ne_true
 | byt i =>
  obtain ⟨t,rfl⟩:=rx
  cases y with
  | byt j=>obtain ⟨t',rfl⟩:=ry; exact PySem.W.ne_bytes (zf0 I q (congrArg not zaE1))
  | _=>exact absurd (show false=true from hs) Bool.false_ne_true
 | _=>cases y <;> exact absurd (show false=true from hs) Bool.false_ne_true
theorem zbh8:OpR X (compareOp .Lt) (rI0 fun i j=>.bl (decide (i < j))):=opB0 fun _ _ _ _ _ _ _ q=>lt_int q
theorem zbj4:OpR X (compareOp .Gt) (rI0 fun i j=>.bl (decide (j < i))):=opB0 fun _ _ _ _ _ _ _ q=>gt_int q
theorem OpR.or {f:Value→Value→Sem Value} {r r':R2} (h:OpR X f r) (h':OpR X f r'):OpR X f (fun x y H Q=>r x y H Q∨r' x y H Q):=by
 intro pins s σ H x y v u Q I rx ry q
 rcases q with q | q
 ·exact h pins s σ H x y v u Q I rx ry q
 ·exact h' pins s σ H x y v u Q I rx ry q
theorem zas6 (b:Expr) {op:CmpOp} (h:op≠.In:=by decide) (h2:op≠.NotIn:=by decide):behindInMarks op b=false:=by
 have e1:(op == CmpOp.In)=false:=by cases op <;> first | rfl | exact absurd rfl h
 have e2:(op == CmpOp.NotIn)=false:=by cases op <;> first | rfl | exact absurd rfl h2
 cases b <;> simp [behindInMarks,e1,e2]
theorem zR2:(sizeLine:Nat) < 2 ^ 63:=by rw [sizeLine_eq]; decide
theorem zau8:OpR X (binaryOp .Add) (fun x y H Q=>∃ i j,x=.str i∧y=.str j∧i.length + j.length≤sizeLine∧Q (.str (i++j)) H):=by
 intro pins s σ H x y v u Q I rx ry h
 obtain ⟨i,j,rfl,rfl,hz,q⟩:=h
 obtain ⟨t,rfl⟩:=rx
 obtain ⟨t',rfl⟩:=ry
 exact add_str (fun t' tk=>⟨.str (i++j),H,I.tok _,⟨_,rfl⟩,q⟩) hz
theorem zS0 {x:V} {us:List Value} (r:Vals [x] us):∃ u,us=[u]∧RelV x u:=by
 cases r with
 | cons r1 r2=>cases r2; exact ⟨_,rfl,r1⟩
theorem zaS1 {x y:V} {us:List Value} (r:Vals [x,y] us):∃ u w',us=[u,w']∧RelV x u∧RelV y w':=by
 cases r with
 | cons r1 r2 =>
  cases r2 with
  | cons r3 r4=>cases r4; exact ⟨_,_,rfl,r1,r3⟩
theorem zaG0:CallR X (.builtin "abs") (fun xs H Q=>∃ i,xs=[.int i]∧Q (.int (if i < 0 then -i else i)) H):=by
 intro pins s σ H xs us Q I r h
 obtain ⟨i,rfl,q⟩:=h
 obtain ⟨u,rfl,t,rfl⟩:=zS0 r
 exact call_abs_int fun u tk=>⟨.int (if i < 0 then -i else i),H,I.tok _,⟨_,rfl⟩,q⟩
theorem zag8:CallR X (.type "int") (fun xs H Q=>(∃ i,xs=[.int i]∧Q (.int i) H)∨∃ k,xs=[.bl k]∧Q (.int (if k then 1 else 0)) H):=by
 intro pins s σ H xs us Q I r h
 rcases h with ⟨i,rfl,q⟩ | ⟨k,rfl,q⟩
 ·obtain ⟨u,rfl,t,rfl⟩:=zS0 r
  exact call_int_int ⟨.int i,H,I,⟨_,rfl⟩,q⟩
 ·obtain ⟨u,rfl,r1⟩:=zS0 r
  cases r1
  exact call_int_bool ⟨.int (if k then 1 else 0),H,I.tok _,⟨_,rfl⟩,q⟩
end
end L2
namespace L2
open PySem PySem.Spec PyProof.Rows
structure ObjM (h:Heap) (x dx C:Addr) (mA:Str→Option Value):Prop where
 obj:h.get? x=some (PySem.W.instObj C dx)
 ns:h.Ns1 dx mA
 ne:dx≠x
theorem zaC7 {h:Heap} {dx:Addr} {mA:Str→Option Value} (n:h.Ns1 dx mA):∃ od,h.get? dx=some od∧∀ name,PySem.W.lookIn name od=some (mA name):=by
 obtain ⟨o,es,ep,ho,hd,hk,_,hm⟩:=n
 refine ⟨o,ho,fun name=>?_⟩
 have e:=hm name
 unfold nsFind findBy at e
 rw [← Array.find?_toList] at e
 unfold PySem.W.lookIn
 rw [hd]
 dsimp only
 split
 ·rename_i y q
  rw [q] at e
  exact congrArg some e
 ·rename_i q
  rw [q] at e
  have a:es.toList.any (·.refKey)=false:=by
   rw [List.any_eq_false]
   intro y hy
   obtain ⟨z,t,hkey⟩:=hk y (Array.mem_toList_iff.mp hy)
   simp [DictEntry.refKey,hkey]
  have a':¬ es.toList.any (·.refKey)=true:=by rw [a]; exact Bool.false_ne_true
  rw [if_neg a']
  exact congrArg some e
theorem ObjM.look {h:Heap} {x dx C:Addr} {mA:Str→Option Value} (I:ObjM h x dx C mA):∃ od,PySem.W.InstAt h x (PySem.W.instObj C dx) C (some od)∧∀ name,PySem.W.lookIn name od=some (mA name) :=
 let ⟨od,ho,hl⟩:=zaC7 I.ns
 ⟨od,⟨I.obj,rfl,rfl,ho⟩,hl⟩
section
variable {prog:Program} {w:World} {A:Around} {E:Value→Shared→Prop} {s:Shared} {K:PySem.W.Frag} {x dx C f:Addr} {mA:Str→Option Value} {name:Str} {v:Value}
theorem zam4 {expr:Bool} {Q:Value→Shared→Prop} (X:K.In s.heap) (I:ObjM s.heap x dx C mA) (hg:PySem.W.plainGet K C name=true) (hh:PySem.W.hasDictIn K C=true)
  (ha:PySem.W.findIn K (.ref C) name=some none) (hv:mA name=some v) (hv':PySem.W.handedIn v=true) (h:Q v { s with toks:=s.toks + 1 }) :
  wpAny (model prog w) A (getAttr (.ref x) name expr) Q E s:=by
 obtain ⟨od,J,hl⟩:=I.look
 exact PySem.W.get_value X J (PySem.W.plainGet_of hg).1 (PySem.W.findObj_own hh ha rfl (by rw [hl,hv])) hv' h
end
theorem RelO.some_of {v:V} {o:Option Value} (r:RelO (some v) o):∃ u,o=some u∧RelV v u:=by
 cases o with
 | none=>exact (show False from r).elim
 | some u=>exact ⟨u,rfl,r⟩
section
variable {P:Program} {w:World} {H H':Hp} {h h':Heap} {a C dx:Addr} {fs fs':List (Str×V)}
end
structure Cls (K:PySem.W.Frag) (C:Addr):Prop where
 pg:PySem.W.plainGet K C Str.empty=true
 hd:PySem.W.hasDictIn K C=true
 po:PySem.W.plainOver K C=true
 sa:PySem.W.findIn K (.ref C) "__setattr__"=some (some (.builtin "object.__setattr__"))
theorem Cls.get {K:PySem.W.Frag} {C:Addr} (c:Cls K C) (f:Str):PySem.W.plainGet K C f=true:=c.pg
section
variable {X:Cx} {pins:List (Addr×Obj)} {σ:St} {H:Hp} {s:Shared} {a C dx:Addr} {fs:List (Str×V)} {f:Str} {v:V} {A:Around} {E:Value→Shared→Prop}
end
section
variable {X:Cx} {o e value:Expr} {f:Str} {pos pos' tpos:Pos} {ta tv:TE}
end
section
variable {X:Cx} {pins:List (Addr×Obj)} {σ:St} {H:Hp} {s:Shared} {A:Around} {E:Value→Shared→Prop} {Q:Value→Shared→Prop} {c:Value} {b:Bool}
end
end L2
namespace L2
open PySem PySem.Spec PyProof.Rows
structure Room (k:Nat) (A:Around):Prop where
 hd:A.handled=none
 gd:A.guards=some []
 dp:A.depth + 3 * k + 5 < recursionLimit
 un:A.units + 16 * k + 200 < cLine
theorem Room.mono {j k:Nat} {A:Around} (r:Room k A) (h:j≤k):Room j A:=⟨r.hd,r.gd,by have:=r.dp; omega,by have:=r.un; omega⟩
theorem Room.deeper {k:Nat} {A:Around} (r:Room (k + 1) A) (env:Env):Room k (A.deeper env) :=
 ⟨r.hd,r.gd,by have:=r.dp; show A.depth + 1 + 3 * k + 5 < _; omega,by have:=r.un; show A.units + 3 + 16 * k + 200 < _; omega⟩
theorem Room.in1 {k:Nat} {A:Around} (r:Room (k + 1) A):Room k A.in1 :=
 ⟨r.hd,r.gd,by have:=r.dp; show A.depth + 3 * k + 5 < _; omega,by have:=r.un; show A.units + 1 + 16 * k + 200 < _; omega⟩
theorem Room.depth {k:Nat} {A:Around} (r:Room k A):A.depth < recursionLimit:=by have:=r.dp; omega
theorem Room.units {k:Nat} {A:Around} (r:Room k A):A.units + 64 < cLine:=by have:=r.un; omega
def tNil:TA:=fun _ H Q=>Q [] H
def zbk2 (ta:TE) (tr:TA):TA:=fun σ H Q=>ta σ H fun x H1=>tr σ H1 fun xs H2=>Q (x :: xs) H2
section
variable {X:Cx} {e:Expr} {es:List Expr} {te:TE} {t:TA} {pos:Pos}
theorem zZ3:PA X [] tNil:=fun _ _ _ _ H Q I h=>Calls.spliced_nil ⟨[],H,I,.nil,h⟩
theorem zI1 (ha:PE X e te) (hr:PA X es t) (hs:starEach (e :: es) X.env=(false,eval e X.env) :: starEach es X.env:=by rfl):PA X (e :: es) (zbk2 te t):=by
 intro pos pins s σ H Q I h
 rw [hs]
 show wpAny _ _ (spliced ((false,eval e X.env) :: backTo pos (starEach es X.env))) _ _ s
 refine Calls.spliced_cons (thn (ha pins s σ H _ I h) fun u s1 ⟨x,H1,I1,r1,q1⟩=>?_)
 exact thn (hr pos pins s1 σ H1 _ I1 q1) fun us s2 ⟨xs,H2,I2,r2,q2⟩=>⟨x :: xs,H2,I2,.cons r1 r2,q2⟩
def tTup (t:TA):TE:=fun σ H Q=>t σ H fun xs H1=>xs.length≤sizeLine∧∀ p,H1 p=none→Q (.ref p) (upd H1 p (.tup xs))
theorem zaN3 {x1} (h:PA X es t):PE X (.Tuple es x1 pos) (tTup t):=by
 intro pins s σ H Q I hq
 refine wpAny_Tuple_spliced (thn (h pos pins s σ H _ I hq) fun us s1 ⟨xs,H1,I1,r,z,q⟩=>⟨by rw [← r.length]; exact z,?_⟩)
 have hf:H1 s1.heap.objs.size=none:=I1.hok.fresh (Nat.le_refl _)
 refine ⟨.ref s1.heap.objs.size,upd H1 s1.heap.objs.size (.tup xs),I1.laid (t':=s1.toks) (fun b u e=>Heap.get?_push_of_some _ e) (Nat.le_refl _) ?_,rfl,q _ hf⟩
 exact ⟨⟨z,NoD.new _ _ _⟩,us,r,⟨_,Heap.get?_push_size _ rfl,rfl,_,rfl⟩⟩
end
abbrev Sp:=List V→Hp→VK→XK→Prop
abbrev CXT:=List Env→Hp→Shared→XK→Value→Shared→Prop
structure Env0 (P:Program) (w:World) (K:PySem.W.Frag) (mg:Str→Option Value) (base:Heap) (A:Around) (outer:List Env) (s:Shared) (H:Hp):Prop where
 frames:A.frames=some outer
 mod:Mod K mg base
 bs:∀ b o,base.get? b=some o→s.heap.get? b=some o∧H b=none
 bsz:base.objs.size≤s.heap.objs.size
 funs:s.heap.FunFrames base outer
 frf:∀ b∈frs outer,H b=none
 hok:HOk P w H s.heap
 bare:AllBare s.gens
def CE (outer:List Env) (P:Program) (w:World) (H:Hp) (s:Shared) (Q:VK) (u:Value) (s':Shared):Prop :=
 ∃ v H',s'.os=s.os∧AllBare s'.gens∧Un (frs outer) [] H H' s.heap s'.heap∧HOk P w H' s'.heap∧RelV v u∧Q v H'
def CR (CX:CXT) (outer:List Env) (P:Program) (w:World) (H:Hp) (s:Shared) (Q:VK) (E:XK) (r:Result) (s':Shared):Prop :=
 match r with
 | .ok (.ret u)=>CE outer P w H s Q u s'
 | .ok _=>False
 | .error e=>CX outer H s E e s'
structure FnOk (P:Program) (w:World) (K:PySem.W.Frag) (mg:Str→Option Value) (base:Heap) (CX:CXT) (k:Nat) (f:Addr) (fd:FuncData) (ps:List Str) (sp:Sp):Prop where
 len:∀ vs H Q E,sp vs H Q E→vs.length=ps.length
 run:∀ (A:Around) (outer:List Env) (s:Shared) (H:Hp) (args:Args) (us:List Value) (vs:List V) (Q:VK) (E:XK),Room k A→Env0 P w K mg base A outer s H→BindsTo s fd args (ps.zip us)→Vals vs us→sp vs H Q E →
  codeAny (model P w) A (.call (.ref f) args) (CR CX outer P w H s Q E) s
theorem FnOk.mono {P:Program} {w:World} {K:PySem.W.Frag} {mg:Str→Option Value} {base:Heap} {CX:CXT} {j k:Nat} {f:Addr} {fd:FuncData} {ps:List Str} {sp:Sp} (F:FnOk P w K mg base CX j f fd ps sp) (h:j≤k) :
  FnOk P w K mg base CX k f fd ps sp:=⟨F.len,fun A outer s H args us vs Q E hr=>F.run A outer s H args us vs Q E (hr.mono h)⟩
theorem FnOk.imp {P:Program} {w:World} {K:PySem.W.Frag} {mg:Str→Option Value} {base:Heap} {CX:CXT} {k:Nat} {f:Addr} {fd:FuncData} {ps:List Str} {sp sp':Sp} (F:FnOk P w K mg base CX k f fd ps sp)
  (h:∀ vs H Q E,sp' vs H Q E→sp vs H Q E):FnOk P w K mg base CX k f fd ps sp' :=
 ⟨fun vs H Q E q=>F.len vs H Q E (h _ _ _ _ q),fun A outer s H args us vs Q E hr he hb hv hs=>F.run A outer s H args us vs Q E hr he hb hv (h _ _ _ _ hs)⟩
theorem Env0.in1 {P:Program} {w:World} {K:PySem.W.Frag} {mg:Str→Option Value} {base:Heap} {A:Around} {outer:List Env} {s:Shared} {H:Hp} (e:Env0 P w K mg base A outer s H) :
  Env0 P w K mg base A.in1 outer s H:=⟨e.frames,e.mod,e.bs,e.bsz,e.funs,e.frf,e.hok,e.bare⟩
section
variable {X:Cx} {pins:List (Addr×Obj)} {σ:St} {H:Hp} {s s':Shared}
theorem Inv.env0 (I:Inv X pins σ H s):Env0 X.prog X.w X.K X.mg X.base X.A X.stack s H :=
 ⟨I.ok.frames,I.ok.mod,I.bs,Nat.le_trans I.ok.bsz I.sz,I.stack,I.stkFree,I.hok,I.bare⟩
theorem Inv.after {Q:VK} {u:Value} (I:Inv X pins σ H s) (h:CE X.stack X.prog X.w H s Q u s'):EP X pins σ Q u s':=by
 obtain ⟨v,H',os,bare,un,hok,r,q⟩:=h
 obtain ⟨hh,g,d,t,os'⟩:=s'
 obtain rfl:os'=s.os:=os
 exact ⟨v,H',I.call (h':=hh) (g':=g) (d':=d) (t':=t) (ch:=[]) un hok bare (fun b z=>absurd z (by simp)),r,q⟩
end
def zbn6 (sp:Sp) (dvs:List V) (E:XK) (t:TA):TE:=fun σ H Q=>t σ H fun vs H1=>sp (vs++dvs) H1 Q E
def Binds (K:PySem.W.Frag) (fd:FuncData) (ps:List Str) (ds:List Value):Prop :=
 ∀ (s:Shared) (us:List Value),K.In s.heap→(us++ds).length=ps.length→BindsTo s fd ⟨us,[]⟩ (ps.zip (us++ds))
theorem Binds.all {K:PySem.W.Frag} {fd:FuncData} {ps:List Str} (h:∀ us:List Value,us.length=ps.length→bindArgs fd ⟨us,[]⟩=pure (ps.zip us)):Binds K fd ps []:=fun s us _ hl=>by
 rw [List.append_nil] at hl ⊢
 exact .of_eq (h us hl)
def zaB7 (CX:CXT) (X:Cx) (E:XK):Prop:=∀ (pins:List (Addr×Obj)) (σ:St) (H:Hp) (s:Shared) (e:Value) (s':Shared),Inv X pins σ H s→CX X.stack H s E e s'→X.xe e s'
section
variable {X:Cx} {CX:CXT} {k:Nat} {f C:Addr} {fd:FuncData} {ps:List Str} {sp:Sp} {dvs:List V} {ds:List Value} {E:XK} {x m:Str} {p pos apos:Pos} {e o:Expr} {es:List Expr} {ta:TE} {t:TA}
theorem zbf2 {pins:List (Addr×Obj)} {σ:St} {H:Hp} {s:Shared} {Q:VK} {us:List Value} {vs:List V} (F:FnOk X.prog X.w X.K X.mg X.base CX k f fd ps sp) (hr:Room k X.A) (hb:Binds X.K fd ps ds) (hd:Vals dvs ds) (hx:zaB7 CX X E)
  (I:Inv X pins σ H s) (r:Vals vs us) (h:sp (vs++dvs) H Q E):wpAny (model X.prog X.w) X.A (call (.ref f) us) (EP X pins σ Q) X.xe s:=by
 have r2:Vals (vs++dvs) (us++ds):=r.append hd
 have hl:(us++ds).length=ps.length:=by rw [← r2.length]; exact F.len _ _ _ _ h
 refine wpAny_call (codeAny_mono (F.run X.A X.stack s H ⟨us,[]⟩ (us++ds) (vs++dvs) Q E hr I.env0 (hb s us I.kIn hl) r2 h) fun r s' hq=>?_)
 cases r with
 | error e=>exact hx pins σ H s e s' I hq
 | ok fl =>
  cases fl with
  | ret u=>exact I.after hq
  | next=>exact False.elim hq
  | brk=>exact False.elim hq
  | cont=>exact False.elim hq
theorem zaR4 (F:FnOk X.prog X.w X.K X.mg X.base CX k f fd ps sp) (hr:Room k X.A) (hg:Gl X x) (hm:X.mg x=some (.ref f)) (hk:PySem.W.keepIn X.K (.ref f)=true) (hb:Binds X.K fd ps ds) (hd:Vals dvs ds) (hx:zaB7 CX X E)
  (ha:PA X (e :: es) t) (hdb:(x == ("__debug__" : Str))=false:=by decide) (he:starEach (e :: es) X.env=(false,eval e X.env) :: starEach es X.env:=by rfl) (hpl:(backTo pos (starEach es X.env)).any (·.1)=false:=by rfl) :
  PE X (.Call (.Name x p) (e :: es) [] pos) (zbn6 sp dvs E t):=by
 intro pins s σ H Q I h
 refine wpAny_Call_Name_kw (zaC4 I hg hm ?_ hdb)
 refine PySem.W.callWith_K (h₀:=X.base) I.ok.mod.kin hk (thn (ha pos pins s σ H _ I h) fun us s1 ⟨vs,H1,I1,r,q⟩=>⟨I1.kIn,?_⟩) he hpl
 exact zbf2 F hr hb hd hx I1 r q
end
section
variable {X:Cx} {CX:CXT} {k:Nat} {f C:Addr} {fd:FuncData} {ps ks:List Str} {sp:Sp} {E:XK} {x m:Str} {p pos apos kpos:Pos} {e o:Expr} {es:List Expr} {kws:List Keyword} {te ta:TE} {t tk:TA} {nm:Option Str}
variable {g:List Value→List Value→List Value} {gV:List V→List V→List V}
end
structure FnScope (N P:List Str) (sc:Scope):Prop where
 kind:sc.kind=.function
 co:sc.isCoroutine=false
 gen:sc.isGenerator=false
 nd:N.Nodup
 pre:N.take P.length=P
 par:∀ x∈P,sc.names.lookup x=some .local∨sc.names.lookup x=some .cell
 nofree:∀ y∈sc.names,y.2≠.free
theorem zaj4 {kindOf:Str→Option NameKind} {x:Str}:∀ {binds:List (Str×Value)} {m:Str→Option Value},(∀ v,(x,v) ∉ binds)→bindL kindOf binds m x=m x
 | [],_,_=>rfl
 | (n,v) :: r,m,h=>by
  unfold bindL
  rw [zaj4 fun w hw=>h w (List.mem_cons_of_mem _ hw)]
  split
  ·have:x≠n:=by rintro rfl; exact h v List.mem_cons_self
   simp [this]
  ·rfl
theorem zah4 {kindOf:Str→Option NameKind} {x:Str}:∀ {binds:List (Str×Value)} {m:Str→Option Value},(∀ v,(x,v) ∉ binds)→bindC kindOf binds m x=m x
 | [],_,_=>rfl
 | (n,v) :: r,m,h=>by
  unfold bindC
  rw [zah4 fun w hw=>h w (List.mem_cons_of_mem _ hw)]
  split
  ·rfl
  ·have:x≠n:=by rintro rfl; exact h v List.mem_cons_self
   simp [this]
theorem zak0 {kindOf:Str→Option NameKind} {x:Str} {v:Value}:∀ {P:List Str} {vs:List Value} {i:Nat} {m:Str→Option Value},P.Nodup→P[i]?=some x→vs[i]?=some v→kindOf x=some .local →
  bindL kindOf (P.zip vs) m x=some v
 | [],_,_,_,_,h,_,_=>by simp at h
 | _ :: _,[],_,_,_,_,h,_=>by simp at h
 | p :: P,w :: vs,0,m,nd,h1,h2,hk=>by
  simp at h1 h2; subst h1; subst h2
  show bindL kindOf ((p,w) :: P.zip vs) m p=_
  unfold bindL
  rw [zaj4 fun v hv=>(List.nodup_cons.mp nd).1 (List.of_mem_zip hv).1,if_pos hk]
  simp
 | p :: P,w :: vs,i + 1,m,nd,h1,h2,hk=>by
  show bindL kindOf ((p,w) :: P.zip vs) m x=_
  unfold bindL
  exact zak0 (i:=i) (List.nodup_cons.mp nd).2 (by simpa using h1) (by simpa using h2) hk
theorem zah1 {kindOf:Str→Option NameKind} {x:Str} {v:Value}:∀ {P:List Str} {vs:List Value} {i:Nat} {m:Str→Option Value},P.Nodup→P[i]?=some x→vs[i]?=some v→kindOf x≠some .local →
  bindC kindOf (P.zip vs) m x=some v
 | [],_,_,_,_,h,_,_=>by simp at h
 | _ :: _,[],_,_,_,_,h,_=>by simp at h
 | p :: P,w :: vs,0,m,nd,h1,h2,hk=>by
  simp at h1 h2; subst h1; subst h2
  show bindC kindOf ((p,w) :: P.zip vs) m p=_
  unfold bindC
  rw [zah4 fun v hv=>(List.nodup_cons.mp nd).1 (List.of_mem_zip hv).1,if_neg hk]
  simp
 | p :: P,w :: vs,i + 1,m,nd,h1,h2,hk=>by
  show bindC kindOf ((p,w) :: P.zip vs) m x=_
  unfold bindC
  exact zah1 (i:=i) (List.nodup_cons.mp nd).2 (by simpa using h1) (by simpa using h2) hk
def start (N:List Str) (vs:List V):St:=vs.map some++List.replicate (N.length - vs.length) none
def cxOf (CX:CXT) (P:Program) (w:World) (K:PySem.W.Frag) (mg:Str→Option Value) (base:Heap) (N:List Str) (qual:Str) (scope:Scope) (f:Addr) (cd:Value) (A:Around) (outer:List Env) (s:Shared) (H:Hp) (E:XK):Cx where
 prog:=P
 w:=w
 K:=K
 mg:=mg
 base:=base
 A:=A.deeper (envOfC qual scope s.heap.objs.size f cd)
 N:=N
 s₀:=s
 H₀:=H
 env:=envOfC qual scope s.heap.objs.size f cd
 outer:=outer
 stack:=envOfC qual scope s.heap.objs.size f cd :: outer
 ex:=[]
 calm:=true
 fn:=fun _=>true
 pn:=[]
 xe:=fun e s'=>wpAny (model P w) (A.deeper (envOfC qual scope s.heap.objs.size f cd)) («leaving» (envOfC qual scope s.heap.objs.size f cd) e) (fun _ s''=>CX outer H s E e s'') (fun e' s''=>CX outer H s E e' s'') s'
theorem zaq2 {sc:Scope} {n:Nat} {x:Str} (h:sc.names.lookup x=some .cell):∃ c,(cellsFrom n sc.names []).lookup x=some c:=by
 have q:=PySem.W.cellsFrom_some sc.names n [] (.inl h)
 exact Option.isSome_iff_exists.mp q
theorem zaz0 {CX:CXT} {P:Program} {w:World} {K:PySem.W.Frag} {mg:Str→Option Value} {base:Heap} {N ps:List Str} {qual:Str} {scope:Scope} {f:Addr} {cd:Value} {A:Around} {outer:List Env} {s s1:Shared} {H:Hp} {E:XK} {us:List Value} {vs:List V}
  (S:FnScope N ps scope) (hd:A.handled=none) (e0:Env0 P w K mg base A outer s H) (hl:vs.length=ps.length) (r:Vals vs us)
  (x:InCallC s s.heap.objs.size (bindL (envOfC qual scope s.heap.objs.size f cd).kindOf (ps.zip us) fun _=>none) (cellsFrom (s.heap.objs.size + 1) scope.names []) (bindC (envOfC qual scope s.heap.objs.size f cd).kindOf (ps.zip us) fun _=>none) s1) :
  Inv (cxOf CX P w K mg base N qual scope f cd A outer s H E) [] (start N vs) H s1:=by
 have hpl:ps.length≤N.length:=by have:=congrArg List.length S.pre; rw [List.length_take] at this; omega
 obtain ⟨h1,tk,rfl,hk⟩:=x.done
 have noA:∀ b:Addr,b ∉ (cxOf CX P w K mg base N qual scope f cd A outer s H E).ex:=fun b z=>absurd (show b∈([]:List Addr) from z) (by simp)
 refine ⟨⟨e0.mod,S.kind,rfl,rfl,Nat.le_refl _,fun y z c h1 h2=>?_,fun y hy=>?_,fun y c _ h=>?_,fun _=>hd,Around.frames_deeper e0.frames,.inr ⟨rfl,rfl⟩,fun b z=>absurd z (noA b),e0.bs,e0.bsz,fun b _ _=>noA b,fun b z=>absurd z (noA b),e0.funs,e0.frf⟩,
  rfl,e0.bare,Un.kept hk,⟨_,x.toInCall.ns,fun i y v h1 h2 h3=>?_⟩,fun y c h=>⟨_,x.cell y c h⟩,e0.hok.fresh (Nat.le_refl _),fun y c h=>?_,fun p hp=>absurd (show p∈([]:List (Addr×Obj)) from hp) (by simp),e0.hok.kept hk,?_⟩
 ·exact name_of_addr x.apart (PySem.mem_of_lookup h1) (PySem.mem_of_lookup h2)
 ·have hy:scope.names.lookup y=some .cell∨scope.names.lookup y=some .free:=hy
  rcases hy with hy | hy
  ·exact zaq2 hy
  ·exact absurd rfl (S.nofree _ (PySem.mem_of_lookup hy))
 ·exact Nat.le_of_lt (x.above y c (PySem.mem_of_lookup h))
 ·have hi:i < vs.length:=by
   unfold start at h2
   by_cases hi:i < vs.length
   ·exact hi
   ·rw [List.getElem?_append_right (by simpa using hi)] at h2
    rw [List.getElem?_replicate] at h2
    split at h2 <;> cases h2
  have ha:vs[i]?=some v:=by
   unfold start at h2
   rw [List.getElem?_append_left (by simpa using hi),List.getElem?_map] at h2
   cases e:vs[i]? with
   | none=>rw [e] at h2; cases h2
   | some a=>rw [e] at h2; cases h2; rfl
  obtain ⟨u,hu,rv⟩:=r.get ha
  have hp:ps[i]?=some y:=by
   rw [← S.pre,List.getElem?_take_of_lt (by omega)]; exact h1
  have ndP:ps.Nodup:=by rw [← S.pre]; exact S.nd.sublist (List.take_sublist _ _)
  refine ⟨u,rv,?_⟩
  rcases S.par y (List.mem_of_getElem? hp) with k | k
  ·exact .inl ⟨k,zak0 ndP hp hu k⟩
  ·obtain ⟨c,e⟩:=zaq2 (n:=s.heap.objs.size + 1) k
   refine .inr ⟨.inl k,c,e,?_⟩
   have q:=x.cell y c e
   rw [zah1 ndP hp hu (by show scope.names.lookup y≠_; rw [k]; decide)] at q
   exact q
 ·exact e0.hok.fresh (Nat.le_of_lt (x.above y c (PySem.mem_of_lookup h)))
 ·unfold start
  show _=N.length
  rw [List.length_append,List.length_map,List.length_replicate]
  omega
theorem zbk3 {CX:CXT} {P:Program} {w:World} {K:PySem.W.Frag} {mg:Str→Option Value} {base:Heap} {k:Nat} {f:Addr} {name qual:Str} {params:Arguments} {body:List Stmt} {scope:Scope} {dV kV doc pm cdv ct oc:Value} {an od:Option Addr}
  {osl:Array (Option Value)} {N ps:List Str} {sp:Sp} (lk:K.lookup f=some ⟨oc,od,.func (PySem.W.fnOf name qual params body scope dV kV doc pm an cdv ct),osl⟩) (hcd:PySem.W.codeIn K cdv qual=true) (S:FnScope N ps scope)
  (len:∀ vs H Q E,sp vs H Q E→vs.length=ps.length)
  (hbody:∀ (A:Around) (outer:List Env) (s:Shared) (H:Hp) (vs:List V) (Q:VK) (E:XK),Room k (A.deeper (envOfC qual scope s.heap.objs.size f cdv))→sp vs H Q E →
   ∃ t,PSs (cxOf CX P w K mg base N qual scope f cdv A outer s H E) body t∧t { nx:=fun _ H'=>Q .non H',rt:=Q } (start N vs) H) :
  FnOk P w K mg base CX (k + 1) f (PySem.W.fnOf name qual params body scope dV kV doc pm an cdv ct) ps sp:=by
 refine ⟨len,fun A outer s H args us vs Q E hr e0 hb r hsp=>?_⟩
 have hl:=len _ _ _ _ hsp
 have KX:K.In s.heap:=e0.mod.kin.keeps fun b o e=>(e0.bs b o e).1
 have lim:s.heap.NoLimit:=e0.mod.nolimit.keeps fun b o e=>(e0.bs b o e).1
 have hkind:∀ y∈ps.zip us,scope.names.lookup y.1=some .local∨(scope.names.lookup y.1=some .cell∧((cellsFrom (s.heap.objs.size + 1) scope.names []).lookup y.1).isSome=true):=fun ⟨n,v⟩ hy=>by
  rcases S.par n (List.of_mem_zip hy).1 with q | q
  ·exact .inl q
  ·exact .inr ⟨q,PySem.W.cellsFrom_some _ _ _ (.inl q)⟩
 refine codeAny_call_function hr.depth (KX _ _ lk) rfl S.co S.gen rfl (PySem.W.codeRec_of KX hcd) (hb _ _ _ _ ?_)
 refine wpAny_newFunctionEnv_cells S.kind hkind fun env he s1 x=>?_
 subst he
 refine ⟨lim.keeps x.toInCall.keep,codeAny_func ?_⟩
 obtain ⟨t,ht,hq⟩:=hbody A outer s H vs Q E (hr.deeper _) hsp
 have I:Inv (cxOf CX P w K mg base N qual scope f cdv A outer s H E) [] (start N vs) H s1:=zaz0 S hr.hd e0 hl r x
 refine wpAny_mono (ht [] s1 (start N vs) H _ I hq) (fun fl s' hs=>?_) fun e s' hs=>hs
 have fin:∀ {σ':St} {H':Hp} {v:V} {u:Value},Inv (cxOf CX P w K mg base N qual scope f cdv A outer s H E) [] σ' H' s'→RelV v u→Q v H'→CE outer P w H s Q u s' :=
  fun {σ' H' v u} J rv q=>⟨v,H',J.os,J.bare,J.base,J.hok,rv,q⟩
 cases fl with
 | ret u =>
  obtain ⟨v,σ',H',J,rv,q⟩:=hs
  exact fin J rv q
 | next =>
  obtain ⟨σ',H',J,q⟩:=hs
  exact fin (v:=V.non) (u:=Value.none) J rfl q
 | brk =>
  obtain ⟨_,_,_,q⟩:=hs
  exact False.elim q
 | cont =>
  obtain ⟨_,_,_,q⟩:=hs
  exact False.elim q
end L2
namespace L2
open PySem PySem.Spec PyProof.Rows
section
variable {X:Cx} {x:Str} {p pos:Pos} {e:Expr} {es:List Expr} {t:TA} {id T:String} {r:List V→Hp→VK→Prop}
def tCB (r:List V→Hp→VK→Prop) (t:TA):TE:=fun σ H Q=>t σ H fun vs H1=>r vs H1 Q
theorem zas8 (hc:CallR X (.builtin id) r) (hg:Gl X x) (hm:X.mg x=none) (hv:bootBuiltins x=some (.builtin id)) (ha:PA X (e :: es) t) (hn:x≠"__name__":=by decide) (hdb:(x == ("__debug__" : Str))=false:=by decide)
  (he:starEach (e :: es) X.env=(false,eval e X.env) :: starEach es X.env:=by rfl) (hpl:(backTo pos (starEach es X.env)).any (·.1)=false:=by rfl):PE X (.Call (.Name x p) (e :: es) [] pos) (tCB r t):=by
 intro pins s σ H Q I h
 refine wpAny_Call_Name_kw (zP2 I hg hm hv ?_ hn hdb)
 exact PyProof.Rows.callWith_builtin1 (thn (ha pos pins s σ H _ I h) fun us s1 ⟨vs,H1,I1,r1,q1⟩=>hc pins s1 σ H1 vs us Q I1 r1 q1) he hpl
theorem zaE5 (hc:CallR X (.type T) r) (hg:Gl X x) (hm:X.mg x=none) (hv:bootBuiltins x=some (.type T)) (ha:PA X (e :: es) t) (hn:x≠"__name__":=by decide) (hdb:(x == ("__debug__" : Str))=false:=by decide)
  (he:starEach (e :: es) X.env=(false,eval e X.env) :: starEach es X.env:=by rfl) (hpl:(backTo pos (starEach es X.env)).any (·.1)=false:=by rfl):PE X (.Call (.Name x p) (e :: es) [] pos) (tCB r t):=by
 intro pins s σ H Q I h
 refine wpAny_Call_Name_kw (zP2 I hg hm hv ?_ hn hdb)
 exact PyProof.Rows.callWith_type1 (thn (ha pos pins s σ H _ I h) fun us s1 ⟨vs,H1,I1,r1,q1⟩=>hc pins s1 σ H1 vs us Q I1 r1 q1) he hpl
end
end L2
namespace HT
open PySem PyProof.Rows
section
open PySem.SeqAt
open PySem.AutoSeq1 (wpAny_loadPart')
open PySem.MeetsSeq PySem.MeetsSeq2 PySem.MeetsSeq3
end
section
variable {prog:Program} {w:World} {A:Around} {E:Value→Shared→Prop} {s:Shared}
theorem cat_tup {t b:Addr} {vs ws:List Value} {Q:Value→Shared→Prop} (ht:IsTup s.heap t vs.toArray) (hb:IsTup s.heap b ws.toArray) (hv:vs≠[])
  (h1:ws=[]→Q (.ref t) s) (h2:ws≠[]→Q (.ref s.heap.objs.size) { s with heap:=s.heap.push { cls:=.type "tuple",data:=.seq (vs++ws).toArray } })
  (hsz:vs.length + ws.length≤sizeLine):wpAny (model prog w) A (binaryOp .Add (.ref t) (.ref b)) Q E s:=by
 obtain ⟨⟨cls,dd,data,sl⟩,ho,hc,n,hd⟩:=id ht
 obtain ⟨⟨cls2,dd2,data2,sl2⟩,ho2,hc2,n2,hd2⟩:=id hb
 simp only at hc hd hc2 hd2
 subst hc hd hc2 hd2
 have e:vs.toArray++ws.toArray=(vs++ws).toArray:=by simp
 by_cases hw:ws=[]
 ·exact concat_meets ⟨_,ho,rfl⟩ ⟨_,ho2,rfl⟩ noFill_tuple_add seq_tuple_add PySem.F.slot_tuple_add PySem.F.entry_tuple_add (PySem.F.args_tuple_add_2 _ _)
   (tuple_addW1 t b vs.toArray ws.toArray n n2 dd dd2 sl sl2 (by simpa using hv) (by simp [hw])) ⟨ho,ho2,h1 hw⟩
 ·refine concat_meets ⟨_,ho,rfl⟩ ⟨_,ho2,rfl⟩ noFill_tuple_add seq_tuple_add PySem.F.slot_tuple_add PySem.F.entry_tuple_add (PySem.F.args_tuple_add_2 _ _)
   (tuple_addW2 t b vs.toArray ws.toArray n n2 dd dd2 sl sl2 (by simpa using hv) (by simpa using hw) (by rw [List.size_toArray,List.size_toArray]; exact hsz)) ⟨ho,ho2,?_⟩
  rw [e]
  exact h2 hw
def sIx (n d:Nat):Option Int→Nat
 | none=>d
 | some v=>if v < 0 then (v + (n:Int)).toNat else min v.toNat n
theorem zbc3 (n d:Nat) (hd:d≤n) (o:Option Int):sIx n d o≤n:=by
 cases o with
 | none=>exact hd
 | some v =>
  show (if v < 0 then (v + (n:Int)).toNat else min v.toNat n)≤n
  by_cases hv:v < 0
  ·rw [if_pos hv]; omega
  ·rw [if_neg hv]; exact Nat.min_le_right _ _
theorem zay2 (v:Int) (n d:Nat):(if v < 0 then max (v + (n:Int)) 0 else min v (n:Int))=((sIx n d (some v):Nat):Int):=by
 show (if v < 0 then max (v + (n:Int)) 0 else min v (n:Int))=(((if v < 0 then (v + (n:Int)).toNat else min v.toNat n):Nat):Int)
 by_cases hv:v < 0
 ·simp only [if_pos hv]; omega
 ·simp only [if_neg hv]; omega
theorem zav8 (lo hi:Option Int) (n:Nat):Builtin.Slice.sliceAdjust lo hi 1 (n:Int)=(((sIx n 0 lo:Nat):Int),((sIx n n hi:Nat):Int)):=by
 have h1:¬ ((1:Int) < 0):=by omega
 unfold Builtin.Slice.sliceAdjust
 simp only [h1,if_false]
 refine Prod.ext ?_ ?_
 ·cases lo with
  | none=>rfl
  | some v=>exact zay2 v n 0
 ·cases hi with
  | none=>rfl
  | some v=>exact zay2 v n n
theorem zaw8 (i j:Nat):Builtin.Slice.slicePlaces (i:Int) (j:Int) 1=j - i:=by
 unfold Builtin.Slice.slicePlaces
 have h1:(1:Int) > 0:=by omega
 simp only [h1,if_true,Int.ediv_one]
 split <;> omega
theorem zaa2 {v:Value} {o:Option Int} {Q:Option Int→Shared→Prop} (p:IsPart v o) (h:Q o s):wpAny (model prog w) A (Builtin.Slice.slicePartIndex v) Q E s:=by
 cases p with
 | none=>exact slicePart_none h
 | int i t=>exact slicePart_int h
theorem sliceApplied_gen {sl:Addr} {vl vu:Value} {lo hi:Option Int} {n:Nat} {Q:Int×Int×Nat→Shared→Prop} (hs:s.heap.IsSliceOf sl vl vu .none) (pl:IsPart vl lo) (pu:IsPart vu hi)
  (h:Q (((sIx n 0 lo:Nat):Int),1,sIx n n hi - sIx n 0 lo) s):wpAny (model prog w) A (Builtin.Slice.sliceApplied (.ref sl) (pure (n:Int))) Q E s:=by
 obtain ⟨os,hos,hcs,hds⟩:=id hs
 unfold Builtin.Slice.sliceApplied Builtin.Slice.sliceFields
 refine wpAny_bind (wpAny_bind (wpAny_field hos hds (x:=vl) rfl (wpAny_bind (wpAny_field hos hds (x:=vu) rfl (wpAny_bind (wpAny_field hos hds (x:=.none) rfl (wpAny_pure ?_)))))))
 refine wpAny_bind (slicePart_none ?_)
 show wpAny _ _ (if ((1:Int) == 0)=true then _ else _) _ _ s
 rw [if_neg (by decide)]
 refine wpAny_bind (zaa2 pl (wpAny_bind (zaa2 pu (wpAny_bind (wpAny_pure ?_)))))
 show wpAny _ _ (match Builtin.Slice.sliceAdjust lo hi 1 (n:Int) with | (lo,hi)=>pure (lo,(1:Int),Builtin.Slice.slicePlaces lo hi 1)) _ _ s
 rw [zav8 lo hi n]
 show wpAny _ _ (pure (((sIx n 0 lo:Nat):Int),(1:Int),Builtin.Slice.slicePlaces ((sIx n 0 lo:Nat):Int) ((sIx n n hi:Nat):Int) 1)) _ _ s
 rw [zaw8]
 exact wpAny_pure h
theorem zaJ3 (xs:Array Value) (i k:Nat):((List.range k).filterMap fun (m:Nat)=>xs[((i:Int) + (m:Int) * 1).toNat]?).toArray=((xs.toList.drop i).take k).toArray:=by
 have e:(fun (m:Nat)=>xs[((i:Int) + (m:Int) * 1).toNat]?)=fun m=>xs[i + m]?:=by
  funext m
  have:((i:Int) + (m:Int) * 1).toNat=i + m:=by omega
  rw [this]
 rw [e]
 have:=pick_run xs i k
 rw [List.filterMap_map] at this
 have e2:((fun x=>xs[x]?)∘fun x=>i + x)=fun m=>xs[i + m]?:=rfl
 rw [e2] at this
 rw [this]
theorem getItem_tuple_cut {t sl:Addr} {items:Array Value} {vl vu:Value} {lo hi:Option Int} {Q:Value→Shared→Prop} (ht:IsTup s.heap t items) (hs:s.heap.IsSliceOf sl vl vu .none) (pl:IsPart vl lo) (pu:IsPart vu hi)
  (hw:¬ (sIx items.size 0 lo=0∧sIx items.size items.size hi=items.size))
  (h:Q (.ref s.heap.objs.size) { s with heap:=s.heap.push { cls:=.type "tuple",data:=.seq ((items.toList.drop (sIx items.size 0 lo)).take (sIx items.size items.size hi - sIx items.size 0 lo)).toArray } })
  (hsz:items.size≤sizeLine):wpAny (model prog w) A (getItem (.ref t) (.ref sl)) Q E s:=by
 have htake:sizeOk (.seq ((items.toList.drop (sIx items.size 0 lo)).take (sIx items.size items.size hi - sIx items.size 0 lo)).toArray):=by
  show ((items.toList.drop (sIx items.size 0 lo)).take (sIx items.size items.size hi - sIx items.size 0 lo)).toArray.size≤sizeLine
  rw [List.size_toArray,List.length_take,List.length_drop,Array.length_toList]
  omega
 have hj:sIx items.size items.size hi≤items.size:=zbc3 _ _ (Nat.le_refl _) hi
 obtain ⟨os,hos,hcs,hds⟩:=id hs
 have hTs:s.TypeIs (.ref sl) "slice":=⟨os,hos,hcs⟩
 unfold getItem
 try with_reducible refine wpAny_holding ?_
 first | refine wpAny_bind (wpAny_pure ?_) | skip
 refine wpAny_bind (wpAny_sequenceKey ht.typeIs (by decide) ?_)
 refine wpAny_bind (wpAny_callSpecial?_slot (name:=Str.ofString "__getitem__") ht.typeIs PyProof.Rows.slot_tuple_getitem
  (wpAny_call_entry PyProof.Rows.slot_tuple_getitem ht.typeIs entry_tuple_getitem ?_ (args_tuple_getitem _ _)))
 show wpAny _ _ (Builtin.Tuple.tupleItemsOf (.ref t)>>=_) _ _ s
 refine wpAny_bind (tupleItemsOf_ ht ?_)
 refine wpAny_bind (wpAny_typeOf hTs ?_)
 rw [if_pos (by decide)]
 refine wpAny_bind (sliceApplied_gen hs pl pu ?_)
 have hno:¬ ((((sIx items.size 0 lo:Nat):Int) == 0 && (1:Int) == 1 && (sIx items.size items.size hi - sIx items.size 0 lo) == items.size)=true):=by
  intro q
  rw [Bool.and_eq_true,Bool.and_eq_true] at q
  have q1:((sIx items.size 0 lo:Nat):Int)=0:=eq_of_beq q.1.1
  have q2:sIx items.size items.size hi - sIx items.size 0 lo=items.size:=eq_of_beq q.2
  exact hw ⟨by omega,by omega⟩
 show wpAny _ _ (if (((sIx items.size 0 lo:Nat):Int) == 0 && (1:Int) == 1 && (sIx items.size items.size hi - sIx items.size 0 lo) == items.size)=true then _ else _) _ _ s
 rw [if_neg hno,zaJ3]
 first
  | exact wpAny_bind (m:=Builtin.Tuple.tupleExact _) (wpAny_newObj_type (wpAny_pure ⟨_,rfl,wpAny_pure h⟩) htake)
  | exact wpAny_bind (m:=Builtin.Tuple.tupleExact _) (wpAny_newObj_type (wpAny_bind (wpAny_pure (wpAny_pure ⟨_,rfl,wpAny_pure h⟩))) htake)
  | exact wpAny_bind (wpAny_bind (m:=Builtin.Tuple.tupleExact _) (wpAny_newObj_type (wpAny_pure (wpAny_pure ⟨_,rfl,wpAny_pure h⟩)) htake))
  | exact wpAny_bind (wpAny_bind (m:=Builtin.Tuple.tupleExact _) (wpAny_newObj_type (wpAny_pure ⟨_,rfl,wpAny_pure h⟩) htake))
end
end HT
namespace L2
open PySem PySem.Spec PyProof.Rows
abbrev TO:=St→Hp→(Option Int→Hp→Prop)→Prop
def PO (X:Cx) (e:Option Expr) (t:TO):Prop :=
 ∀ (pins:List (Addr×Obj)) (s:Shared) (σ:St) (H:Hp) (Q:Option Int→Hp→Prop),Inv X pins σ H s→t σ H Q →
  wpAny (model X.prog X.w) X.A (evalPart e X.env) (fun u s'=>∃ o H',Inv X pins σ H' s'∧IsPart u o∧Q o H') X.xe s
def zaR8:TO:=fun _ H Q=>Q none H
def zbm3 (t:TE):TO:=fun σ H Q=>t σ H fun x H1=>∃ i,x=.int i∧Q (some i) H1
section
variable {X:Cx} {e:Expr} {te:TE} {lo hi:Option Expr} {tl th:TO} {pos p2:Pos}
theorem zaW6:PO X none zaR8:=by
 intro pins s σ H Q I h
 rw [evalPart_none]
 exact wpAny_pure ⟨none,H,I,.none,h⟩
theorem zaW4 (h:PE X e te):PO X (some e) (zbm3 te):=by
 intro pins s σ H Q I hw
 rw [evalPart_some]
 refine thn (h pins s σ H _ I hw) fun u s1 ⟨x,H1,I1,r1,q1⟩=>?_
 obtain ⟨i,rfl,q⟩:=q1
 obtain ⟨t,rfl⟩:=r1
 exact ⟨some i,H1,I1,.int i t,q⟩
def SlR (X:Cx) (r:V→Option Int→Option Int→Hp→VK→Prop):Prop :=
 ∀ (pins:List (Addr×Obj)) (s:Shared) (σ:St) (H:Hp) (x:V) (v vl vu:Value) (lo hi:Option Int) (sl:Addr) (Q:VK),Inv X pins σ H s→RelV x v→s.heap.IsSliceOf sl vl vu .none→IsPart vl lo→IsPart vu hi→r x lo hi H Q →
  ∃ T id,typeLookup (.type T) "__getitem__"=pure (some (.builtin id))∧s.TypeIs v T∧wpAny (model X.prog X.w) X.A (getItem v (.ref sl)) (EP X pins σ Q) X.xe s
theorem SlR.or {r r':V→Option Int→Option Int→Hp→VK→Prop} (h:SlR X r) (h':SlR X r'):SlR X (fun x lo hi H Q=>r x lo hi H Q∨r' x lo hi H Q):=by
 intro pins s σ H x v vl vu lo hi sl Q I rx hs pl pu q
 rcases q with q | q
 ·exact h pins s σ H x v vl vu lo hi sl Q I rx hs pl pu q
 ·exact h' pins s σ H x v vl vu lo hi sl Q I rx hs pl pu q
def tSl (r:V→Option Int→Option Int→Hp→VK→Prop) (te:TE) (tl th:TO):TE:=fun σ H Q=>te σ H fun x H1=>tl σ H1 fun l H2=>th σ H2 fun u H3=>r x l u H3 Q
theorem zaK0 {r:V→Option Int→Option Int→Hp→VK→Prop} (hr:SlR X r) (he:PE X e te) (hl:PO X lo tl) (hu:PO X hi th):PE X (.Subscript e (.Slice lo hi none p2) pos) (tSl r te tl th):=by
 intro pins s σ H Q I h
 refine Subscript_ (thn (he pins s σ H _ I h) fun v s1 ⟨x,H1,I1,r1,q1⟩=>?_)
 refine wpAny_Slice (thn (hl pins s1 σ H1 _ I1 q1) fun vl s2 ⟨l,H2,I2,pl,q2⟩=>thn (hu pins s2 σ H2 _ I2 q2) fun vu s3 ⟨u,H3,I3,pu,q3⟩=>?_)
 rw [evalPart_none]
 refine wpAny_pure ?_
 have I4:Inv X pins σ H3 { s3 with heap:=s3.heap.push { cls:=.type "slice",data:=.fields #[vl,vu,.none] } }:=I3.kept (t':=s3.toks) fun b ob q=>Heap.get?_push_of_some _ q
 obtain ⟨T,id,hT,ht,hg⟩:=hr pins { s3 with heap:=s3.heap.push { cls:=.type "slice",data:=.fields #[vl,vu,.none] } } σ H3 x v vl vu l u s3.heap.objs.size Q I4 r1 (Heap.IsSliceOf.new ..) pl pu q3
 show wpAny (model X.prog X.w) X.A (subscriptTail e (.Slice lo hi none p2) v (.ref s3.heap.objs.size)) (EP X pins σ Q) X.xe { s3 with heap:=s3.heap.push { cls:=.type "slice",data:=.fields #[vl,vu,.none] } }
 exact tail_any (ops:=[.ref s3.heap.objs.size,v]) ht hT hg (by with_unfolding_all rfl)
def cutV (xs:List V) (lo hi:Option Int):List V:=(xs.drop (HT.sIx xs.length 0 lo)).take (HT.sIx xs.length xs.length hi - HT.sIx xs.length 0 lo)
theorem zX3 (xs:List V) (lo hi:Option Int):(cutV xs lo hi).length≤xs.length:=by
 unfold cutV
 rw [List.length_take,List.length_drop]
 omega
def rSlT (K:PySem.W.Frag):V→Option Int→Option Int→Hp→VK→Prop:=fun x lo hi H Q=>∃ a xs,x=.ref a∧SqT K H a xs ∧
 ¬ (HT.sIx xs.length 0 lo=0∧HT.sIx xs.length xs.length hi=xs.length)∧∀ p,H p=none→Q (.ref p) (upd H p (.tup (cutV xs lo hi)))
theorem zba5:SlR X (rSlT X.K):=by
 intro pins s σ H x v vl vu lo hi sl Q I rx hs pl pu h
 obtain ⟨a,xs,rfl,hx,hw,q⟩:=h
 cases rx
 obtain ⟨its,r,ht,hz⟩:=I.tuple hx
 have hlen:its.toArray.size=xs.length:=by rw [List.size_toArray]; exact r.length.symm
 refine ⟨"tuple",_,PyProof.Rows.slot_tuple_getitem.lookup,ht.typeIs,?_⟩
 refine HT.getItem_tuple_cut ht hs pl pu (by rw [hlen]; exact hw) ?_ (by rw [hlen]; exact hz)
 rw [hlen]
 refine ⟨.ref s.heap.objs.size,_,I.laid (t':=s.toks) (o:=.tup (cutV xs lo hi)) (fun b ob q=>Heap.get?_push_of_some _ q) (Nat.le_refl _) ?_,rfl,q _ (I.hok.fresh (Nat.le_refl _))⟩
 exact ⟨⟨Nat.le_trans (zX3 xs lo hi) hz,NoD.new _ _ _⟩,_,(r.drop (HT.sIx xs.length 0 lo)).take (HT.sIx xs.length xs.length hi - HT.sIx xs.length 0 lo),IsTup.new _ _⟩
def zbi0 (K:PySem.W.Frag):R2:=fun x y H Q=>∃ a b xs ys,x=.ref a∧y=.ref b∧SqT K H a xs∧SqT K H b ys∧xs≠[]∧xs.length + ys.length≤sizeLine ∧
 (ys=[]→Q (.ref a) H)∧(ys≠[]→∀ p,H p=none→Q (.ref p) (upd H p (.tup (xs++ys))))
theorem Vals.nil_iff {xs:List V} {us:List Value} (r:Vals xs us):us=[] ↔ xs=[]:=by
 cases r with
 | nil=>simp
 | cons _ _=>simp
theorem zaU6:OpR X (binaryOp .Add) (zbi0 X.K):=by
 intro pins s σ H x y v u Q I rx ry h
 obtain ⟨a,b,xs,ys,rfl,rfl,ha,hb,hx,hz,q1,q2⟩:=h
 cases rx
 cases ry
 obtain ⟨its,r1,p1,_⟩:=I.tuple ha
 obtain ⟨its2,r2,p2,_⟩:=I.tuple hb
 refine HT.cat_tup p1 p2 (fun z=>hx (r1.nil_iff.mp z)) (fun z=>⟨.ref a,H,I,rfl,q1 (r2.nil_iff.mp z)⟩) (fun z=>?_) (by rw [← r1.length,← r2.length]; exact hz)
 refine ⟨.ref s.heap.objs.size,_,I.laid (t':=s.toks) (o:=.tup (xs++ys)) (fun b ob q=>Heap.get?_push_of_some _ q) (Nat.le_refl _) ?_,rfl,q2 (fun w=>z (r2.nil_iff.mpr w)) _ (I.hok.fresh (Nat.le_refl _))⟩
 exact ⟨⟨by rw [List.length_append]; exact hz,NoD.new _ _ _⟩,_,r1.append r2,IsTup.new _ _⟩
end
end L2
namespace L2
open PySem PySem.Spec PyProof.Rows
def ixN (n:Nat) (i:Int):Option Nat:=if 0≤i then (if i < n then some i.toNat else none) else if -(n:Int)≤i then some (i + n).toNat else none
def atI {α:Type} (xs:List α) (i:Int):Option α:=(ixN xs.length i).bind fun j=>xs[j]?
theorem zaD6 {n:Nat} {i:Int} {j:Nat} (h:ixN n i=some j):seqIndex? i n=some j∧j < n∧-(n:Int)≤i∧i < n:=by
 unfold ixN at h
 by_cases h0:0≤i
 ·rw [if_pos h0] at h
  by_cases h1:i < n
  ·rw [if_pos h1] at h
   have e:i.toNat=j:=Option.some.inj h
   exact ⟨by rw [seqIndex_of h0 h1,e],by omega,by omega,h1⟩
  ·rw [if_neg h1] at h; cases h
 ·rw [if_neg h0] at h
  by_cases h1:-(n:Int)≤i
  ·rw [if_pos h1] at h
   have e:(i + n).toNat=j:=Option.some.inj h
   exact ⟨by rw [seqIndex_neg (by omega) h1,e],by omega,h1,by omega⟩
  ·rw [if_neg h1] at h; cases h
theorem zan6 {α:Type} {xs:List α} {i:Int} {v:α} (h:atI xs i=some v):∃ j,seqIndex? i xs.length=some j∧xs[j]?=some v∧j < xs.length∧-(xs.length:Int)≤i∧i < xs.length:=by
 unfold atI at h
 cases e:ixN xs.length i with
 | none=>rw [e] at h; cases h
 | some j =>
  rw [e] at h
  obtain ⟨h1,h2,h3,h4⟩:=zaD6 e
  exact ⟨j,h1,h,h2,h3,h4⟩
theorem zw4 {α:Type} {xs:List α} {j:Nat} {v:α} (h:xs[j]?=some v):atI xs (j:Int)=some v:=by
 have hj:j < xs.length:=(List.getElem?_eq_some_iff.mp h).1
 have e:ixN xs.length (j:Int)=some j:=by
  unfold ixN
  rw [if_pos (by omega),if_pos (by omega)]; simp
 unfold atI; rw [e]; exact h
def zal6 (b:Expr):Prop:=∀ o i,subscripted b false o i=operate [o,i] (getItem o i)
def IxR (X:Cx) (r:R2):Prop :=
 ∀ (value slice:Expr) (pins:List (Addr×Obj)) (s:Shared) (σ:St) (H:Hp) (x y:V) (v u:Value) (Q:VK),Inv X pins σ H s→RelV x v→RelV y u→r x y H Q →
  subscripted slice false v u=operate [v,u] (getItem v u)→wpAny (model X.prog X.w) X.A (subscriptTail value slice v u) (EP X pins σ Q) X.xe s
def MtR (X:Cx) (id:String) (r:V→List V→Hp→VK→Prop):Prop :=
 ∀ (pins:List (Addr×Obj)) (s:Shared) (σ:St) (H:Hp) (x:V) (xs:List V) (v:Value) (us:List Value) (Q:VK),Inv X pins σ H s→RelV x v→Vals xs us→r x xs H Q →
  wpAny (model X.prog X.w) X.A (call (.builtin id) (v :: us)) (EP X pins σ Q) X.xe s
section
variable {X:Cx} {a b:Expr} {ta tb:TE} {pos:Pos}
theorem IxR.or {r r':R2} (h:IxR X r) (h':IxR X r'):IxR X (fun x y H Q=>r x y H Q∨r' x y H Q):=by
 intro value slice pins s σ H x y v u Q I rx ry q hs
 rcases q with q | q
 ·exact h value slice pins s σ H x y v u Q I rx ry q hs
 ·exact h' value slice pins s σ H x y v u Q I rx ry q hs
theorem MtR.or {id:String} {r r':V→List V→Hp→VK→Prop} (h:MtR X id r) (h':MtR X id r'):MtR X id (fun x xs H Q=>r x xs H Q∨r' x xs H Q):=by
 intro pins s σ H x xs v us Q I rx rs q
 rcases q with q | q
 ·exact h pins s σ H x xs v us Q I rx rs q
 ·exact h' pins s σ H x xs v us Q I rx rs q
theorem zbj6 {r:R2} (hr:IxR X r) (ha:PE X a ta) (hb:PE X b tb) (hs:zal6 b):PE X (.Subscript a b pos) (tOp r ta tb):=by
 intro pins s σ H Q I h
 exact Subscript_ (binT ha hb I h fun v u s2 x y H2 I2 rx ry q=>hr a b pins s2 σ H2 x y v u Q I2 rx ry q (hs _ _))
def rIxL (K:PySem.W.Frag):R2:=fun x y H Q=>∃ p xs i v,x=.ref p∧y=.int i∧SqL K H p xs∧atI xs i=some v∧Q v H
def rIxT (K:PySem.W.Frag):R2:=fun x y H Q=>∃ p xs i v,x=.ref p∧y=.int i∧SqT K H p xs∧atI xs i=some v∧Q v H
def rIxS:R2:=fun x y H Q=>∃ z i c,x=.str z∧y=.int i∧z.length≤sizeLine∧atI z.cps.toList i=some c∧Q (.str ⟨#[c]⟩) H
theorem zaP8:IxR X (rIxL X.K):=by
 intro value slice pins s σ H x y v u Q I rx ry h hs
 obtain ⟨p,xs,i,z,rfl,rfl,hq,he,q⟩:=h
 cases rx
 obtain ⟨t,rfl⟩:=ry
 obtain ⟨its,r,pl,hz⟩:=I.list hq
 obtain ⟨j,h1,h2,h3,h4,h5⟩:=zan6 he
 obtain ⟨w,ew,rw'⟩:=r.get h2
 have hl:=r.length
 have hn:=zR2
 have fin:EP X pins σ Q w s:=⟨z,H,I,rw',q⟩
 by_cases h0:0≤i
 ·have hj:i.toNat=j:=by
   rw [seqIndex_of h0 h5] at h1
   exact Option.some.inj h1
  exact item_listR pl.isList h0 (by omega) (by rw [hj]; simpa using ew) fin hs
 ·have hj:(i + (its.toArray.size:Int)).toNat=j:=by
   rw [seqIndex_neg (by omega) h4] at h1
   rw [List.size_toArray,← hl]
   exact Option.some.inj h1
  exact subscriptTail_builtinR (x:=w) pl.isList.typeIs slot_list_getitem.lookup
   (wpAny_getItem_list_neg (Q:=fun r s'=>r=w∧EP X pins σ Q r s') pl.isList (by omega) (by rw [List.size_toArray] <;> omega) (by omega) (by rw [hj]; simpa using ew) ⟨rfl,fin⟩) hs
theorem zaY4:IxR X (rIxT X.K):=by
 intro value slice pins s σ H x y v u Q I rx ry h hs
 obtain ⟨p,xs,i,z,rfl,rfl,hq,he,q⟩:=h
 cases rx
 obtain ⟨t,rfl⟩:=ry
 obtain ⟨its,r,pl,hz⟩:=I.tuple hq
 obtain ⟨j,h1,h2,h3,h4,h5⟩:=zan6 he
 obtain ⟨w,ew,rw'⟩:=r.get h2
 have hl:=r.length
 have hn:=zR2
 have fin:EP X pins σ Q w s:=⟨z,H,I,rw',q⟩
 exact subscriptTail_builtinR (x:=w) pl.typeIs slot_tuple_getitem.lookup
  (getItem_tuple (j:=j) (Q:=fun r s'=>r=w∧EP X pins σ Q r s') pl (by omega) (by omega) (by rw [List.size_toArray,← hl]; exact h1) (by simpa using ew) ⟨rfl,fin⟩) hs
theorem zaX5:IxR X rIxS:=by
 intro value slice pins s σ H x y v u Q I rx ry h hs
 obtain ⟨z,i,c,rfl,rfl,hz,he,q⟩:=h
 obtain ⟨t,rfl⟩:=rx
 obtain ⟨t',rfl⟩:=ry
 obtain ⟨j,h1,h2,h3,h4,h5⟩:=zan6 he
 have hl:z.cps.toList.length=z.length:=by simp [Str.length]
 rw [hl] at h1 h4 h5
 have hn:=zR2
 exact tail_any (typeIs_str s z t) slot_str_getitem.lookup (getItem_str (c:=c) (by
  have e1:decide (i < -(2 ^ 63:Int))=false:=decide_eq_false (by omega)
  have e2:decide (i ≥ 2 ^ 63)=false:=decide_eq_false (by omega)
  rw [e1,e2,Bool.or_false]) (by rw [h1]; simpa using h2) ⟨.str ⟨#[c]⟩,H,I.tok _,⟨_,rfl⟩,q⟩) hs
def rIx (K:PySem.W.Frag):R2:=fun x y H Q=>rIxL K x y H Q∨rIxT K x y H Q∨rIxS x y H Q
theorem zbe4:IxR X (rIx X.K):=zaP8.or (zaY4.or zaX5)
theorem zav6 (its:List Value) (n j:Nat) (u:Value):Obj.mapSeq (·.setIfInBounds j u) { cls:=.type "list",data:=.seq its.toArray n }={ cls:=.type "list",data:=.seq (its.set j u).toArray n }:=by
 simp [Obj.mapSeq]
theorem Inv.lst {pins:List (Addr×Obj)} {σ:St} {H:Hp} {s:Shared} {p:Addr} {xs:List V} (I:Inv X pins σ H s) (h:H p=some (.lst xs)) :
  ∃ (its:List Value) (n:Nat),Vals xs its∧s.heap.get? p=some { cls:=.type "list",data:=.seq its.toArray n }∧xs.length≤sizeLine:=by
 obtain ⟨z,its,n,r,e⟩:=I.hok p _ h
 exact ⟨its,n,r,e,z⟩
theorem Inv.lstUpd {pins:List (Addr×Obj)} {σ:St} {H:Hp} {s:Shared} {p:Addr} {xs ys:List V} {its its':List Value} {n n':Nat} {f:Obj→Obj} (I:Inv X pins σ H s) (h:H p=some (.lst xs))
  (ho:s.heap.get? p=some { cls:=.type "list",data:=.seq its.toArray n }) (hf:f { cls:=.type "list",data:=.seq its.toArray n }={ cls:=.type "list",data:=.seq its'.toArray n' }) (r:Vals ys its') (hz:ys.length≤sizeLine) (t:Nat) :
  Inv X pins σ (upd H p (.lst ys)) { s with heap:=s.heap.update p f,toks:=t }:=by
 have e:(s.heap.update p f).get? p=some { cls:=.type "list",data:=.seq its'.toArray n' }:=by
  rw [Heap.get?_update_self f ho (by rw [hf] <;> rfl),hf]
 refine I.write (x:=p) (e:=p) (by rw [h]; trivial) (.inl rfl) (fun b u hb q=>(Heap.get?_update_other _ _ (Ne.symm hb)).trans q) ⟨_,e⟩ ?_
 exact ⟨hz,its',n',r,e⟩
def zbm1:V→V→V→Hp→(Hp→Prop)→Prop:=fun o i v H Q=>∃ p xs k j,o=.ref p∧i=.int k∧H p=some (.lst xs)∧ixN xs.length k=some j∧Q (upd H p (.lst (xs.set j v)))
theorem zaL3:PSet X zbm1:=by
 intro pins s σ H o i v ov iv u Q I ro ri rv h
 obtain ⟨p,xs,k,j,rfl,rfl,hp,hj,q⟩:=h
 cases ro
 obtain ⟨t,rfl⟩:=ri
 obtain ⟨its,n,r,ho,hz⟩:=I.lst hp
 obtain ⟨h1,h2,h3,h4⟩:=zaD6 hj
 have hl:=r.length
 have hn:=zR2
 have I':Inv X pins σ (upd H p (.lst (xs.set j v))) { s with heap:=s.heap.update p (Obj.mapSeq (·.setIfInBounds j u)) } :=
  I.lstUpd hp ho (zav6 its n j u) (r.set rv j) (by rw [List.length_set]; exact hz) s.toks
 by_cases h0:0≤k
 ·have hk:k.toNat=j:=by
   rw [seqIndex_of h0 h4] at h1
   exact Option.some.inj h1
  exact PySem.W.ki_setAt ho h0 (by omega) (by rw [List.size_toArray,← hl]; exact h4) (by rw [hk]; exact ⟨_,I',q⟩)
 ·have hk:(k + (its.toArray.size:Int)).toNat=j:=by
   rw [seqIndex_neg (by omega) h3] at h1
   rw [List.size_toArray,← hl]
   exact Option.some.inj h1
  exact PySem.W.ki_setBack ho (by omega) (by rw [List.size_toArray,← hl]; exact h3) (by omega) (by rw [hk]; exact ⟨_,I',q⟩)
theorem zai6 (lo hi:Option Int) (n:Nat):(sliceBounds lo hi none n).1=((HT.sIx n 0 lo:Nat):Int)∧(sliceBounds lo hi none n).2.1=((HT.sIx n n hi:Nat):Int)∧(sliceBounds lo hi none n).2.2=1:=by
 refine ⟨?_,?_,rfl⟩
 ·cases lo with
  | none=>simp [sliceBounds,HT.sIx]
  | some i =>
   simp only [sliceBounds,HT.sIx,Option.getD_none,show (1:Int) > 0 by decide,if_true]
   by_cases h:i < 0
   ·simp only [h,if_true] <;> omega
   ·simp only [h,if_false] <;> omega
 ·cases hi with
  | none=>simp [sliceBounds,HT.sIx]
  | some i =>
   simp only [sliceBounds,HT.sIx,Option.getD_none,show (1:Int) > 0 by decide,if_true]
   by_cases h:i < 0
   ·simp only [h,if_true] <;> omega
   ·simp only [h,if_false] <;> omega
theorem zaf1 (its:List Value) (lo hi:Option Int):slicePick its.toArray lo hi none=((its.drop (HT.sIx its.length 0 lo)).take (HT.sIx its.length its.length hi - HT.sIx its.length 0 lo)).toArray:=by
 obtain ⟨h1,h2,h3⟩:=zai6 lo hi its.toArray.size
 unfold slicePick
 rw [h1,h2,h3]
 simp only [sliceRange_one,pick_run,List.size_toArray] <;> rfl
def rSlL (K:PySem.W.Frag):V→Option Int→Option Int→Hp→VK→Prop:=fun x lo hi H Q=>∃ a xs,x=.ref a∧SqL K H a xs∧∀ p,H p=none→Q (.ref p) (upd H p (.lst (cutV xs lo hi)))
theorem zaS3:SlR X (rSlL X.K):=by
 intro pins s σ H x v vl vu lo hi sl Q I rx hs pl pu h
 obtain ⟨a,xs,rfl,hx,q⟩:=h
 cases rx
 obtain ⟨its,r,ht,hz⟩:=I.list hx
 have hlen:=r.length
 refine ⟨"list",_,slot_list_getitem.lookup,ht.isList.typeIs,?_⟩
 refine wpAny_getItem_list_slice ht.isList hs pl pu .none (by simp) ?_ (by rw [List.size_toArray] <;> omega)
 rw [zaf1,← hlen]
 refine ⟨.ref s.heap.objs.size,_,I.laid (t':=s.toks) (o:=.lst (cutV xs lo hi)) (fun b ob q=>Heap.get?_push_of_some _ q) (Nat.le_refl _) ?_,rfl,q _ (I.hok.fresh (Nat.le_refl _))⟩
 exact ⟨Nat.le_trans (zX3 xs lo hi) hz,_,0,(r.drop (HT.sIx xs.length 0 lo)).take (HT.sIx xs.length xs.length hi - HT.sIx xs.length 0 lo),Heap.get?_push_size _ rfl⟩
def zO7:V→Bool
 | .non=>true
 | .bl _=>true
 | .int _=>true
 | .str _=>true
 | _=>false
def eqV:V→V→Bool
 | .non,.non=>true
 | .bl a,.bl b=>a == b
 | .bl a,.int b=>(if a then 1 else 0) == b
 | .int a,.bl b=>a == (if b then 1 else 0)
 | .int a,.int b=>a == b
 | .str a,.str b=>a == b
 | _,_=>false
theorem zbe6 {A:Around} {s:Shared} {y x:V} {u v:Value} (ry:RelV y u) (rx:RelV x v) (fy:zO7 y=true) (fx:zO7 x=true):SeqAt.EqAt A s u v (eqV y x):=by
 cases y with
 | non =>
  cases ry
  cases x with
  | non=>cases rx; exact SeqAt.EqAt.same _
  | bl b=>cases rx; exact SeqAt.EqAt.none_bool b
  | int b=>obtain ⟨t,rfl⟩:=rx; exact SeqAt.EqAt.none_int b t
  | str b=>obtain ⟨t,rfl⟩:=rx; exact SeqAt.EqAt.none_str b t
  | _=>exact absurd (show false=true from fx) Bool.false_ne_true
 | bl a =>
  cases ry
  cases x with
  | non=>cases rx; exact SeqAt.EqAt.bool_none a
  | bl b=>cases rx; exact SeqAt.EqAt.bool_bool a b
  | int b=>obtain ⟨t,rfl⟩:=rx; exact SeqAt.EqAt.bool_int a b t
  | str b=>obtain ⟨t,rfl⟩:=rx; exact SeqAt.EqAt.bool_str a b t
  | _=>exact absurd (show false=true from fx) Bool.false_ne_true
 | int a =>
  obtain ⟨t',rfl⟩:=ry
  cases x with
  | non=>cases rx; exact SeqAt.EqAt.int_none a t'
  | bl b=>cases rx; exact SeqAt.EqAt.int_bool a t' b
  | int b=>obtain ⟨t,rfl⟩:=rx; exact SeqAt.EqAt.int_int a t' b t
  | str b=>obtain ⟨t,rfl⟩:=rx; exact SeqAt.EqAt.int_str a t' b t
  | _=>exact absurd (show false=true from fx) Bool.false_ne_true
 | str a =>
  obtain ⟨t',rfl⟩:=ry
  cases x with
  | non=>cases rx; exact SeqAt.EqAt.str_none a t'
  | bl b=>cases rx; exact SeqAt.EqAt.str_bool a t' b
  | int b=>obtain ⟨t,rfl⟩:=rx; exact SeqAt.EqAt.str_int a t' b t
  | str b=>obtain ⟨t,rfl⟩:=rx; exact SeqAt.EqAt.str_str a t' b t
  | _=>exact absurd (show false=true from fx) Bool.false_ne_true
 | _=>exact absurd (show false=true from fy) Bool.false_ne_true
def eqU (x:V) (u:Value):Bool:=match u with
 | .none=>eqV .non x
 | .bool b=>eqV (.bl b) x
 | .int i _=>eqV (.int i) x
 | .str z _=>eqV (.str z) x
 | _=>false
theorem zaM0 {x y:V} {u:Value} (r:RelV y u) (f:zO7 y=true):eqU x u=eqV y x:=by
 cases y with
 | non=>cases r; rfl
 | bl b=>cases r; rfl
 | int i=>obtain ⟨t,rfl⟩:=r; rfl
 | str z=>obtain ⟨t,rfl⟩:=r; rfl
 | _=>exact absurd (show false=true from f) Bool.false_ne_true
theorem zap1 {x:V}:∀ {xs:List V} {us:List Value},Vals xs us→xs.all zO7=true→us.any (eqU x)=xs.any fun y=>eqV y x
 | _,_,.nil,_=>rfl
 | y :: xs,u :: us,.cons r t,f=>by
  rw [List.all_cons,Bool.and_eq_true] at f
  rw [List.any_cons,List.any_cons,zaM0 r f.1,zap1 t f.2]
theorem zM3 {A:Around} {s:Shared} {x:V} {v:Value} (rx:RelV x v) (fx:zO7 x=true):∀ {xs:List V} {us:List Value},Vals xs us→xs.all zO7=true→∀ u∈us,SeqAt.EqAt A s u v (eqU x u)
 | _,_,.nil,_=>fun u hu=>by cases hu
 | y :: xs,u :: us,.cons r t,f=>fun u' hu=>by
  rw [List.all_cons,Bool.and_eq_true] at f
  rcases List.mem_cons.mp hu with rfl | hu
  ·rw [zaM0 r f.1]; exact zbe6 r rx f.1 fx
  ·exact zM3 rx fx t f.2 u' hu
def inV (x:V) (xs:List V):Bool:=xs.any fun y=>eqV y x
def rIn (K:PySem.W.Frag) (neg:Bool):R2:=fun x y H Q=>∃ p xs,y=.ref p∧(SqL K H p xs∨SqT K H p xs)∧zO7 x=true∧xs.all zO7=true∧Q (.bl (if neg then !inV x xs else inV x xs)) H
theorem zt4:OpR X (compareOp .In) (rIn X.K false):=by
 intro pins s σ H x y v u Q I rx ry h
 obtain ⟨p,xs,rfl,hq,fx,fs,q⟩:=h
 cases ry
 rcases hq with hq | hq
 ·obtain ⟨its,r,pl,hz⟩:=I.list hq
  refine SeqAt.in_listAt (eqU x) pl.isList (fun w hw=>zM3 rx fx r fs w (by simpa using hw)) ⟨.bl _,H,I,rfl,?_⟩
  rw [show its.toArray.any (eqU x)=its.any (eqU x) by simp,zap1 r fs]
  exact q
 ·obtain ⟨its,r,pl,hz⟩:=I.tuple hq
  refine SeqAt.in_tupleAt (eqU x) pl (fun w hw=>zM3 rx fx r fs w (by simpa using hw)) ⟨.bl _,H,I,rfl,?_⟩
  rw [show its.toArray.any (eqU x)=its.any (eqU x) by simp,zap1 r fs]
  exact q
theorem zC8:CallR X (.builtin "len") (fun xs H Q=>∃ p ys,xs=[.ref p]∧(SqL X.K H p ys∨SqT X.K H p ys)∧Q (.int ys.length) H):=by
 intro pins s σ H xs us Q I r h
 obtain ⟨p,ys,rfl,hq,q⟩:=h
 obtain ⟨u,rfl,rx⟩:=zS0 r
 cases rx
 have hn:=zR2
 rcases hq with hq | hq
 ·obtain ⟨its,r',pl,hz⟩:=I.list hq
  have hlen:=r'.length
  exact Calls.call_len_list pl.isList (by simp only [List.size_toArray] <;> omega) ⟨.int ys.length,H,I.tok _,⟨s.toks + 1,by rw [List.size_toArray,hlen]⟩,q⟩
 ·obtain ⟨its,r',pl,hz⟩:=I.tuple hq
  have hlen:=r'.length
  exact len_tuple pl (by simp only [List.size_toArray] <;> omega) ⟨.int ys.length,H,I.tok _,⟨s.toks + 1,by rw [List.size_toArray,hlen]⟩,q⟩
theorem zah7:CallR X (.builtin "len") (fun xs H Q=>∃ z,xs=[.str z]∧z.length≤sizeLine∧Q (.int z.length) H):=by
 intro pins s σ H xs us Q I r h
 obtain ⟨z,rfl,hz,q⟩:=h
 obtain ⟨u,rfl,t,rfl⟩:=zS0 r
 have hn:=zR2
 exact len_str (by omega) ⟨.int z.length,H,I.tok _,⟨_,rfl⟩,q⟩
theorem CallR.or {f:Value} {r r':List V→Hp→VK→Prop} (h:CallR X f r) (h':CallR X f r'):CallR X f (fun xs H Q=>r xs H Q∨r' xs H Q):=by
 intro pins s σ H xs us Q I rs q
 rcases q with q | q
 ·exact h pins s σ H xs us Q I rs q
 ·exact h' pins s σ H xs us Q I rs q
theorem zQ5:CallR X (.type "list") (fun xs H Q=>∃ p ys,xs=[.ref p]∧(SqL X.K H p ys∨SqT X.K H p ys)∧∀ l,H l=none→Q (.ref l) (upd H l (.lst ys))):=by
 intro pins s σ H xs us Q I r h
 obtain ⟨p,ys,rfl,hq,q⟩:=h
 obtain ⟨u,rfl,rx⟩:=zS0 r
 cases rx
 have fin:∀ (its:List Value),Vals ys its→ys.length≤sizeLine→∀ (h':Heap) (c':Nat),(∀ b o',s.heap.get? b=some o'→h'.get? b=some o') →
   h'.get? s.heap.objs.size=some { cls:=.type "list",dict:=none,data:=.seq its.toArray c',slots:=#[] }→EP X pins σ Q (.ref s.heap.objs.size) { s with heap:=h' }:=fun its r' hz h' c' kp e =>
  ⟨.ref s.heap.objs.size,_,I.laid (t':=s.toks) kp (Nat.le_refl _) (show ObjOk X.prog X.w _ h' _ (.lst ys) from ⟨hz,its,c',r',e⟩),rfl,q _ (I.hok.fresh (Nat.le_refl _))⟩
 rcases hq with hq | hq
 ·obtain ⟨its,r',pl,hz⟩:=I.list hq
  have hlen:=r'.length
  obtain ⟨o,ho,hc,n,hd⟩:=pl.isList
  exact call_list_seq p (.inl rfl) ho hc hd (fun h' c' kp e=>fin its r' hz h' c' kp e) (by simp only [List.size_toArray] <;> omega)
 ·obtain ⟨its,r',pl,hz⟩:=I.tuple hq
  have hlen:=r'.length
  obtain ⟨o,ho,hc,n,hd⟩:=pl
  exact call_list_seq p (.inr rfl) ho hc hd (fun h' c' kp e=>fin its r' hz h' c' kp e) (by simp only [List.size_toArray] <;> omega)
theorem zy8:CallR X (.type "tuple") (fun xs H Q=>∃ p ys,xs=[.ref p]∧((SqL X.K H p ys∧∀ l,H l=none→Q (.ref l) (upd H l (.tup ys)))∨(SqT X.K H p ys∧Q (.ref p) H))):=by
 intro pins s σ H xs us Q I r h
 obtain ⟨p,ys,rfl,h⟩:=h
 obtain ⟨u,rfl,rx⟩:=zS0 r
 cases rx
 rcases h with ⟨hq,q⟩ | ⟨hq,q⟩
 ·obtain ⟨its,r',pl,hz⟩:=I.list hq
  have hlen:=r'.length
  refine call_tuple_list pl.isList (fun h' kp=>?_) (by simp only [List.size_toArray] <;> omega)
  have I1:Inv X pins σ H { s with heap:=h' }:=I.kept (t':=s.toks) kp
  have I2:Inv X pins σ (upd H h'.objs.size (.tup ys)) { s with heap:=h'.push { cls:=.type "tuple",data:=.seq its.toArray } } :=
   I1.laid (t':=s.toks) (fun b o e=>Heap.get?_push_of_some _ e) (Nat.le_refl _) (show ObjOk X.prog X.w _ _ _ (.tup ys) from ⟨⟨hz,NoD.new _ _ _⟩,its,r',IsTup.new _ _⟩)
  exact ⟨.ref h'.objs.size,_,I2,rfl,q _ (I1.hok.fresh (Nat.le_refl _))⟩
 ·obtain ⟨its,r',pl,hz⟩:=I.tuple hq
  exact call_tuple_same pl ⟨.ref p,H,I,rfl,q⟩
def tyV (K:PySem.W.Frag) (T:String) (x:V) (H:Hp):Prop:=match x with
 | .str _=>T="str"
 | .int _=>T="int"
 | .ref p=>(T="list"∧∃ xs,SqL K H p xs)∨(T="tuple"∧∃ o,K.lookup p=some o∧o.cls=.type "tuple"∧o.dict=none) ∨
   (T="dict"∧((∃ kvs,H p=some (.dK kvs))∨∃ kvs,H p=some (.dT kvs)))∨(T="set"∧∃ S n,H p=some (.set S n))
 | _=>False
theorem zbg8 {pins:List (Addr×Obj)} {σ:St} {H:Hp} {s:Shared} {T:String} {x:V} {v:Value} (I:Inv X pins σ H s) (r:RelV x v) (ty:tyV X.K T x H) :
  s.TypeIs v T∧∀ a,v=.ref a→∃ ob,s.heap.get? a=some ob∧ob.dict=none:=by
 cases x with
 | str z =>
  obtain ⟨t,rfl⟩:=r
  cases (show T="str" from ty)
  exact ⟨typeIs_str s z t,fun _ e=>nomatch e⟩
 | int i =>
  obtain ⟨t,rfl⟩:=r
  cases (show T="int" from ty)
  exact ⟨typeIs_int s i t,fun _ e=>nomatch e⟩
 | ref p =>
  cases r
  rcases ty with ⟨rfl,xs,hq⟩ | ⟨rfl,o,hk,hc,hd⟩ | ⟨rfl,hk⟩ | ⟨rfl,S,n,hk⟩
  ·obtain ⟨its,_,pl,_⟩:=I.list hq
   refine ⟨pl.isList.typeIs,fun a e=>?_⟩
   cases e
   obtain ⟨o,n,e,c,hd,_⟩:=pl
   exact ⟨o,e,hd⟩
  ·refine ⟨⟨o,I.kIn p o hk,hc⟩,fun a e=>?_⟩
   cases e
   exact ⟨o,I.kIn _ o hk,hd⟩
  ·have z:∃ o,s.heap.get? p=some o∧o.ExactDict:=by
    rcases hk with ⟨kvs,hk⟩ | ⟨kvs,hk⟩
    ·obtain ⟨_,_,_,_,o,_,_,e,ex,_⟩:=I.hok p _ hk
     exact ⟨o,e,ex⟩
    ·obtain ⟨_,_,_,_,o,_,_,e,ex,_⟩:=I.hok p _ hk
     exact ⟨o,e,ex⟩
   obtain ⟨o,e,ex⟩:=z
   refine ⟨⟨o,e,ex.1⟩,fun a e2=>?_⟩
   cases e2
   exact ⟨o,e,ex.2.1⟩
  ·obtain ⟨o,_,_,_,e,ex,_⟩:=I.hok p _ hk
   refine ⟨⟨o,e,ex.1⟩,fun a e2=>?_⟩
   cases e2
   exact ⟨o,e,ex.2.1⟩
 | _=>exact False.elim ty
def tBM (K:PySem.W.Frag) (T:String) (r:V→List V→Hp→VK→Prop) (to:TE) (t:TA):TE:=fun σ H Q=>to σ H fun x H1=>tyV K T x H1∧t σ H1 fun xs H2=>r x xs H2 Q
variable {o e:Expr} {es:List Expr} {to:TE} {t:TA} {name:Str} {apos cpos:Pos} {T id:String} {r:V→List V→Hp→VK→Prop}
theorem zaX8 (pa:PlainAttrs T) (slot:Slot T name id) (hty:typeOf (.builtin id)=pure (.type "method_descriptor")) (hm:MtR X id r) (ho:PE X o to) (ha:PA X (e :: es) t)
  (hbase:attributeBase o name X.env (eval o X.env)=eval o X.env:=by rfl)
  (hfew:((backTo cpos (starEach (e :: es) X.env)).all (fun x=>!x.1) && (backToKw cpos (keywordEach [] X.env)).all (fun x=>x.1.isSome)
   && decide ((e :: es).length + ([]:List Keyword).length + (if ([]:List Keyword).isEmpty then 0 else 1) < 30))=true:=by rfl)
  (hline:(apos.endLine == cpos.line)=true:=by rfl) (hs:starEach (e :: es) X.env=(false,eval e X.env) :: starEach es X.env:=by rfl) (hplain:(backTo cpos (starEach es X.env)).any (·.1)=false:=by rfl) :
  PE X (.Call (.Attribute o name apos) (e :: es) [] cpos) (tBM X.K T r to t):=by
 intro pins s σ H Q I h
 refine wpAny_Call_method_late hbase hfew hline rfl (thn (ho pins s σ H _ I h) fun v s1 ⟨x,H1,I1,r1,ty,q1⟩=>?_)
 obtain ⟨h1,h2⟩:=zbg8 I1 r1 ty
 refine ⟨T,id,pa,slot,hty,h1,h2,?_⟩
 have hA:=ha cpos pins s1 σ H1 _ I1 q1
 rw [hs] at hA ⊢
 refine Calls.callWith_builtin (by show (false || (backTo cpos (starEach es X.env)).any (·.1))=false; rw [hplain] <;> rfl) (Calls.evalArgs_plain ?_)
 exact thn hA fun us s2 ⟨vs,H2,I2,r2,q2⟩=>hm pins s2 σ H2 x vs v us Q I2 r1 r2 q2
end
end L2
namespace L2
open PySem PySem.Spec PyProof.Rows
def MtM (X:Cx) (id:String) (r:V→List V→Hp→VK→Prop):Prop :=
 ∀ (pins:List (Addr×Obj)) (s:Shared) (σ:St) (H:Hp) (x:V) (xs:List V) (v:Value) (us:List Value) (Q:VK),Inv X pins σ H s→RelV x v→Vals xs us→r x xs H Q →
  wpAny (model X.prog X.w) X.A (call (.builtin id) (v :: us)) (EP X pins σ Q) X.xe s
theorem Vals.one:∀ {x:V} {us:List Value},Vals [x] us→∃ u,us=[u]∧RelV x u
 | _,_,.cons r .nil=>⟨_,rfl,r⟩
theorem Vals.two:∀ {x y:V} {us:List Value},Vals [x,y] us→∃ u v,us=[u,v]∧RelV x u∧RelV y v
 | _,_,_,.cons r (.cons q .nil)=>⟨_,_,rfl,r,q⟩
theorem Vals.zero:∀ {us:List Value},Vals [] us→us=[]
 | _,.nil=>rfl
theorem Vals.reverse {xs:List V} {us:List Value} (h:Vals xs us):Vals xs.reverse us.reverse:=by
 induction h with
 | nil=>exact .nil
 | cons r t ih=>rw [List.reverse_cons,List.reverse_cons]; exact Vals.append ih (.cons r .nil)
theorem Vals.rep {xs:List V} {us:List Value} (h:Vals xs us):∀ k:Nat,Vals (List.replicate k xs).flatten (List.replicate k us).flatten
 | 0=>.nil
 | k + 1=>by
  rw [List.replicate_succ,List.replicate_succ,List.flatten_cons,List.flatten_cons]
  exact Vals.append h (Vals.rep h k)
theorem zaj8 (its:List Value):∀ (k:Nat) (acc:List Value),
  List.foldl (fun x1 x2=>x1++x2) acc.toArray (List.replicate k its.toArray)=(acc++(List.replicate k its).flatten).toArray
 | 0,acc=>by simp
 | k + 1,acc=>by
  have e:acc.toArray++its.toArray=(acc++its).toArray:=by simp
  have e2:(acc++its)++(List.replicate k its).flatten=acc++(List.replicate (k + 1) its).flatten:=by
   rw [List.replicate_succ,List.flatten_cons,List.append_assoc]
  rw [← e2,← zaj8 its k (acc++its),← e,List.replicate_succ,List.foldl_cons]
section
variable {X:Cx} {pins:List (Addr×Obj)} {σ:St} {H:Hp} {s:Shared} {l b:Addr} {xs ys zs:List V}
theorem Inv.lset {its its':List Value} {n:Nat} {f:Array Value→Array Value} {t':Nat} (I:Inv X pins σ H s) (hH:H l=some (.lst xs))
  (e:s.heap.get? l=some { cls:=.type "list",data:=.seq its.toArray n }) (hf:f its.toArray=its'.toArray) (hv:Vals ys its') (hz:ys.length≤sizeLine) :
  Inv X pins σ (upd H l (.lst ys)) { s with heap:=s.heap.update l (Obj.mapSeq f),toks:=t' }:=by
 have q:=PySem.IsL.update e f
 rw [hf] at q
 refine I.write (x:=l) (e:=l) (by rw [hH]; exact trivial) (.inl rfl) (fun b' u hb hu=>(Heap.get?_update_other s.heap (Obj.mapSeq f) (Ne.symm hb)).trans hu) ⟨_,q⟩ ?_
 exact ⟨hz,its',_,hv,q⟩
theorem Inv.lnew {its:List Value} {t':Nat} (I:Inv X pins σ H s) (hv:Vals ys its) (hz:ys.length≤sizeLine) :
  Inv X pins σ (upd H s.heap.objs.size (.lst ys)) { s with heap:=s.heap.push { cls:=.type "list",data:=.seq its.toArray },toks:=t' } :=
 I.laid (fun _ _ q=>Heap.get?_push_of_some _ q) (Nat.le_refl _) ⟨hz,its,0,hv,Heap.get?_push_size _ rfl⟩
theorem Inv.fresh (I:Inv X pins σ H s):H s.heap.objs.size=none:=I.hok.fresh (Nat.le_refl _)
theorem Inv.lstM (I:Inv X pins σ H s) (hH:H l=some (.lst xs)):xs.length≤sizeLine∧∃ (its:List Value) (n:Nat),Vals xs its∧xs.length=its.length∧s.heap.get? l=some { cls:=.type "list",data:=.seq its.toArray n }:=by
 obtain ⟨z,its,n,r,e⟩:=I.hok l _ hH
 exact ⟨z,its,n,r,r.length,e⟩
theorem zar1 {n:Nat} (h:n≤sizeLine):Builtin.List.listTooLong n=false:=by
 unfold Builtin.List.listTooLong
 exact decide_eq_false (by omega)
end
section
variable {X:Cx}
def zaR1:V→List V→Hp→VK→Prop:=fun x vs H Q=>∃ l xs y,x=.ref l∧vs=[y]∧H l=some (.lst xs)∧xs.length < sizeLine∧Q .non (upd H l (.lst (xs++[y])))
theorem zT9:MtM X "list.append" zaR1:=by
 intro pins s σ H x vs v us Q I rx rv h
 obtain ⟨l,xs,y,rfl,rfl,hH,hz,q⟩:=h
 cases rx
 obtain ⟨u,rfl,ru⟩:=rv.one
 obtain ⟨z,its,n,r,hl,e⟩:=I.lstM hH
 refine call_meets F.slot_list_append ⟨_,e,rfl⟩ F.entry_list_append (F.args_list_append_2 _ _) (PySem.list_append l its.toArray n u (by rw [List.size_toArray]; omega)) ⟨e,?_⟩
 refine ⟨.non,_,I.lset (its':=its++[u]) hH e (by simp) (r.append (.cons ru .nil)) ?_,rfl,q⟩
 rw [List.length_append,List.length_singleton]
 omega
def zaX1:V→List V→Hp→VK→Prop:=fun x vs H Q=>∃ l b xs zs,x=.ref l∧vs=[.ref b]∧H l=some (.lst xs)∧H b=some (.lst zs)∧xs.length + zs.length≤sizeLine∧Q .non (upd H l (.lst (xs++zs)))
theorem zaE8:MtM X "list.extend" zaX1:=by
 intro pins s σ H x vs v us Q I rx rv h
 obtain ⟨l,b,xs,zs,rfl,rfl,hH,hB,hz,q⟩:=h
 cases rx
 obtain ⟨u,rfl,ru⟩:=rv.one
 cases ru
 obtain ⟨z,its,n,r,hl,e⟩:=I.lstM hH
 obtain ⟨z2,its2,n2,r2,hl2,e2⟩:=I.lstM hB
 have hsz:its.toArray.size + its2.toArray.size≤sizeLine:=by rw [List.size_toArray,List.size_toArray]; omega
 have hlong:¬ (!its.toArray.isEmpty && Builtin.List.listTooLong (its.toArray.size + its2.toArray.size))=true:=by
  rw [zar1 hsz,Bool.and_false]
  exact Bool.false_ne_true
 refine call_meets F.slot_list_extend ⟨_,e,rfl⟩ F.entry_list_extend (F.args_list_extend_2 _ _)
  (AutoSeq1.list_extend_list_list_0 l its.toArray n b its2.toArray n2 hlong (by rw [List.size_toArray]; omega) (by omega)) ⟨e,e2,?_⟩
 refine ⟨.non,_,I.lset (its':=its++its2) hH e (by simp) (r.append r2) ?_,rfl,q⟩
 rw [List.length_append]
 omega
def rRep:R2:=fun x y H Q=>∃ l k xs,x=.ref l∧y=.int k∧H l=some (.lst xs)∧-(2 ^ 63)≤k∧k < 2 ^ 63∧xs.length * k.toNat≤sizeLine ∧
 ∀ p,H p=none→Q (.ref p) (upd H p (.lst (List.replicate k.toNat xs).flatten))
theorem zaU1 {α:Type} (xs:List α) (k:Nat):(List.replicate k xs).flatten.length=k * xs.length:=by
 induction k with
 | zero=>simp
 | succ k ih=>rw [List.replicate_succ,List.flatten_cons,List.length_append,ih,Nat.succ_mul,Nat.add_comm]
theorem zbb7:OpR X (binaryOp .Mult) rRep:=by
 intro pins s σ H x y v u Q I rx ry h
 obtain ⟨l,k,xs,rfl,rfl,hH,h1,h2,hz,q⟩:=h
 cases rx
 obtain ⟨t,rfl⟩:=ry
 obtain ⟨z,its,n,r,hl,e⟩:=I.lstM hH
 have hlen:its.toArray.size * k.toNat≤sizeLine:=by rw [List.size_toArray,← hl]; exact hz
 have hcap:¬ its.toArray.size * k.toNat > (2 ^ 63 - 1) / 8:=by
  have:(sizeLine:Nat)≤(2 ^ 63 - 1) / 8:=by decide
  omega
 have hfit:¬ (!Builtin.List.listFitsIndex k)=true:=by
  rw [fitsIndex_both h1 h2]
  exact Bool.false_ne_true
 have hlong:¬ Builtin.List.listTooLong (its.toArray.size * k.toNat)=true:=by
  rw [zar1 hlen]
  exact Bool.false_ne_true
 have hnew:List.foldl (fun x1 x2=>x1++x2) #[] (List.replicate (if its.toArray.isEmpty=true then 0 else k.toNat) its.toArray)=(List.replicate k.toNat its).flatten.toArray:=by
  have f0:∀ m:Nat,List.foldl (fun x1 x2=>x1++x2) #[] (List.replicate m its.toArray)=(List.replicate m its).flatten.toArray:=fun m=>by
   have:=zaj8 its m []
   rw [List.nil_append] at this
   exact this
  rw [f0]
  cases its with
  | nil=>simp
  | cons a r'=>rw [if_neg (by simp)]
 refine wpAny_binaryOp_repeat_ref (T:="list") (U:="int") (by decide) ⟨_,e,rfl⟩ (fun s'=>typeIs_int s' k t) noFill_list_mul F.fills_int_mul F.slot_int_rmul repeat_list F.slot_int_index.lookup
  (call_meets F.slot_int_rmul (typeIs_int s k t) F.entry_int_rmul (F.args_int_rmul_2 _ _) (int___rmul___int_list k t l its.toArray n)
   ⟨e,rfl,⟨_,e,rfl⟩,call_meets F.slot_list_mul ⟨_,e,rfl⟩ F.entry_list_mul (F.args_list_mul_2 _ _) (AutoListH.list___mul___list_int_3 l its.toArray n k t hfit hcap hlong) ⟨e,?_⟩⟩)
 rw [hnew]
 exact ⟨.ref _,_,I.lnew (t':=s.toks) (r.rep k.toNat) (by rw [zaU1,Nat.mul_comm]; exact hz),rfl,q _ I.fresh⟩
end
section
variable {prog:Program} {w:World} {A:Around} {E:Value→Shared→Prop} {s:Shared}
end
section
variable {X:Cx}
end
end L2
namespace Att
open PySem PySem.W PySem.Calls PyProof.Rows
theorem zT5 {P:Params} {h:Heap}:∀ (ns:List Int) (vs:List Value),WellAll P h vs (ns.map WData.int)→IntsAre vs ns:=by
 intro ns
 induction ns with
 | nil =>
  intro vs w
  rw [List.map_nil] at w
  cases w
  exact .nil
 | cons n ns ih =>
  intro vs w
  rw [List.map_cons] at w
  cases w with
  | cons a b =>
   cases a
   exact .cons _ _ (ih _ b)
theorem zaB1 {l:OpenLaw} {n:Nat} (hn:l.most=some n) {P:Params} {h:Heap} {args:List WData} {vals:List Value}
  (hpre:l.row.toRowW.claim.pre args=true) (hwl:WellAll P h vals args) :
  ∃ a vs ns,vals=[Value.ref a]∧args=[WData.list (ns.map WData.int)]∧h.get? a=some { cls:=.type "list",data:=.seq vs.toArray }∧IntsAre vs ns∧ns.length≤n:=by
 have hsh:WShape.hasAll [] args [.list .int]=true:=(pre_splitW hpre).1
 have hc:l.pre.holds [] { args:=args }=true:=(pre_splitW hpre).2
 obtain ⟨d,r,rfl,h1,h2⟩:=hasAllW_cons hsh
 obtain rfl:=hasAllW_nil h2
 obtain ⟨xs,rfl,h3⟩:=hasW_list h1
 obtain ⟨ns,rfl⟩:=items_int h3
 have hlen:ns.length≤n:=by
  unfold OpenLaw.pre at hc
  have h4:(WTm.not (.lt (.lit (.int (n:Int))) (.len (.arg 0)))).holds [] { args:=[.list (ns.map .int)] }=true:=by
   have h4:=(holds_andW hc).1
   rw [hn] at h4
   exact h4
  have h5:=condW_of h4 (w_not (w_lt w_lit (w_len_list (w_arg rfl))))
  rw [List.length_map] at h5
  refine Nat.le_of_not_lt fun q=>?_
  have q':(n:Int) < ((ns.length:Nat):Int):=by omega
  first
   | (rw [decide_eq_true q'] at h5; exact absurd h5 (by decide))
   | (simp at h5; omega)
 cases hwl with
 | cons w1 w2 =>
  cases w2
  cases w1 with
  | list ho hall=>exact ⟨_,_,ns,rfl,rfl,ho,zT5 ns _ hall,hlen⟩
theorem zaA9 (l:OpenLaw) (args:List WData):l.row.toRowW.claim.post args (.bool true) args=true :=
 postW_of (r:=l.row.toRowW) (X:=(true == true))
  (show WShape.has [] (.bool true) .bool=true by first | rfl | decide | simp [WShape.has,WShape.arms,WShape.armsAll])
  (show (WTm.eq .res (.lit (.bool true))).value [] { args:=args,res:=some (.bool true),after:=args }=some (.bool (true == true)) from w_eq_bool (w_res rfl) w_lit) rfl
theorem attach_call {l:OpenLaw} {n:Nat} {q:Program} {loose:List Str} {XP:(Str→Option Value)→Heap→Prop} {YP:World→Heap→Prop} {d:DefRec}
  (hn:l.most=some n) (hdf:d.params.defaults=[])
  (call:∀ (w:World) (s₀ s₁:Shared) (mg mb:Str→Option Value) (fa:Addr) (o:Obj) (pm cd doc:Value) (a:Addr) (vs:List Value) (ns:List Int),
   Ground q loose [] XP w s₀ mg mb s₁.heap→YP w s₁.heap →
   s₁.heap.get? fa=some o→o.data=.func (docDef d.name d.params d.body d.scope pm cd doc)→s₁.heap.CodeRec cd d.name→mg d.name=some (.ref fa) →
   s₁.heap.get? a=some { cls:=.type "list",data:=.seq vs.toArray }→IntsAre vs ns→ns.length≤n→s₁.gens=#[] →
   codeAny (model l.prog w) callerA (.call (.ref fa) ⟨[.ref a],[]⟩) (fun r s'=>r=.ok (.ret (.bool true))∧OldK s₁.heap s'.heap∧s'.os=s₁.os∧AllBare s'.gens) s₁) :
  WalkO q loose XP YP l.row.toRowW d [] (fun f vs=>PySem.call f vs):=by
 intro w s₀ s₁ mg mb G Y fa o pm cd doc dV kV ho hd hcd hD hmg hg args vals as hpre hlay hrd hwl hlo
 obtain rfl:dV=.none:=Dflts.none hD hdf
 obtain rfl:kV=.none:=Dflts.noKw hD
 obtain ⟨a,vs,ns,rfl,rfl,hobj,hints,hlen⟩:=zaB1 hn hpre hwl
 refine enter_call (codeAny_mono (call w s₀ s₁ mg mb fa o pm cd doc a vs ns G Y ho (fd_plain hd) hcd hmg hobj hints hlen hg) fun r s' hq=>?_)
 obtain ⟨rfl,h2,h3,h4⟩:=hq
 exact ⟨.inl ⟨.bool true,.bool true,[],rfl,fun _=>rfl,.bool true,zaA9 l _,fun _=>⟨List.Pairwise.nil,fun _ hm=>(nomatch hm)⟩⟩,h2,h3,h4⟩
section
variable {prog:Program} {w:World} {A:Around} {E:Value→Shared→Prop} {s:Shared} {K:Frag}
end
end Att
namespace L2
open PySem PySem.Spec PyProof.Rows
theorem zaj6:∀ {vs:List Value} {ns:List Int},IntsAre vs ns→Vals (ns.map V.int) vs
 | _,_,.nil=>.nil
 | _,_,.cons n t h=>.cons ⟨t,rfl⟩ (zaj6 h)
def Only (H:Hp):Prop:=∀ b,H b=none∨∃ o xs,H b=some (.frz o (.lst xs))
theorem zaH8 {P:Program} {w:World} {K:PySem.W.Frag} {mg mb:Str→Option Value} {CX:CXT} {k:Nat} {fa a:Addr} {fd:FuncData} {x:Str} {sp:Sp} {s₁:Shared} {vs:List Value} {ns:List Int}
  (KX:K.In s₁.heap) (hns:s₁.heap.Ns mainGlobals mg) (hb:s₁.heap.Ns builtinsNs mb) (hbb:∀ x:Str,x≠"__name__"→mb x=bootBuiltins x) (hlim:s₁.heap.NoLimit) (hg:s₁.gens=#[])
  (ha:s₁.heap.get? a=some { cls:=.type "list",data:=.seq vs.toArray }) (hi:IntsAre vs ns) (hl:ns.length≤sizeLine) (hr:Room k callerA)
  (F:∀ base:Heap,K.In base→base.Ns mainGlobals mg→FnOk P w K mg base CX k fa fd [x] sp) (hbind:∀ (s:Shared) (u:Value),BindsTo s fd ⟨[u],[]⟩ [(x,u)])
  (hsp:∀ H:Hp,Only H→SqL K H a (ns.map V.int)→sp [.ref a] H (fun v _=>v=.bl true) fun _ _ _=>False)
  (hCX:∀ H e s',CX [] H s₁ (fun _ _ _=>False) e s'→False) :
  codeAny (model P w) callerA (.call (.ref fa) ⟨[.ref a],[]⟩) (fun r s'=>r=.ok (.ret (.bool true))∧OldK s₁.heap s'.heap∧s'.os=s₁.os∧AllBare s'.gens) s₁:=by
 have rv:=zaj6 hi
 have lenV:=hi.length
 -- from an abstract heap in which nothing but the script may be tracked
 have core:∀ H:Hp,Only H→SqL K H a (ns.map V.int)→HOk P w H s₁.heap→(∀ b,H b≠none→b=a)→(H a≠none→K.lookup a=none) →
   codeAny (model P w) callerA (.call (.ref fa) ⟨[.ref a],[]⟩) (fun r s'=>r=.ok (.ret (.bool true))∧OldK s₁.heap s'.heap∧s'.os=s₁.os∧AllBare s'.gens) s₁:=by
  intro H hO hS hok hA hK
  have base_of:∀ {b:Addr} {o:Obj},s₁.heap.get? b=some o→H b=none→(hidT s₁.heap H).get? b=some o:=fun e n=>zaI6 e n
  have noA:∀ {b:Addr} {o:Obj} {es:Array DictEntry} {ep:Nat},s₁.heap.get? b=some o→o.data=.dict es ep→H b=none:=fun {b o es ep} e d=>by
   cases q:H b with
   | none=>rfl
   | some u =>
    have e':b=a:=hA b (by rw [q]; simp)
    subst e'
    rw [ha] at e; cases e
    have d':Data.seq vs.toArray _=Data.dict es ep:=d
    cases d'
  have nsK:∀ {b:Addr} {m:Str→Option Value},s₁.heap.Ns b m→(hidT s₁.heap H).Ns b m:=fun {b m} ⟨o,es,ep,e,d,r⟩=>⟨o,es,ep,base_of e (noA e d),d,r⟩
  have hKb:K.In (hidT s₁.heap H):=fun b o e=>base_of (KX b o e) (by
   cases q:H b with
   | none=>rfl
   | some u =>
    have e':b=a:=hA b (by rw [q]; simp)
    subst e'
    rw [hK (by rw [q]; simp)] at e; cases e)
  have hM:Mod K mg (hidT s₁.heap H):=⟨hKb,nsK hns,⟨mb,nsK hb,hbb⟩,let ⟨mc,h1,h2⟩:=hlim; ⟨mc,nsK h1,h2⟩⟩
  have e0:Env0 P w K mg (hidT s₁.heap H) callerA [] s₁ H:=⟨rfl,hM,fun b o e=>zaU3 e,Nat.le_of_eq (zaD8 _ _),trivial,fun b hb=>absurd (show b∈([]:List Addr) from hb) (by simp),hok,.of_eq hg⟩
  refine codeAny_mono ((F _ hKb (nsK hns)).run callerA [] s₁ H ⟨[.ref a],[]⟩ [.ref a] [.ref a] _ _ hr e0 (hbind s₁ (.ref a)) (.cons rfl .nil) (hsp H hO hS)) fun r s' h=>?_
  cases r with
  | error e=>exact (hCX H e s' h).elim
  | ok fl =>
   cases fl with
   | next=>exact False.elim h
   | brk=>exact False.elim h
   | cont=>exact False.elim h
   | ret u =>
    obtain ⟨v,H',os,bare,un,hok',r',q⟩:=h
    have q':v=.bl true:=q
    subst q'
    obtain rfl:u=Value.bool true:=r'
    refine ⟨rfl,OldK.of_keep fun b o e=>?_,os,bare⟩
    cases q:H b with
    | none=>exact un.keep b o e q (by intro z; exact absurd (show b∈([]:List Addr) from z) (by simp)) (by simp)
    | some u =>
     rcases hO b with z | ⟨ob,xs,z⟩
     ·rw [q] at z; cases z
     ·have z2:=un.frzs b ob _ z
      obtain ⟨e1,_⟩:=hok b _ z
      obtain ⟨e2,_⟩:=hok' b _ z2
      rw [e] at e1; cases e1
      exact e2
 cases hk:K.lookup a with
 | some o =>
  -- the script is one of the module's own objects
  have e:=KX a o hk
  rw [ha] at e
  cases e
  refine core (fun _=>none) (fun _=>.inl rfl) (.inr ⟨_,vs.toArray,_,hk,rfl,rfl,rfl,by rw [List.size_toArray,lenV]; exact hl,by simpa using rv⟩) (fun b u z=>by have z':(none:Option HO)=some u:=z; cases z') (fun b z=>absurd rfl z) fun z=>absurd rfl z
 | none =>
  refine core (fun b=>if b=a then some (.frz { cls:=.type "list",data:=.seq vs.toArray } (.lst (ns.map V.int))) else none) (fun b=>?_) (.inl (.inr ⟨{ cls:=.type "list",data:=.seq vs.toArray },if_pos rfl⟩)) (fun b u z=>?_) (fun b z=>?_) fun _=>hk
  ·by_cases hb:b=a
   ·exact .inr ⟨_,_,if_pos hb⟩
   ·exact .inl (if_neg hb)
  ·by_cases hb:b=a
   ·have z':=(if_pos hb).symm.trans z
    cases z'
    subst hb
    exact ⟨ha,by rw [List.length_map]; exact hl,vs,_,rv,ha⟩
   ·have z':=(if_neg hb).symm.trans z
    cases z'
  ·by_cases hb:b=a
   ·exact hb
   ·exact absurd (if_neg hb) z
end L2
namespace L2
open PySem PySem.Spec PyProof.Rows
theorem walk_of {l:PySem.W.OpenLaw} {n k:Nat} {q:Program} {loose:List Str} {XP:(Str→Option Value)→Heap→Prop} {YP:World→Heap→Prop} {d:DefRec} {K:Params→PySem.W.Frag} {CX:World→CXT} {sp:World→Sp} {x:Str}
  (hn:l.most=some n) (hn2:n≤sizeLine) (hdf:d.params.defaults=[]) (hr:Room k callerA)
  (hY:∀ (w:World) (h:Heap),YP w h→(K w.params).In h)
  (F:∀ (w:World) (mg:Str→Option Value) (fa:Addr) (h:Heap),(K w.params).In h→h.Ns mainGlobals mg→mg d.name=some (.ref fa) →
   ∃ fd:FuncData,(∀ (s:Shared) (u:Value),BindsTo s fd ⟨[u],[]⟩ [(x,u)]) ∧
    ∀ base:Heap,(K w.params).In base→base.Ns mainGlobals mg→FnOk l.prog w (K w.params) mg base (CX w) k fa fd [x] (sp w))
  (hsp:∀ (w:World) (H:Hp) (a:Addr) (ns:List Int),ns.length≤n→Only H→SqL (K w.params) H a (ns.map V.int)→sp w [.ref a] H (fun v _=>v=.bl true) fun _ _ _=>False)
  (hCX:∀ (w:World) (H:Hp) (s:Shared) (e:Value) (s':Shared),CX w [] H s (fun _ _ _=>False) e s'→False) :
  PySem.W.WalkO q loose XP YP l.row.toRowW d [] (fun f vs=>PySem.call f vs):=by
 refine Att.attach_call hn hdf fun w s₀ s₁ mg mb fa o pm cd doc a vs ns G Y ho hd hcd hmg hobj hints hlen hg=>?_
 have KX:=hY w _ Y
 obtain ⟨fd,hb,hF⟩:=F w mg fa _ KX G.T.g hmg
 exact zaH8 KX G.T.g G.T.b G.T.builtins G.T.nolimit hg hobj hints (Nat.le_trans hlen hn2) hr hF hb (fun H hO hS=>hsp w H a ns hlen hO hS) fun H e s'=>hCX w H s₁ e s'
end L2
namespace L2
open PySem PySem.Spec PyProof.Rows
def zc3 (s:Stmt):Arguments:=match s with
 | .FunctionDef _ a _ _ _ _ _ _ _ _=>a
 | _=>{ posonlyargs:=[],args:=[],vararg:=none,kwonlyargs:=[],kw_defaults:=[],kwarg:=none,defaults:=[] }
def zc0 (s:Stmt):List Stmt:=match s with
 | .FunctionDef _ _ b _ _ _ _ _ _ _=>b
 | _=>[]
def za7 (s:Stmt):Scope:=match s with
 | .FunctionDef _ _ _ _ _ _ sc _ _ _=>sc
 | _=>{ kind:=.function,names:=[],isGenerator:=false,isCoroutine:=false }
abbrev CX0:CXT:=fun _ _ _ _ _ _=>False
abbrev E0:XK:=fun _ _ _=>False
theorem zbn8 {X:Cx}:zaB7 CX0 X E0:=fun _ _ _ _ _ _ _ h=>h.elim
structure Fun (K:PySem.W.Frag) (x qual:Str) (st:Stmt) (f:Addr) (fd:FuncData):Prop where
 ex:∃ (oc:Value) (od:Option Addr) (kV doc pm:Value) (an:Option Addr) (cdv ct:Value) (osl:Array (Option Value)),
  fd=PySem.W.fnOf x qual (zc3 st) (zc0 st) (za7 st) .none kV doc pm an cdv ct∧K.lookup f=some ⟨oc,od,.func fd,osl⟩∧PySem.W.codeIn K cdv qual=true
 kp:PySem.W.keepIn K (.ref f)=true
section
variable {P:Program} {w:World} {K:PySem.W.Frag} {mg:Str→Option Value} {base:Heap}
theorem Fun.ok {x qual:Str} {st:Stmt} {f:Addr} {fd:FuncData} {N ps:List Str} {k:Nat} {sp:Sp} (F:Fun K x qual st f fd) (S:FnScope N ps (za7 st)) (len:∀ vs H Q E,sp vs H Q E→vs.length=ps.length)
  (hbody:∀ (cdv:Value) (A:Around) (outer:List Env) (s:Shared) (H:Hp) (vs:List V) (Q:VK) (E:XK),Room k (A.deeper (envOfC qual (za7 st) s.heap.objs.size f cdv))→sp vs H Q E →
   ∃ t,PSs (cxOf CX0 P w K mg base N qual (za7 st) f cdv A outer s H E).nox (zc0 st) t∧t { nx:=fun _ H'=>Q .non H',rt:=Q } (start N vs) H):FnOk P w K mg base CX0 (k + 1) f fd ps sp:=by
 obtain ⟨oc,od,kV,doc,pm,an,cdv,ct,osl,rfl,lk,hcd⟩:=F.ex
 refine zbk3 lk hcd S len fun A outer s H vs Q E hr hsp=>?_
 obtain ⟨t,h,q⟩:=hbody cdv A outer s H vs Q E hr hsp
 exact ⟨t,h.nox,q⟩
theorem Fun.binds {x qual:Str} {st:Stmt} {f:Addr} {fd:FuncData} {ps:List Str} (F:Fun K x qual st f fd)
  (h:∀ (kV doc pm:Value) (an:Option Addr) (cdv ct:Value) (us:List Value),us.length=ps.length→bindArgs (PySem.W.fnOf x qual (zc3 st) (zc0 st) (za7 st) .none kV doc pm an cdv ct) ⟨us,[]⟩=pure (ps.zip us)):Binds K fd ps []:=by
 obtain ⟨oc,od,kV,doc,pm,an,cdv,ct,osl,rfl,lk,hcd⟩:=F.ex
 exact .all (h kV doc pm an cdv ct)
theorem zd3 {x qual:Str} {st:Stmt} {f:Addr} {oc:Value} {od an:Option Addr} {osl:Array (Option Value)} {kV doc pm cdv ct:Value} (l:K.lookup f=some ⟨oc,od,.func (PySem.W.fnOf x qual (zc3 st) (zc0 st) (za7 st) .none kV doc pm an cdv ct),osl⟩)
  (c:PySem.W.codeIn K cdv qual=true) (k:PySem.W.keepIn K (.ref f)=true):Fun K x qual st f (PySem.W.fnOf x qual (zc3 st) (zc0 st) (za7 st) .none kV doc pm an cdv ct):=⟨⟨oc,od,kV,doc,pm,an,cdv,ct,osl,rfl,l,c⟩,k⟩
end
section
variable {X:Cx}
end
theorem iteF {A B:Prop} (h:B):if false=true then A else B:=by
 rw [if_neg Bool.false_ne_true]
 exact h
theorem iteT {A B:Prop} (h:A):if true=true then A else B:=by
 rw [if_pos rfl]
 exact h
def Same (H H':Hp):Prop:=∀ b o,H b=some o→H' b=some o
theorem Same.refl (H:Hp):Same H H:=fun _ _ h=>h
theorem Same.trans {H H1 H2:Hp} (a:Same H H1) (b:Same H1 H2):Same H H2:=fun c o h=>b c o (a c o h)
theorem Same.free {H H':Hp} (e:Same H H') {l:Addr} (h:H' l=Option.none):H l=Option.none:=by
 cases q:H l with
 | none=>rfl
 | some o =>
  rw [e l o q] at h
  cases h
theorem Same.seq {K:PySem.W.Frag} {H H':Hp} {a:Addr} {xs:List V} (e:Same H H') (h:SqL K H a xs):SqL K H' a xs:=by
 rcases h with (h | ⟨o,h⟩) | h
 ·exact .inl (.inl (e _ _ h))
 ·exact .inl (.inr ⟨o,e _ _ h⟩)
 ·exact .inr h
end L2
namespace L2
open PySem PySem.Spec PyProof.Rows
section
variable {κ:Type} [DecidableEq κ]
def valV (kvs:List (κ×V)) (k:κ):Option V:=(kvs.find? fun kv=>decide (kv.1=k)).map (·.2)
def putK (kvs:List (κ×V)) (k:κ) (v:V):List (κ×V) :=
 if (kvs.any fun kv=>decide (kv.1=k))=true then kvs.map (fun kv=>if kv.1=k then (kv.1,v) else kv) else kvs++[(k,v)]
def zbe9 (kvs:List (κ×V)) (k:κ):List (κ×V):=kvs.filter fun kv=>decide (kv.1≠k)
theorem zaa7 {p:κ×V} {r:List (κ×V)} {k:κ} (e:p.1=k):valV (p :: r) k=some p.2:=by simp [valV,List.find?_cons,e]
theorem zab7 {p:κ×V} {r:List (κ×V)} {k:κ} (e:¬ p.1=k):valV (p :: r) k=valV r k:=by simp [valV,List.find?_cons,e]
theorem zaq9 (k:κ):∀ kvs:List (κ×V),(kvs.any fun kv=>decide (kv.1=k))=(valV kvs k).isSome
 | []=>rfl
 | p :: r=>by
  rw [List.any_cons]
  by_cases e:p.1=k
  ·simp only [zaa7 e,decide_eq_true e,Bool.true_or,Option.isSome_some]
  ·rw [zab7 e,decide_eq_false e,Bool.false_or]; exact zaq9 k r
theorem zI0 (kvs:List (κ×V)) (k:κ) (v:V):(putK kvs k v).length≤kvs.length + 1:=by
 unfold putK
 split
 ·rw [List.length_map]; omega
 ·rw [List.length_append,List.length_cons,List.length_nil]; omega
theorem RelO.isSome_eq {o:Option V} {u:Option Value} (r:RelO o u):o.isSome=u.isSome:=by
 cases o with
 | none=>cases u with
  | none=>rfl
  | some _=>exact (show False from r).elim
 | some _=>cases u with
  | none=>exact (show False from r).elim
  | some _=>rfl
theorem RelO.getD {o:Option V} {u:Option Value} {d:V} {d':Value} (r:RelO o u) (rd:RelV d d'):RelV (o.getD d) (u.getD d'):=by
 cases o with
 | none=>cases u with
  | none=>exact rd
  | some _=>exact (show False from r).elim
 | some _=>cases u with
  | none=>exact (show False from r).elim
  | some _=>exact r
theorem KV.val {kvs:List (κ×V)} {vs:List (κ×Value)} (r:KV kvs vs) (k:κ):RelO (valV kvs k) (valueAt vs k):=by
 unfold KV at r
 induction r with
 | nil=>exact True.intro
 | @cons p q ps qs h t ih =>
  obtain ⟨h1,h2⟩:=h
  by_cases e:p.1=k
  ·have e':q.1=k:=h1.symm.trans e
   have b:valueAt (q :: qs) k=some q.2:=by simp [valueAt,List.find?_cons,e']
   rw [zaa7 e,b]; exact h2
  ·have e':¬ q.1=k:=fun z=>e (h1.trans z)
   have b:valueAt (q :: qs) k=valueAt qs k:=by simp [valueAt,List.find?_cons,e']
   rw [zab7 e,b]; exact ih
theorem KV.any {kvs:List (κ×V)} {vs:List (κ×Value)} (r:KV kvs vs) (k:κ):(kvs.any fun kv=>decide (kv.1=k))=vs.any fun kv=>decide (kv.1=k):=by
 unfold KV at r
 induction r with
 | nil=>rfl
 | cons h t ih=>rw [List.any_cons,List.any_cons,ih,h.1]
theorem KV.repl {kvs:List (κ×V)} {vs:List (κ×Value)} (r:KV kvs vs) (k:κ) {y:V} {u:Value} (ry:RelV y u) :
  KV (kvs.map fun kv=>if kv.1=k then (kv.1,y) else kv) (vs.map fun kv=>if kv.1=k then (kv.1,u) else kv):=by
 unfold KV at r ⊢
 induction r with
 | nil=>exact .nil
 | @cons p q ps qs h t ih =>
  rw [List.map_cons,List.map_cons]
  refine .cons ?_ ih
  obtain ⟨h1,h2⟩:=h
  by_cases e:p.1=k
  ·rw [if_pos e,if_pos (h1.symm.trans e)]; exact ⟨h1,ry⟩
  ·rw [if_neg e,if_neg (fun z=>e (h1.trans z))]; exact ⟨h1,h2⟩
theorem KV.put {kvs:List (κ×V)} {vs:List (κ×Value)} (r:KV kvs vs) (k:κ) {y:V} {u:Value} (ry:RelV y u):KV (putK kvs k y) (stored vs k u):=by
 unfold putK stored
 rw [r.any k]
 by_cases e:(vs.any fun kv=>decide (kv.1=k))=true
 ·rw [if_pos e,if_pos e]; exact r.repl k ry
 ·rw [if_neg e,if_neg e]; exact Paired.snoc r ⟨rfl,ry⟩
theorem KV.drop {kvs:List (κ×V)} {vs:List (κ×Value)} (r:KV kvs vs) (k:κ):KV (zbe9 kvs k) (without vs k):=by
 unfold KV at r ⊢
 unfold zbe9 without
 induction r with
 | nil=>exact .nil
 | @cons p q ps qs h t ih =>
  obtain ⟨h1,h2⟩:=h
  rw [List.filter_cons,List.filter_cons]
  by_cases e:p.1=k
  ·have a:¬ decide (p.1≠k)=true:=by simp [e]
   have b:¬ decide (q.1≠k)=true:=by simp [h1.symm.trans e]
   rw [if_neg a,if_neg b]; exact ih
  ·have e':¬ q.1=k:=fun z=>e (h1.trans z)
   have a:decide (p.1≠k)=true:=by simp [e]
   have b:decide (q.1≠k)=true:=by simp [e']
   rw [if_pos a,if_pos b]; exact .cons ⟨h1,h2⟩ ih
theorem KV.keys {kvs:List (κ×V)} {vs:List (κ×Value)} (r:KV kvs vs):kvs.map (·.1)=vs.map (·.1):=by
 unfold KV at r
 induction r with
 | nil=>rfl
 | cons h t ih=>rw [List.map_cons,List.map_cons,ih,h.1]
theorem KV.length {kvs:List (κ×V)} {vs:List (κ×Value)} (r:KV kvs vs):kvs.length=vs.length:=Paired.length r
end
theorem zap0 {P:Program} {w:World} {k:Key} {u:Value} (r:RelV (kV k) u):(zd2 P w).is k u=true:=by
 cases k with
 | inl i=>obtain ⟨t,e⟩:=(show ∃ t,u=Value.int i t from r); subst e; exact zak7 P w i t
 | inr x=>obtain ⟨t,e⟩:=(show ∃ t,u=Value.str x t from r); subst e; exact zam1 P w x t
theorem zJ8 {P:Program} {w:World}:∀ {ks:List Key} {us:List Value},Vals (ks.map kV) us→ItemsAre (zd2 P w) ks us
 | [],_,r=>by rw [List.map_nil] at r; cases r; exact .nil
 | k :: ks,_,r=>by
  rw [List.map_cons] at r
  cases r with
  | cons h t=>exact .cons (zap0 h) (zJ8 t)
abbrev KT (H:Hp):List (List Key×V)→List (List Key×Addr×Value)→Prop:=Paired fun p q=>p.1=q.1∧H q.2.1=some (.tup (p.1.map kV))∧RelV p.2 q.2.2
theorem KT.val {H:Hp} {kvs:List (List Key×V)} {xs:List (List Key×Addr×Value)} (r:KT H kvs xs) (k:List Key):RelO (valV kvs k) ((atKey xs k).map (·.2)):=by
 induction r with
 | nil=>exact True.intro
 | @cons p q ps qs h t ih =>
  obtain ⟨h1,_,h2⟩:=h
  by_cases e:p.1=k
  ·have e':q.1=k:=h1.symm.trans e
   have b:atKey (q :: qs) k=some q.2:=by simp [atKey,List.find?_cons,e']
   rw [zaa7 e,b]; exact h2
  ·have e':¬ q.1=k:=fun z=>e (h1.trans z)
   have b:atKey (q :: qs) k=atKey qs k:=by simp [atKey,List.find?_cons,e']
   rw [zab7 e,b]; exact ih
theorem KT.repl {H:Hp} {kvs:List (List Key×V)} {xs:List (List Key×Addr×Value)} (r:KT H kvs xs) (k:List Key) {y:V} {u:Value} (ry:RelV y u) :
  KT H (kvs.map fun kv=>if kv.1=k then (kv.1,y) else kv) (xs.map (putAt k u)):=by
 induction r with
 | nil=>exact .nil
 | @cons p q ps qs h t ih =>
  rw [List.map_cons,List.map_cons]
  refine .cons ?_ ih
  obtain ⟨h1,h2,h3⟩:=h
  unfold putAt
  by_cases e:p.1=k
  ·rw [if_pos e,if_pos (h1.symm.trans e)]; exact ⟨h1,h2,ry⟩
  ·rw [if_neg e,if_neg (fun z=>e (h1.trans z))]; exact ⟨h1,h2,h3⟩
theorem KT.put {H:Hp} {kvs:List (List Key×V)} {xs:List (List Key×Addr×Value)} (r:KT H kvs xs) (k:List Key) {b:Addr} {y:V} {u:Value} (hb:H b=some (.tup (k.map kV))) (ry:RelV y u) :
  KT H (putK kvs k y) (storedH xs k b u):=by
 have e:(kvs.any fun kv=>decide (kv.1=k))=(atKey xs k).isSome:=by
  rw [zaq9,(r.val k).isSome_eq,Option.isSome_map]
 unfold putK storedH
 rw [e]
 by_cases q:(atKey xs k).isSome=true
 ·rw [if_pos q,if_pos q]; exact r.repl k ry
 ·rw [if_neg q,if_neg q]; exact Paired.snoc r ⟨rfl,hb,ry⟩
theorem KT.keeps {H H':Hp} {kvs:List (List Key×V)} {xs:List (List Key×Addr×Value)} (r:KT H kvs xs) (ht:∀ b ys,H b=some (.tup ys)→H' b=some (.tup ys)):KT H' kvs xs :=
 Paired.mapP r fun _ _ z=>⟨z.1,ht _ _ z.2.1,z.2.2⟩
section
variable {P:Program} {w:World} {H:Hp} {h:Heap} {a:Addr}
theorem zbh1 {u:HO} (ok:HOk P w H h) (e:Rd H a u):ObjOk P w H h a u:=e.ok ok
theorem zaz8 {kvs:List (Key×V)} (ok:HOk P w H h) (e:Rd H a (.dK kvs)):kvs.length≤sizeLine∧(a == sysModules)=false∧∃ vs,KV kvs vs∧h.DictOf (zd2 P w) a vs :=
 show ObjOk P w H h a (.dK kvs) from zbh1 ok e
theorem zaJ7 {kvs:List (Key×V)} (ok:HOk P w H h) (e:H a=some (.dK kvs)):kvs.length≤sizeLine∧(a == sysModules)=false∧∃ vs,KV kvs vs∧h.DictOf (zd2 P w) a vs:=zaz8 ok (.inl e)
theorem zat8 {ks:List Key} (ok:HOk P w H h) (e:H a=some (.tup (ks.map kV))):(tupleKind (zd2 P w)).is h ks a:=by
 obtain ⟨_,its,r,o,h1,h2,n,h3⟩:=(show ObjOk P w H h a (.tup (ks.map kV)) from ok a _ e)
 exact ⟨o,its.toArray,n,h1,h2,h3,by simpa using zJ8 r⟩
theorem zax3 {kvs:List (List Key×V)} (ok:HOk P w H h) (e:Rd H a (.dT kvs)):kvs.length≤sizeLine∧(a == sysModules)=false ∧
  ∃ xs,KT H kvs xs∧h.DictOfH (tupleKind (zd2 P w)) a xs:=by
 obtain ⟨z,y,xs,r,o,es,ep,h1,h2,h3,h4,h5⟩:=(show ObjOk P w H h a (.dT kvs) from zbh1 ok e)
 refine ⟨z,y,xs,r,o,es,ep,h1,h2,h3,h4,fun x hx=>?_,h5⟩
 have all:∀ {l:List (List Key×V)} {m:List (List Key×Addr×Value)},KT H l m→∀ x∈m,(tupleKind (zd2 P w)).is h x.1 x.2.1:=by
  intro l m q
  induction q with
  | nil=>intro x hx; exact nomatch hx
  | @cons p q ps qs hq t ih =>
   intro x hx
   rcases List.mem_cons.mp hx with e | hx
   ·subst e
    exact zat8 ok (by rw [← hq.1]; exact hq.2.1)
   ·exact ih x hx
 exact all r x hx
theorem zaX7 {kvs:List (List Key×V)} (ok:HOk P w H h) (e:H a=some (.dT kvs)):kvs.length≤sizeLine∧(a == sysModules)=false ∧
  ∃ xs,KT H kvs xs∧h.DictOfH (tupleKind (zd2 P w)) a xs:=zax3 ok (.inl e)
end
def DGet (H:Hp) (a:Addr) (y:V) (r:Option V):Prop :=
 (∃ kvs k,Rd H a (.dK kvs)∧y=kV k∧r=valV kvs k)∨∃ kvs k b,Rd H a (.dT kvs)∧y=.ref b∧H b=some (.tup (k.map kV))∧r=valV kvs k
def DPut (H:Hp) (a:Addr) (y v:V) (H':Hp):Prop :=
 (∃ kvs k,H a=some (.dK kvs)∧y=kV k∧kvs.length < sizeLine∧H'=upd H a (.dK (putK kvs k v))) ∨
 ∃ kvs k b,H a=some (.dT kvs)∧y=.ref b∧H b=some (.tup (k.map kV))∧kvs.length < sizeLine∧H'=upd H a (.dT (putK kvs k v))
theorem DGet.k {H:Hp} {a:Addr} {kvs:List (Key×V)} {k:Key} (e:H a=some (.dK kvs)):DGet H a (kV k) (valV kvs k):=.inl ⟨kvs,k,.inl e,rfl,rfl⟩
theorem DGet.t {H:Hp} {a b:Addr} {kvs:List (List Key×V)} {k:List Key} (e:H a=some (.dT kvs)) (eb:H b=some (.tup (k.map kV))):DGet H a (.ref b) (valV kvs k):=.inr ⟨kvs,k,b,.inl e,rfl,eb,rfl⟩
theorem DPut.k {H:Hp} {a:Addr} {kvs:List (Key×V)} {k:Key} {v:V} (e:H a=some (.dK kvs)) (hl:kvs.length < sizeLine):DPut H a (kV k) v (upd H a (.dK (putK kvs k v))):=.inl ⟨kvs,k,e,rfl,hl,rfl⟩
theorem DPut.t {H:Hp} {a b:Addr} {kvs:List (List Key×V)} {k:List Key} {v:V} (e:H a=some (.dT kvs)) (eb:H b=some (.tup (k.map kV))) (hl:kvs.length < sizeLine) :
  DPut H a (.ref b) v (upd H a (.dT (putK kvs k v))):=.inr ⟨kvs,k,b,e,rfl,eb,hl,rfl⟩
section
variable {X:Cx} {pins:List (Addr×Obj)} {σ:St} {H:Hp} {s:Shared} {a:Addr} {y v:V} {u r:Value} {o:Option V} {A:Around} {E:Value→Shared→Prop}
theorem Inv.big (I:Inv X pins σ H s):sysModules < s.heap.objs.size:=by
 have h:mainGlobals < s.heap.objs.size:=(I.mod.glob.keeps I.bk).lt
 exact Nat.lt_trans (by decide) h
theorem zaC9 {Q:Value→Shared→Prop} (hu:A.units + 1 < cLine) (I:Inv X pins σ H s) (g:DGet H a y (some v)) (ry:RelV y u) (h:∀ w' s',Inv X pins σ H s'→RelV v w'→Q w' s') :
  wpAny (model X.prog X.w) A (getItem (.ref a) u) Q E s:=by
 rcases g with ⟨kvs,k,e,ey,l⟩ | ⟨kvs,k,b,e,ey,eb,l⟩
 ·subst ey
  obtain ⟨z,hd,vs,rel,dd⟩:=zaz8 I.hok e
  obtain ⟨w',hw,rw'⟩:=RelO.some_of (v:=v) (o:=valueAt vs k) (by rw [l]; exact rel.val k)
  exact wpAny_getItem_of (zap0 ry) dd.mapOf hw (h w' _ (I.tok _) rw')
 ·subst ey
  cases (show u=Value.ref b from ry)
  obtain ⟨z,hd,xs,rel,dd⟩:=zax3 I.hok e
  obtain ⟨w',hw,rw'⟩:=RelO.some_of (v:=v) (o:=(atKey xs k).map (·.2)) (by rw [l]; exact rel.val k)
  obtain ⟨p,hp,hp2⟩:=Option.map_eq_some_iff.mp hw
  refine wpAny_getItem_heap (tupleKind_room_in1 hu) (zat8 I.hok eb) dd hp ?_
  rw [hp2]
  exact h w' _ (I.tok _) rw'
theorem zaP3 {Q:Value→Shared→Prop} (hu:A.units + 1 < cLine) (I:Inv X pins σ H s) (g:DGet H a y o) (ry:RelV y u) (h:∀ s',Inv X pins σ H s'→Q (.bool (!o.isSome)) s') :
  wpAny (model X.prog X.w) A (compareOp .NotIn u (.ref a)) Q E s:=by
 rcases g with ⟨kvs,k,e,ey,l⟩ | ⟨kvs,k,b,e,ey,eb,l⟩
 ·subst ey
  obtain ⟨z,hd,vs,rel,dd⟩:=zaz8 I.hok e
  refine wpAny_notIn_of (zap0 ry) hd dd.mapOf ?_
  rw [← (rel.val k).isSome_eq,← l]
  exact h _ (I.tok _)
 ·subst ey
  cases (show u=Value.ref b from ry)
  obtain ⟨z,hd,xs,rel,dd⟩:=zax3 I.hok e
  refine wpAny_notIn_heap (tupleKind_room_in1 hu) (zat8 I.hok eb) hd dd ?_
  have q:=(rel.val k).isSome_eq
  rw [Option.isSome_map] at q
  rw [← q,← l]
  exact h _ (I.tok _)
theorem zab2 {h':Heap} {t':Nat} {ob:HO} (I:Inv X pins σ H s) (mu:Mut (H a)) (hs:Heap.SameBut a s.heap h') (he:∃ q,h'.get? a=some q) (new:ObjOk X.prog X.w (upd H a ob) h' a ob) :
  Inv X pins σ (upd H a ob) { s with heap:=h',toks:=t' } :=
 I.write (x:=a) (e:=a) mu (.inl rfl) (fun b q hb z=>(hs.2 b hb).trans z) he new
theorem zaC8 {P:Program} {w:World} {H':Hp} {h':Heap} {kvs:List (Key×V)} {vs:List (Key×Value)} (z:kvs.length≤sizeLine) (hd:(a == sysModules)=false) (rel:KV kvs vs) (dd:h'.DictOf (zd2 P w) a vs) :
  ObjOk P w H' h' a (.dK kvs):=⟨z,hd,vs,rel,dd⟩
theorem zaB9 {H':Hp} {Q:Unit→Shared→Prop} (hu:A.units + 1 < cLine) (I:Inv X pins σ H s) (g:DPut H a y v H') (ry:RelV y u) (rv:RelV v r) (h:∀ s',Inv X pins σ H' s'→Q () s') :
  wpAny (model X.prog X.w) A (setItem (.ref a) u r) Q E s:=by
 rcases g with ⟨kvs,k,e,ey,l,eH⟩ | ⟨kvs,k,b,e,ey,eb,l,eH⟩
 ·subst ey eH
  obtain ⟨z,hd,vs,rel,dd⟩:=zaJ7 I.hok e
  have hz:vs.length≤sizeLine:=by rw [← rel.length]; exact z
  have hl:(putK kvs k v).length≤sizeLine:=by have:=zI0 kvs k v; omega
  refine wpAny_setItem_pairs (hsz:=hz) (zap0 ry) dd fun h' dd' hs=>h _ ?_
  have he:∃ q,h'.get? a=some q:=let ⟨q,_,_,hq,_⟩:=dd'; ⟨q,hq⟩
  exact zab2 I (by rw [e]; exact True.intro) hs he (zaC8 hl hd (rel.put k rv) dd')
 ·subst ey eH
  cases (show u=Value.ref b from ry)
  obtain ⟨z,hd,xs,rel,dd⟩:=zaX7 I.hok e
  have hz:xs.length≤sizeLine:=by rw [← Paired.length rel]; exact z
  have hl:(putK kvs k v).length≤sizeLine:=by have:=zI0 kvs k v; omega
  refine wpAny_setItem_heap (hsz:=hz) (tupleKind_room_in1 hu) (zat8 I.hok eb) dd fun h' dd' hs=>h _ ?_
  obtain ⟨q,es,ep,hq,h2,h3,h4,_,h5⟩:=dd'
  refine zab2 I (by rw [e]; exact True.intro) hs ⟨q,hq⟩ ⟨hl,hd,_,(rel.put k eb rv).keeps fun c ys ec=>?_,q,es,ep,hq,h2,h3,h4,h5⟩
  rw [zc9 (zbk4 ec e (fun z=>nomatch z))]
  exact ec
end
section
variable {X:Cx} {pins:List (Addr×Obj)} {σ:St} {H:Hp} {s:Shared} {a:Addr} {kvs:List (Key×V)} {k:Key} {u:Value} {A:Around} {E:Value→Shared→Prop}
end
def NoSl (i:Expr):Prop:=∀ ov iv,subscripted i false ov iv=operate [ov,iv] (getItem ov iv)
theorem zam5 {prog:Program} {w:World} {A:Around} {E:Value→Shared→Prop} {s:Shared} {env:Env} {value slice:Expr} {pos:Pos} {T id:String} {Q:Value→Shared→Prop}
  (hl:typeLookup (.type T) "__getitem__"=pure (some (.builtin id))) (hs:NoSl slice)
  (h:wpAny (model prog w) A (eval value env) (fun o s₁=>wpAny (model prog w) A (eval slice env) (fun i s₂=>s₂.TypeIs o T∧wpAny (model prog w) A (getItem o i) Q E s₂) E s₁) E s) :
  wpAny (model prog w) A (eval (.Subscript value slice pos) env) Q E s:=by
 refine Subscript_ (wpAny_mono h (fun o s₁ h₁=>wpAny_mono h₁ (fun i s₂ h₂=>?_) fun _ _ x=>x) fun _ _ x=>x)
 obtain ⟨hT,h₂⟩:=h₂
 unfold subscriptTail
 refine wpAny_bind ?_
 rw [getitemInPython_of_ne hT.not_modules]
 refine wpAny_bind (wpAny_specialOf hT hl ?_)
 have fin:wpAny (model prog w) A (subscripted slice false o i) (fun r s₃=>wpAny (model prog w) A (letTemporaryGo value o r>>=fun _=>pure r) Q E s₃) E s₂:=by
  rw [hs o i]
  exact wpAny_operating (wpAny_mono h₂ (fun r s₃ h₃=>wpAny_bind (wpAny_letTemporaryGo (wpAny_pure h₃))) fun _ _ x=>x)
 first
  | exact wpAny_pure (wpAny_bind fin)
  | exact wpAny_bind (wpAny_pure (wpAny_bind fin))
  | exact wpAny_bind fin
theorem zap6 {X:Cx} {pins:List (Addr×Obj)} {σ:St} {H:Hp} {s:Shared} {a:Addr} {y:V} {o:Option V} (I:Inv X pins σ H s) (g:DGet H a y o):s.TypeIs (.ref a) "dict":=by
 rcases g with ⟨kvs,k,e,_,_⟩ | ⟨kvs,k,b,e,_,_,_⟩
 ·obtain ⟨_,_,vs,_,dd⟩:=zaz8 I.hok e
  exact dd.typeIs
 ·obtain ⟨_,_,xs,_,dd⟩:=zax3 I.hok e
  exact dd.typeIs
def zbm5 (td ty:TE):TE:=fun σ H Q=>td σ H fun x H1=>ty σ H1 fun y H2=>∃ a v,x=.ref a∧DGet H2 a y (some v)∧Q v H2
def zbk9 (td ty tv:TE):TS:=fun D σ H=>tv σ H fun v H1=>td σ H1 fun x H2=>ty σ H2 fun y H3=>∃ a H4,x=.ref a∧DPut H3 a y v H4∧D.nx σ H4
section
variable {X:Cx} {o i e value:Expr} {pos pos' tpos:Pos} {td ty tv:TE}
theorem zaS7 (hu:X.A.units + 1 < cLine) (ho:PE X o td) (hi:PE X i ty) (hs:NoSl i):PE X (.Subscript o i pos) (zbm5 td ty):=by
 intro pins s σ H Q I h
 refine zam5 PySem.F.slot_dict_getitem.lookup hs (thn (ho pins s σ H _ I h) fun u s1 ⟨x,H1,I1,rx,q1⟩=>thn (hi pins s1 σ H1 _ I1 q1) fun iv s2 ⟨y,H2,I2,ry,a,v,ex,g,q2⟩=>?_)
 subst ex
 obtain rfl:u=Value.ref a:=rx
 exact ⟨zap6 I2 g,zaC9 hu I2 g ry fun w' s3 I3 rw'=>⟨v,H2,I3,rw',q2⟩⟩
theorem zaS6 (hu:X.A.units + 1 < cLine) (ho:PE X o td) (hi:PE X i ty) (hv:PE X value tv) (hs:swapsWith value (some (.Subscript o i pos')) pos.line X.env=pure false) :
  PS X (.Assign [.Subscript o i pos'] value pos) (zbk9 td ty tv):=by
 intro pins s σ H D I h
 refine wpAny_Assign_Subscript (thn (hv pins s σ H _ I h) fun r s1 ⟨v,H1,I1,rv,q1⟩=>thn (ho pins s1 σ H1 _ I1 q1) fun u s2 ⟨x,H2,I2,rx,q2⟩=>thn (hi pins s2 σ H2 _ I2 q2) fun iv s3 ⟨y,H3,I3,ry,a,H4,ex,g,q3⟩=>?_) hs
 subst ex
 obtain rfl:u=Value.ref a:=rx
 exact zaB9 hu I3 g ry rv fun s4 I4=>⟨σ,H4,I4,q3⟩
end
theorem zaG3 {P:Program} {w:World} {H:Hp} (h:Heap) (hb:sysModules < h.objs.size):ObjOk P w H (h.push { cls:=.type "dict",data:=.dict #[] }) h.objs.size (.dK []) :=
 ⟨Nat.zero_le _,beq_eq_false_iff_ne.mpr (Ne.symm (Nat.ne_of_lt hb)),[],.nil,Heap.DictOf.new h⟩
theorem zaF9 {P:Program} {w:World} {H:Hp} (h:Heap) (hb:sysModules < h.objs.size):ObjOk P w H (h.push { cls:=.type "dict",data:=.dict #[] }) h.objs.size (.dT []) :=
 ⟨Nat.zero_le _,beq_eq_false_iff_ne.mpr (Ne.symm (Nat.ne_of_lt hb)),[],.nil,_,#[],0,Heap.get?_push_size _ rfl,⟨rfl,rfl,rfl⟩,rfl,rfl,List.nodup_nil⟩
section
variable {X:Cx} {pos:Pos}
end
def zas1:List (TE×TE)→St→Hp→(List (V×V)→Hp→Prop)→Prop
 | [],_,H,Q=>Q [] H
 | (tk,tv) :: r,σ,H,Q=>tk σ H fun x H1=>tv σ H1 fun y H2=>zas1 r σ H2 fun ps H3=>Q ((x,y) :: ps) H3
abbrev VV:List (V×V)→List (Value×Value)→Prop:=Paired fun p q=>RelV p.1 q.1∧RelV p.2 q.2
def PPs (X:Cx) (pos:Pos) (keys:List (Option Expr)) (values:List Expr) (trs:List (TE×TE)):Prop :=
 ∀ (pins:List (Addr×Obj)) (s:Shared) (σ:St) (H:Hp) (Q:List (V×V)→Hp→Prop),Inv X pins σ H s→zas1 trs σ H Q →
  wpAny (model X.prog X.w) X.A (evalPairs (pairTrees keys values X.env pos)) (fun vs s'=>∃ ps H',Inv X pins σ H' s'∧VV ps vs∧Q ps H') X.xe s
theorem zaV7 {X:Cx} {pos:Pos}:PPs X pos [] [] []:=fun pins s σ H Q I h=>pairTrees_nil_walk ⟨[],H,I,.nil,h⟩
theorem zaK9 {X:Cx} {pos:Pos} {k v:Expr} {ks:List (Option Expr)} {vs:List Expr} {tk tv:TE} {trs:List (TE×TE)} (hk:PE X k tk) (hv:PE X v tv) (hr:PPs X pos ks vs trs) :
  PPs X pos (some k :: ks) (v :: vs) ((tk,tv) :: trs):=fun pins s σ H Q I h =>
 pairTrees_cons_walk (thn (hk pins s σ H _ I h) fun u s1 ⟨x,H1,I1,rx,q1⟩=>thn (hv pins s1 σ H1 _ I1 q1) fun w2 s2 ⟨y,H2,I2,ry,q2⟩ =>
  thn (hr pins s2 σ H2 _ I2 q2) fun ws s3 ⟨ps,H3,I3,rel,q3⟩=>⟨(x,y) :: ps,H3,I3,.cons ⟨rx,ry⟩ rel,q3⟩)
def zQ7 (kvs more:List (Key×V)):List (Key×V):=more.foldl (fun acc kv=>putK acc kv.1 kv.2) kvs
theorem KV.merge:∀ {more:List (Key×V)} {rs:List (Key×Value)} {kvs:List (Key×V)} {vs:List (Key×Value)},KV more rs→KV kvs vs→KV (zQ7 kvs more) (merged vs rs):=by
 intro more rs kvs vs r
 unfold KV at r
 induction r generalizing kvs vs with
 | nil=>intro q; exact q
 | @cons p q ps qs h t ih =>
  intro r0
  have e:KV (putK kvs p.1 p.2) (stored vs q.1 q.2):=by
   have:=r0.put p.1 h.2
   rw [← h.1]; exact this
  exact ih e
theorem zz0:∀ (more kvs:List (Key×V)),(zQ7 kvs more).length≤kvs.length + more.length
 | [],kvs=>by show kvs.length≤kvs.length + 0; omega
 | p :: r,kvs=>by
  have h1:=zz0 r (putK kvs p.1 p.2)
  have h2:=zI0 kvs p.1 p.2
  show (zQ7 (putK kvs p.1 p.2) r).length≤_
  rw [List.length_cons]; omega
theorem zaa3 {P:Program} {w:World}:∀ {kvs:List (Key×V)} {ws:List (Value×Value)},VV (kvs.map fun kv=>(kV kv.1,kv.2)) ws→∃ rs,Carries (zd2 P w) ws rs∧KV kvs rs
 | [],_,r=>by rw [List.map_nil] at r; cases r; exact ⟨[],True.intro,.nil⟩
 | p :: kvs,_,r=>by
  rw [List.map_cons] at r
  cases r with
  | @cons a b as bs h t =>
   obtain ⟨rs,c,q⟩:=zaa3 (P:=P) (w:=w) t
   obtain ⟨b1,b2⟩:=b
   exact ⟨(p.1,b2) :: rs,⟨zap0 h.1,rfl,c⟩,.cons ⟨rfl,h.2⟩ q⟩
structure M1 (X:Cx) (o:Expr) (m:Str) (apos:Pos) (e:Expr) (cpos:Pos):Prop where
 base:attributeBase o m X.env (eval o X.env)=eval o X.env
 few:((backTo cpos (starEach [e] X.env)).all (fun x=>!x.1) && (backToKw cpos (keywordEach [] X.env)).all (fun x=>x.1.isSome)
  && decide (([e]:List Expr).length + ([]:List Keyword).length + (if ([]:List Keyword).isEmpty then 0 else 1) < 30))=true
 line:(apos.endLine == cpos.line)=true
 trees:backTo cpos (starEach [e] X.env)=[(false,eval e X.env)]
def IsD (H:Hp) (a:Addr):Prop:=(∃ kvs,Rd H a (.dK kvs))∨∃ kvs,Rd H a (.dT kvs)
theorem zaX9 {X:Cx} {pins:List (Addr×Obj)} {σ:St} {H:Hp} {s:Shared} {a:Addr} (I:Inv X pins σ H s) (d:IsD H a) :
  s.TypeIs (.ref a) "dict"∧(∀ b,Value.ref a=.ref b→∃ ob,s.heap.get? b=some ob∧ob.dict=none)∧(a == sysModules)=false:=by
 rcases d with ⟨kvs,e⟩ | ⟨kvs,e⟩
 ·obtain ⟨_,hd,vs,_,dd⟩:=zaz8 I.hok e
  refine ⟨dd.typeIs,fun b q=>?_,hd⟩
  cases q
  obtain ⟨ob,_,_,h1,h2,_⟩:=dd
  exact ⟨ob,h1,h2.2.1⟩
 ·obtain ⟨_,hd,xs,_,dd⟩:=zax3 I.hok e
  refine ⟨dd.typeIs,fun b q=>?_,hd⟩
  cases q
  obtain ⟨ob,_,_,h1,h2,_⟩:=dd
  exact ⟨ob,h1,h2.2.1⟩
section
variable {X:Cx} {pins:List (Addr×Obj)} {σ:St} {H:Hp} {s:Shared} {a:Addr} {y d:V} {u r:Value} {o:Option V} {A:Around} {E:Value→Shared→Prop}
end
section
variable {X:Cx} {o e f:Expr} {apos cpos:Pos} {td ty tx:TE}
end
section
variable {X:Cx} {pins:List (Addr×Obj)} {σ:St} {H:Hp} {s:Shared} {a:Addr} {kvs:List (Key×V)} {A:Around} {E:Value→Shared→Prop}
end
section
variable {X:Cx} {pins:List (Addr×Obj)} {σ:St} {H:Hp} {s:Shared} {a:Addr} {y:V} {u:Value} {A:Around} {E:Value→Shared→Prop}
end
end L2
namespace DL
open PySem PySem.Spec PyProof.Rows L2
inductive D where
 | dat (p:PyData)
 | cel (a:Addr)
inductive Cel where
 | l (xs:List PyData)
 | d (kvs:List (Key×PyData))
 | t (kvs:List (List Key×PyData))
abbrev Mu:=Addr→Option Cel
abbrev St2:=List (Option D)
mutual
def RP (K:PySem.W.Frag) (Z:Addr→Prop) (m:Mu) (H:Hp):PyData→V→Prop
 | .none,v=>v=.non
 | .bool b,v=>v=.bl b
 | .int i,v=>v=.int i
 | .str x,v=>v=.str x
 | .tuple xs,v=>∃ a vs,v=.ref a∧SqT K H a vs∧RPs K Z m H xs vs
 | .list xs,v=>∃ a vs,v=.ref a∧(m a=none∧¬ Z a)∧SqL K H a vs∧RPs K Z m H xs vs
 | .dict _,_=>False
def RPs (K:PySem.W.Frag) (Z:Addr→Prop) (m:Mu) (H:Hp):List PyData→List V→Prop
 | [],vs=>vs=[]
 | x :: xs,vs=>∃ v r,vs=v :: r∧RP K Z m H x v∧RPs K Z m H xs r
end
def RD (K:PySem.W.Frag) (Z:Addr→Prop) (m:Mu) (H:Hp):D→V→Prop
 | .dat p,v=>RP K Z m H p v
 | .cel a,v=>v=.ref a∧(m a).isSome=true
def RDs (K:PySem.W.Frag) (Z:Addr→Prop) (m:Mu) (H:Hp):List D→List V→Prop
 | [],vs=>vs=[]
 | x :: xs,vs=>∃ v r,vs=v :: r∧RD K Z m H x v∧RDs K Z m H xs r
def RKV {κ:Type} (K:PySem.W.Frag) (Z:Addr→Prop) (m:Mu) (H:Hp):List (κ×PyData)→List (κ×V)→Prop
 | [],vs=>vs=[]
 | (k,p) :: xs,vs=>∃ v r,vs=(k,v) :: r∧RP K Z m H p v∧RKV K Z m H xs r
def RC (K:PySem.W.Frag) (Z:Addr→Prop) (m:Mu) (H:Hp):Cel→HO→Prop
 | .l xs,.lst vs=>RPs K Z m H xs vs
 | .d kvs,.dK vs=>RKV K Z m H kvs vs
 | .t kvs,.dT vs=>RKV K Z m H kvs vs
 | _,_=>False
structure Ok (K:PySem.W.Frag) (Z:Addr→Prop) (m:Mu) (H:Hp):Prop where
 g:∀ a c,m a=some c→∃ o,H a=some o∧RC K Z m H c o
 z:∀ a,Z a→m a=none∧H a≠none
structure Ext (K:PySem.W.Frag) (Z:Addr→Prop) (m:Mu) (H:Hp) (m':Mu) (H':Hp):Prop where
 t:∀ a vs,SqT K H a vs→SqT K H' a vs
 l:∀ a vs,(m a=none∧¬ Z a)→SqL K H a vs→m' a=none∧SqL K H' a vs
 z:∀ a,Z a→H' a=H a
 c:∀ a,(m a).isSome=true→(m' a).isSome=true
section
variable {K:PySem.W.Frag} {Z:Addr→Prop} {m m' m2:Mu} {H H' H2:Hp}
theorem Ext.refl:Ext K Z m H m H:=⟨fun _ _ h=>h,fun _ _ h1 h2=>⟨h1.1,h2⟩,fun _ _=>rfl,fun _ h=>h⟩
theorem Ext.trans (a:Ext K Z m H m' H') (b:Ext K Z m' H' m2 H2):Ext K Z m H m2 H2 :=
 ⟨fun x vs h=>b.t x vs (a.t x vs h),fun x vs h1 h2=>let ⟨q1,q2⟩:=a.l x vs h1 h2; b.l x vs ⟨q1,h1.2⟩ q2,fun x h=>(b.z x h).trans (a.z x h),fun x h=>b.c x (a.c x h)⟩
mutual
theorem RP.ext (e:Ext K Z m H m' H'):∀ (p:PyData) (v:V),RP K Z m H p v→RP K Z m' H' p v
 | .none,v,h=>by simpa only [RP] using h
 | .bool _,v,h=>by simpa only [RP] using h
 | .int _,v,h=>by simpa only [RP] using h
 | .str _,v,h=>by simpa only [RP] using h
 | .tuple xs,v,h=>by
  simp only [RP] at h ⊢
  obtain ⟨a,vs,h1,h2,h3⟩:=h
  exact ⟨a,vs,h1,e.t a vs h2,RPs.ext e xs vs h3⟩
 | .list xs,v,h=>by
  simp only [RP] at h ⊢
  obtain ⟨a,vs,h1,h2,h3,h4⟩:=h
  obtain ⟨q1,q2⟩:=e.l a vs h2 h3
  exact ⟨a,vs,h1,⟨q1,h2.2⟩,q2,RPs.ext e xs vs h4⟩
 | .dict _,v,h=>by simp only [RP] at h
theorem RPs.ext (e:Ext K Z m H m' H'):∀ (xs:List PyData) (vs:List V),RPs K Z m H xs vs→RPs K Z m' H' xs vs
 | [],vs,h=>by simpa only [RPs] using h
 | x :: xs,vs,h=>by
  simp only [RPs] at h ⊢
  obtain ⟨v,r,h1,h2,h3⟩:=h
  exact ⟨v,r,h1,RP.ext e x v h2,RPs.ext e xs r h3⟩
end
theorem RD.ext (e:Ext K Z m H m' H') {d:D} {v:V} (h:RD K Z m H d v):RD K Z m' H' d v:=by
 cases d with
 | dat p=>exact RP.ext e p v h
 | cel a=>exact ⟨h.1,e.c a h.2⟩
theorem RDs.ext (e:Ext K Z m H m' H'):∀ {xs:List D} {vs:List V},RDs K Z m H xs vs→RDs K Z m' H' xs vs
 | [],_,h=>h
 | _ :: _,_,⟨v,r,h1,h2,h3⟩=>⟨v,r,h1,h2.ext e,RDs.ext e h3⟩
theorem RKV.lift {κ:Type} {Z':Addr→Prop} (tr:∀ p v,RP K Z m H p v→RP K Z' m' H' p v):∀ {xs:List (κ×PyData)} {vs:List (κ×V)},RKV K Z m H xs vs→RKV K Z' m' H' xs vs
 | [],_,h=>h
 | _ :: _,_,⟨v,r,h1,h2,h3⟩=>⟨v,r,h1,tr _ _ h2,RKV.lift tr h3⟩
theorem RPs.lift {Z':Addr→Prop} (tr:∀ p v,RP K Z m H p v→RP K Z' m' H' p v):∀ {ps:List PyData} {vs:List V},RPs K Z m H ps vs→RPs K Z' m' H' ps vs
 | [],_,h=>by simpa only [RPs] using h
 | _ :: _,_,h=>by
  simp only [RPs] at h ⊢
  obtain ⟨v,r,h1,h2,h3⟩:=h
  exact ⟨v,r,h1,tr _ _ h2,RPs.lift tr h3⟩
theorem RC.lift {Z':Addr→Prop} {c:Cel} {o:HO} (tr:∀ p v,RP K Z m H p v→RP K Z' m' H' p v) (h:RC K Z m H c o):RC K Z' m' H' c o:=by
 cases c <;> cases o <;> first | exact RPs.lift tr h | exact RKV.lift tr h | exact h
theorem RC.ext {c:Cel} {o:HO} (e:Ext K Z m H m' H') (h:RC K Z m H c o):RC K Z m' H' c o:=h.lift fun p v q=>RP.ext e p v q
theorem RC.mut {c:Cel} {o:HO} (h:RC K Z m H c o):(∀ xs,o≠.tup xs)∧(∀ a b,o≠.frz a b):=by
 cases c <;> cases o <;> first | exact h.elim | exact ⟨fun _ e=>(nomatch e),fun _ _ e=>(nomatch e)⟩
theorem Ok.l {a:Addr} {xs:List PyData} (ok:Ok K Z m H) (h:m a=some (.l xs)):∃ vs,H a=some (.lst vs)∧RPs K Z m H xs vs:=by
 obtain ⟨o,h1,h2⟩:=ok.g a _ h
 cases o <;> first | exact ⟨_,h1,h2⟩ | exact h2.elim
theorem Ok.d {a:Addr} {xs:List (Key×PyData)} (ok:Ok K Z m H) (h:m a=some (.d xs)):∃ vs,H a=some (.dK vs)∧RKV K Z m H xs vs:=by
 obtain ⟨o,h1,h2⟩:=ok.g a _ h
 cases o <;> first | exact ⟨_,h1,h2⟩ | exact h2.elim
theorem Ok.t {a:Addr} {xs:List (List Key×PyData)} (ok:Ok K Z m H) (h:m a=some (.t xs)):∃ vs,H a=some (.dT vs)∧RKV K Z m H xs vs:=by
 obtain ⟨o,h1,h2⟩:=ok.g a _ h
 cases o <;> first | exact ⟨_,h1,h2⟩ | exact h2.elim
theorem RPs.length:∀ {xs:List PyData} {vs:List V},RPs K Z m H xs vs→vs.length=xs.length
 | [],_,h=>by simp only [RPs] at h; subst h; rfl
 | _ :: xs,_,h=>by
  simp only [RPs] at h
  obtain ⟨v,r,h1,_,h3⟩:=h
  subst h1
  rw [List.length_cons,List.length_cons,RPs.length h3]
theorem RDs.length:∀ {xs:List D} {vs:List V},RDs K Z m H xs vs→vs.length=xs.length
 | [],_,h=>by cases (show _=[] from h); rfl
 | _ :: xs,_,⟨v,r,h1,_,h3⟩=>by
  subst h1
  rw [List.length_cons,List.length_cons,RDs.length h3]
theorem RPs.get:∀ {xs:List PyData} {vs:List V} {i:Nat} {p:PyData},RPs K Z m H xs vs→xs[i]?=some p→∃ v,vs[i]?=some v∧RP K Z m H p v
 | [],_,_,_,_,e=>by simp at e
 | x :: xs,_,0,p,h,e=>by
  simp only [RPs] at h
  obtain ⟨v,r,h1,h2,_⟩:=h
  simp at e
  subst h1 e
  exact ⟨v,rfl,h2⟩
 | x :: xs,_,i + 1,p,h,e=>by
  simp only [RPs] at h
  obtain ⟨v,r,h1,_,h3⟩:=h
  obtain ⟨u,q1,q2⟩:=RPs.get (i:=i) (p:=p) h3 (by simpa using e)
  subst h1
  exact ⟨u,by simpa using q1,q2⟩
theorem RPs.set:∀ {xs:List PyData} {vs:List V} {i:Nat} {p:PyData} {v:V},RPs K Z m H xs vs→RP K Z m H p v→RPs K Z m H (xs.set i p) (vs.set i v)
 | [],_,_,_,_,h,_=>by simp only [RPs] at h; subst h; simp [RPs]
 | x :: xs,_,0,p,v,h,q=>by
  simp only [RPs] at h
  obtain ⟨w,r,h1,_,h3⟩:=h
  subst h1
  simp only [List.set_cons_zero,RPs]
  exact ⟨v,r,rfl,q,h3⟩
 | x :: xs,_,i + 1,p,v,h,q=>by
  simp only [RPs] at h
  obtain ⟨w,r,h1,h2,h3⟩:=h
  subst h1
  simp only [List.set_cons_succ,RPs]
  exact ⟨w,_,rfl,h2,RPs.set h3 q⟩
theorem RPs.append:∀ {xs ys:List PyData} {vs ws:List V},RPs K Z m H xs vs→RPs K Z m H ys ws→RPs K Z m H (xs++ys) (vs++ws)
 | [],_,_,_,h,q=>by simp only [RPs] at h; subst h; simpa using q
 | x :: xs,_,_,_,h,q=>by
  simp only [RPs] at h
  obtain ⟨w,r,h1,h2,h3⟩:=h
  subst h1
  simp only [List.cons_append,RPs]
  exact ⟨w,_,rfl,h2,RPs.append h3 q⟩
theorem RPs.drop:∀ {xs:List PyData} {vs:List V} (n:Nat),RPs K Z m H xs vs→RPs K Z m H (xs.drop n) (vs.drop n)
 | _,_,0,h=>by simpa using h
 | [],_,n + 1,h=>by simp only [RPs] at h; subst h; simp [RPs]
 | x :: xs,_,n + 1,h=>by
  simp only [RPs] at h
  obtain ⟨w,r,h1,h2,h3⟩:=h
  subst h1
  simpa using RPs.drop n h3
theorem RPs.take:∀ {xs:List PyData} {vs:List V} (n:Nat),RPs K Z m H xs vs→RPs K Z m H (xs.take n) (vs.take n)
 | _,_,0,h=>by simp [RPs]
 | [],_,n + 1,h=>by simp only [RPs] at h; subst h; simp [RPs]
 | x :: xs,_,n + 1,h=>by
  simp only [RPs] at h
  obtain ⟨w,r,h1,h2,h3⟩:=h
  subst h1
  simp only [List.take_succ_cons,RPs]
  exact ⟨w,_,rfl,h2,RPs.take n h3⟩
theorem RPs.reverse:∀ {xs:List PyData} {vs:List V},RPs K Z m H xs vs→RPs K Z m H xs.reverse vs.reverse
 | [],_,h=>by simp only [RPs] at h; subst h; simp [RPs]
 | x :: xs,_,h=>by
  simp only [RPs] at h
  obtain ⟨w,r,h1,h2,h3⟩:=h
  subst h1
  rw [List.reverse_cons,List.reverse_cons]
  exact (RPs.reverse h3).append (by simp only [RPs]; exact ⟨w,[],rfl,h2,rfl⟩)
@[simp] def pds:List D→Option (List PyData)
 | []=>some []
 | .dat p :: r=>(pds r).map (p :: ·)
 | .cel _ :: _=>none
theorem RDs.pds:∀ {xs:List D} {vs:List V} {ps:List PyData},RDs K Z m H xs vs→DL.pds xs=some ps→RPs K Z m H ps vs
 | [],vs,ps,h,e=>by
  cases (show vs=[] from h)
  cases (show some []=some ps from e)
  simp [RPs]
 | .dat p :: r,vs,ps,⟨v,w,h1,h2,h3⟩,e=>by
  simp only [DL.pds] at e
  cases q:DL.pds r with
  | none=>rw [q] at e; cases e
  | some qs =>
   rw [q] at e
   cases e
   simp only [RPs]
   exact ⟨v,w,h1,h2,RDs.pds h3 q⟩
 | .cel a :: r,_,_,_,e=>by simp only [DL.pds] at e; cases e
theorem SqT.same {a:Addr} {xs:List V} (e:Same H H') (h:SqT K H a xs):SqT K H' a xs:=by
 rcases h with (h | ⟨o,h⟩) | h
 ·exact .inl (.inl (e _ _ h))
 ·exact .inl (.inr ⟨o,e _ _ h⟩)
 ·exact .inr h
theorem Ext.grow (s:Same H H') (hz:∀ a,Z a→H a≠none):Ext K Z m H m H':=⟨fun _ _ h=>SqT.same s h,fun _ _ h1 h2=>⟨h1.1,s.seq h2⟩,fun a h=>by
 cases q:H a with
 | none=>exact absurd q (hz a h)
 | some o=>exact s a o q,fun _ h=>h⟩
theorem Ok.grow (s:Same H H') (ok:Ok K Z m H):Ok K Z m H':=by
 have e:Ext K Z m H m H':=Ext.grow s fun a h=>(ok.z a h).2
 refine ⟨fun a c h=>?_,fun a h=>⟨(ok.z a h).1,by rw [e.z a h]; exact (ok.z a h).2⟩⟩
 obtain ⟨o,h1,h2⟩:=ok.g a c h
 exact ⟨o,s _ _ h1,h2.ext e⟩
theorem Ok.ext (s:Same H H') (ok:Ok K Z m H):Ext K Z m H m H':=Ext.grow s fun a h=>(ok.z a h).2
theorem zc6 {p:Addr} {o:HO} (h:H p=none):Same H (upd H p o):=fun b u q=>by rw [zc9 (zs2 q h)]; exact q
def updM (m:Mu) (a:Addr) (c:Cel):Mu:=fun b=>if b=a then some c else m b
theorem zb1 {a:Addr} {c:Cel}:updM m a c a=some c:=by unfold updM; rw [if_pos rfl]
theorem ze1 {a b:Addr} {c:Cel} (h:b≠a):updM m a c b=m b:=by unfold updM; rw [if_neg h]
theorem zM4 {a:Addr} {x y:Cel}:updM (updM m a x) a y=updM m a y:=by funext b; unfold updM; split <;> rfl
theorem SqL.ne {p a:Addr} {xs:List V} (hp:H p=none) (hk:K.lookup p=none) (h:SqL K H a xs):a≠p:=by
 rintro rfl
 rcases h with (h | ⟨o,h⟩) | ⟨o,_,_,h,_⟩
 ·rw [hp] at h; cases h
 ·rw [hp] at h; cases h
 ·rw [hk] at h; cases h
theorem Ext.cell {p:Addr} {o:HO} {c:Cel} (ok:Ok K Z m H) (hp:H p=none) (hk:K.lookup p=none):Ext K Z m H (updM m p c) (upd H p o):=by
 refine ⟨fun _ _ h=>SqT.same (zc6 hp) h,fun a xs h1 h2=>?_,fun a h=>?_,fun a h=>?_⟩
 ·have ne:=SqL.ne hp hk h2
  exact ⟨by rw [ze1 ne]; exact h1.1,(zc6 hp).seq h2⟩
 ·have ne:a≠p:=fun e=>(ok.z a h).2 (by rw [e]; exact hp)
  exact zc9 ne
 ·by_cases e:a=p
  ·subst e; rw [zb1]; rfl
  ·rw [ze1 e]; exact h
theorem Ok.updC {p:Addr} {o:HO} {c:Cel} (ok:Ok K Z m H) (hz:¬ Z p) (e:Ext K Z m H (updM m p c) (upd H p o)) (r:RC K Z m H c o):Ok K Z (updM m p c) (upd H p o):=by
 refine ⟨fun a x h=>?_,fun a h=>?_⟩
 ·by_cases q:a=p
  ·subst q
   rw [zb1] at h
   cases h
   exact ⟨o,zc5,r.ext e⟩
  ·rw [ze1 q] at h
   obtain ⟨w,h1,h2⟩:=ok.g a x h
   exact ⟨w,by rw [zc9 q]; exact h1,h2.ext e⟩
 ·have ne:a≠p:=fun e=>hz (e ▸ h)
  exact ⟨by rw [ze1 ne]; exact (ok.z a h).1,by rw [zc9 ne]; exact (ok.z a h).2⟩
theorem Ok.cell {p:Addr} {o:HO} {c:Cel} (ok:Ok K Z m H) (hp:H p=none) (hk:K.lookup p=none) (r:RC K Z m H c o):Ok K Z (updM m p c) (upd H p o) :=
 ok.updC (fun h=>(ok.z p h).2 hp) (Ext.cell ok hp hk) r
theorem Ext.put {a:Addr} {o o0:HO} {c c0:Cel} (ok:Ok K Z m H) (hm:m a=some c0) (hH:H a=some o0):Ext K Z m H (updM m a c) (upd H a o):=by
 have mu:(∀ xs,o0≠.tup xs)∧(∀ a b,o0≠.frz a b):=by
  obtain ⟨w,h1,h2⟩:=ok.g a c0 hm
  rw [hH] at h1
  cases h1
  exact h2.mut
 refine ⟨fun b xs h=>?_,fun b xs h1 h2=>?_,fun b h=>?_,fun b h=>?_⟩
 ·rcases h with (h | ⟨w,h⟩) | h
  ·have ne:b≠a:=by rintro rfl; rw [hH] at h; cases h; exact absurd rfl (mu.1 _)
   exact .inl (.inl (by rw [zc9 ne]; exact h))
  ·have ne:b≠a:=by rintro rfl; rw [hH] at h; cases h; exact absurd rfl (mu.2 _ _)
   exact .inl (.inr ⟨w,by rw [zc9 ne]; exact h⟩)
  ·exact .inr h
 ·have ne:b≠a:=by rintro rfl; rw [hm] at h1; cases h1.1
  refine ⟨by rw [ze1 ne]; exact h1.1,?_⟩
  rcases h2 with (h | ⟨w,h⟩) | h
  ·exact .inl (.inl (by rw [zc9 ne]; exact h))
  ·exact .inl (.inr ⟨w,by rw [zc9 ne]; exact h⟩)
  ·exact .inr h
 ·have ne:b≠a:=by rintro rfl; have:=(ok.z b h).1; rw [hm] at this; cases this
  exact zc9 ne
 ·by_cases e:b=a
  ·subst e; rw [zb1]; rfl
  ·rw [ze1 e]; exact h
theorem Ok.put {a:Addr} {o o0:HO} {c c0:Cel} (ok:Ok K Z m H) (hm:m a=some c0) (hH:H a=some o0) (r:RC K Z m H c o):Ok K Z (updM m a c) (upd H a o) :=
 ok.updC (fun h=>by have:=(ok.z a h).1; rw [hm] at this; cases this) (Ext.put ok hm hH) r
def RS (K:PySem.W.Frag) (Z:Addr→Prop) (m:Mu) (H:Hp) (d:St2) (s:L2.St):Prop:=d.length=s.length∧∀ (i:Nat) (x:D),d[i]?=some (some x)→∃ v,s[i]?=some (some v)∧RD K Z m H x v
theorem RS.ext {d:St2} {s:L2.St} (r:RS K Z m H d s) (e:Ext K Z m H m' H'):RS K Z m' H' d s:=⟨r.1,fun i x h=>let ⟨v,h1,h2⟩:=r.2 i x h; ⟨v,h1,h2.ext e⟩⟩
theorem RS.set {d:St2} {s:L2.St} {i:Nat} {x:D} {v:V} (r:RS K Z m H d s) (h:RD K Z m H x v):RS K Z m H (d.set i (some x)) (s.set i (some v)):=by
 refine ⟨by rw [List.length_set,List.length_set]; exact r.1,fun j y q=>?_⟩
 by_cases e:j=i
 ·subst e
  rw [List.getElem?_set] at q
  simp only [if_true] at q
  split at q
  ·rename_i hl
   cases q
   refine ⟨v,?_,h⟩
   rw [List.getElem?_set]
   simp only [if_true]
   rw [if_pos (by rw [← r.1]; exact hl)]
  ·cases q
 ·rw [List.getElem?_set_ne (Ne.symm e)] at q
  obtain ⟨w,h1,h2⟩:=r.2 j y q
  exact ⟨w,by rw [List.getElem?_set_ne (Ne.symm e)]; exact h1,h2⟩
end
abbrev DK:=D→Mu→Prop
abbrev DE:=St2→Mu→DK→Prop
abbrev DT:=St2→Mu→(Bool→Mu→Prop)→Prop
abbrev DA:=St2→Mu→(List D→Mu→Prop)→Prop
structure Ends2 where
 nx:St2→Mu→Prop
 rt:DK
 bk:St2→Mu→Prop:=fun _ _=>False
 ct:St2→Mu→Prop:=fun _ _=>False
abbrev DS:=Ends2→St2→Mu→Prop
def LE (K:PySem.W.Frag) (f:DE):TE:=fun s H Q=>∃ (Z:Addr→Prop) (d:St2) (m:Mu) (R:DK),Ok K Z m H∧RS K Z m H d s∧f d m R ∧
 ∀ x m' v H',R x m'→Ext K Z m H m' H'→Ok K Z m' H'→RD K Z m' H' x v→Q v H'
def LT (K:PySem.W.Frag) (f:DT):TT:=fun s H Q=>∃ (Z:Addr→Prop) (d:St2) (m:Mu) (R:Bool→Mu→Prop),Ok K Z m H∧RS K Z m H d s∧f d m R ∧
 ∀ b m' H',R b m'→Ext K Z m H m' H'→Ok K Z m' H'→Q b H'
def LA (K:PySem.W.Frag) (f:DA):TA:=fun s H Q=>∃ (Z:Addr→Prop) (d:St2) (m:Mu) (R:List D→Mu→Prop),Ok K Z m H∧RS K Z m H d s∧f d m R ∧
 ∀ xs m' vs H',R xs m'→Ext K Z m H m' H'→Ok K Z m' H'→RDs K Z m' H' xs vs→Q vs H'
def LS (K:PySem.W.Frag) (f:DS):TS:=fun E s H=>∃ (Z:Addr→Prop) (d:St2) (m:Mu) (R:Ends2),Ok K Z m H∧RS K Z m H d s∧f R d m ∧
 (∀ d' m' s' H',R.nx d' m'→Ext K Z m H m' H'→Ok K Z m' H'→RS K Z m' H' d' s'→E.nx s' H') ∧
 (∀ x m' v H',R.rt x m'→Ext K Z m H m' H'→Ok K Z m' H'→RD K Z m' H' x v→E.rt v H') ∧
 (∀ d' m' s' H',R.bk d' m'→Ext K Z m H m' H'→Ok K Z m' H'→RS K Z m' H' d' s'→E.bk s' H') ∧
 (∀ d' m' s' H',R.ct d' m'→Ext K Z m H m' H'→Ok K Z m' H'→RS K Z m' H' d' s'→E.ct s' H')
theorem PE.imp {X:Cx} {e:Expr} {t t':TE} (h:PE X e t) (q:∀ s H Q,t' s H Q→t s H Q):PE X e t':=fun pins s d H Q I w=>h pins s d H Q I (q _ _ _ w)
theorem PT.imp {X:Cx} {e:Expr} {t t':TT} (h:PT X e t) (q:∀ s H Q,t' s H Q→t s H Q):PT X e t':=fun pins s d H Q I w=>h pins s d H Q I (q _ _ _ w)
theorem PA.imp {X:Cx} {e:List Expr} {t t':TA} (h:PA X e t) (q:∀ s H Q,t' s H Q→t s H Q):PA X e t':=fun pos pins s d H Q I w=>h pos pins s d H Q I (q _ _ _ w)
theorem PS.imp {X:Cx} {e:Stmt} {t t':TS} (h:PS X e t) (q:∀ E s H,t' E s H→t E s H):PS X e t':=fun pins s d H E I w=>h pins s d H E I (q _ _ _ w)
theorem PSs.imp {X:Cx} {e:List Stmt} {t t':TS} (h:PSs X e t) (q:∀ E s H,t' E s H→t E s H):PSs X e t':=fun pins s d H E I w=>h pins s d H E I (q _ _ _ w)
section
variable {X:Cx} {pos:Pos}
@[simp] def dVar (i:Nat):DE:=fun d m Q=>∃ x,d[i]?=some (some x)∧Q x m
theorem zaY7 (i:Nat) {x:Str} (hN:X.N[i]?=some x:=by rfl) (hv:Vis X.env.scope x:=by first | exact Or.inl rfl | exact Or.inr (Or.inl rfl) | exact Or.inr (Or.inr rfl)) (hd:(x == ("__debug__" : Str))=false:=by decide)
  (hcd:(x == ("__classdict__" : Str))=false:=by decide):PE X (.Name x pos) (LE X.K (dVar i)) :=
 PE.imp (zaZ2 hN hv hd hcd) fun s H Q h=>by
  obtain ⟨Z,d,m,R,ok,rs,⟨x,h1,h2⟩,k⟩:=h
  obtain ⟨v,q1,q2⟩:=rs.2 i x h1
  exact ⟨v,q1,k x m v H h2 Ext.refl ok q2⟩
@[simp] def dCon (p:PyData):DE:=fun _ m Q=>Q (.dat p) m
theorem zat0 {e:Expr} {p:PyData} {v:V} (h:PE X e (tC v)) (r:∀ Z m H,RP X.K Z m H p v):PE X e (LE X.K (dCon p)) :=
 PE.imp h fun s H Q ⟨Z,d,m,R,ok,rs,h2,k⟩=>k _ m v H h2 Ext.refl ok (r Z m H)
theorem zbg4 {i:Int} {j:Nat}:PE X (.Constant (.int i) j pos) (LE X.K (dCon (.int i))):=zat0 zbf3 fun Z m H=>by simp only [RP]
theorem zbm4 {b:Bool} {j:Nat}:PE X (.Constant (.bool b) j pos) (LE X.K (dCon (.bool b))):=zat0 zbl3 fun Z m H=>by simp only [RP]
theorem zba1 {j:Nat}:PE X (.Constant .none j pos) (LE X.K (dCon .none)):=zat0 zbf5 fun Z m H=>by simp only [RP]
theorem zbe3 {x:Str} {j:Nat}:PE X (.Constant (.str x) j pos) (LE X.K (dCon (.str x))):=zat0 zbe0 fun Z m H=>by simp only [RP]
end
end DL
namespace DL
open PySem PySem.Spec PyProof.Rows L2
section
variable {X:Cx} {pins:List (Addr×Obj)} {σ:L2.St} {H:Hp} {s:Shared} {Z:Addr→Prop} {m:Mu}
mutual
theorem RP.reads (I:Inv X pins σ H s):∀ (p:PyData) (v:V) (u:Value),RP X.K Z m H p v→RelV v u→∃ as,Reads s.heap u p as
 | .none,v,u,h,r=>by simp only [RP] at h; subst h; cases r; exact ⟨_,.none⟩
 | .bool b,v,u,h,r=>by simp only [RP] at h; subst h; cases r; exact ⟨_,.bool b⟩
 | .int i,v,u,h,r=>by simp only [RP] at h; subst h; obtain ⟨t,rfl⟩:=r; exact ⟨_,.int i t⟩
 | .str x,v,u,h,r=>by simp only [RP] at h; subst h; obtain ⟨t,rfl⟩:=r; exact ⟨_,.str x t⟩
 | .tuple xs,v,u,h,r=>by
  simp only [RP] at h
  obtain ⟨a,vs,rfl,h2,h3⟩:=h
  cases r
  obtain ⟨its,rv,⟨o,e,c,n,d⟩,_⟩:=I.tuple h2
  obtain ⟨as,q⟩:=RPs.reads I xs vs its h3 rv
  exact ⟨_,.tuple e c d (by simpa using q)⟩
 | .list xs,v,u,h,r=>by
  simp only [RP] at h
  obtain ⟨a,vs,rfl,_,h2,h3⟩:=h
  cases r
  obtain ⟨its,rv,⟨o,n,e,c,_,d⟩,_⟩:=I.list h2
  obtain ⟨as,q⟩:=RPs.reads I xs vs its h3 rv
  exact ⟨_,.list e c d (by simpa using q)⟩
 | .dict _,v,u,h,r=>by simp only [RP] at h
theorem RPs.reads (I:Inv X pins σ H s):∀ (xs:List PyData) (vs:List V) (us:List Value),RPs X.K Z m H xs vs→Vals vs us→∃ as,ReadsAll s.heap us xs as
 | [],vs,us,h,r=>by simp only [RPs] at h; subst h; cases r; exact ⟨_,.nil⟩
 | x :: xs,vs,us,h,r=>by
  simp only [RPs] at h
  obtain ⟨v,w,rfl,h1,h2⟩:=h
  cases r with
  | cons r1 r2 =>
   obtain ⟨as,q1⟩:=RP.reads I x v _ h1 r1
   obtain ⟨bs,q2⟩:=RPs.reads I xs w _ h2 r2
   exact ⟨_,.cons q1 q2⟩
end
theorem RP.noDict (K:PySem.W.Frag):∀ (p:PyData) (v:V),RP K Z m H p v→p.hasDict=false
 | .none,_,_=>rfl
 | .bool _,_,_=>rfl
 | .int _,_,_=>rfl
 | .str _,_,_=>rfl
 | .tuple xs,v,h=>by
  simp only [RP] at h
  obtain ⟨_,vs,_,_,h⟩:=h
  simp only [PyData.hasDict]
  exact go xs vs h
 | .list xs,v,h=>by
  simp only [RP] at h
  obtain ⟨_,vs,_,_,_,h⟩:=h
  simp only [PyData.hasDict]
  exact go xs vs h
 | .dict _,v,h=>by simp only [RP] at h
where go:∀ (xs:List PyData) (vs:List V),RPs K Z m H xs vs→PyData.hasDictAll xs=false
 | [],_,_=>rfl
 | x :: xs,vs,h=>by
  simp only [RPs] at h
  obtain ⟨v,w,rfl,h1,h2⟩:=h
  simp only [PyData.hasDictAll,RP.noDict K x v h1,go xs w h2,Bool.or_self]
end
abbrev D2:=D→D→Mu→DK→Prop
def OpD (X:Cx) (op:Value→Value→Sem Value) (r:D2):Prop :=
 ∀ (pins:List (Addr×Obj)) (s:Shared) (σ:L2.St) (H:Hp) (Z:Addr→Prop) (m:Mu) (x y:V) (dx dy:D) (v u:Value) (R:DK) (Q:VK),Inv X pins σ H s→Ok X.K Z m H→RelV x v→RelV y u→RD X.K Z m H dx x→RD X.K Z m H dy y→r dx dy m R →
  (∀ d m' v' H',R d m'→Ext X.K Z m H m' H'→Ok X.K Z m' H'→RD X.K Z m' H' d v'→Q v' H')→wpAny (model X.prog X.w) X.A (op v u) (EP X pins σ Q) X.xe s
@[simp] def dBin (r:D2) (f g:DE):DE:=fun d m Q=>f d m fun x m1=>g d m1 fun y m2=>r x y m2 Q
section
variable {X:Cx} {a b c:Expr} {f g:DE} {pos:Pos}
theorem le2 {op:Value→Value→Sem Value} {r:D2} (ho:OpD X op r) (ha:PE X a (LE X.K f)) (hb:PE X b (LE X.K g)) {pins:List (Addr×Obj)} {s:Shared} {σ:L2.St} {H:Hp} {Q:VK} (I:Inv X pins σ H s)
  (h:LE X.K (dBin r f g) σ H Q) :
  wpAny (model X.prog X.w) X.A (eval a X.env) (fun v s₁=>wpAny (model X.prog X.w) X.A (eval b X.env) (fun u s₂=>wpAny (model X.prog X.w) X.A (op v u) (EP X pins σ Q) X.xe s₂) X.xe s₁) X.xe s:=by
 obtain ⟨Z,d,m,R,ok,rs,hf,k⟩:=h
 refine binT ha hb I (R:=fun x y H2=>∃ m2 dx dy,Ok X.K Z m2 H2∧Ext X.K Z m H m2 H2∧RD X.K Z m2 H2 dx x∧RD X.K Z m2 H2 dy y∧r dx dy m2 R) ?_ fun v u s2 x y H2 I2 rx ry ⟨m2,dx,dy,ok2,e2,r1,r2,q⟩=>?_
 ·exact ⟨Z,d,m,_,ok,rs,hf,fun x m1 v H1 q e1 ok1 r1=>⟨Z,d,m1,_,ok1,rs.ext e1,q,fun y m2 v2 H2 q2 e2 ok2 r2=>⟨m2,x,y,ok2,e1.trans e2,r1.ext e2,r2,q2⟩⟩⟩
 ·exact ho pins s2 σ H2 Z m2 x y dx dy v u R Q I2 ok2 rx ry r1 r2 q fun d' m' v' H' h1 h2 h3 h4=>k d' m' v' H' h1 (e2.trans h2) h3 h4
theorem zaZ6 {op:Operator} {r:D2} (ho:OpD X (binaryOp op) r) (ha:PE X a (LE X.K f)) (hb:PE X b (LE X.K g)):PE X (.BinOp a op b pos) (LE X.K (dBin r f g)) :=
 fun _ _ _ _ _ I h=>wpAny_BinOp (le2 ho ha hb I h)
theorem zbd7 {op:CmpOp} {r:D2} (ho:OpD X (compareOp op) r) (ha:PE X a (LE X.K f)) (hb:PE X b (LE X.K g)) (hm:behindInMarks op b=false:=by exact zas6 _):PE X (.Compare a [op] [b] pos) (LE X.K (dBin r f g)) :=
 fun _ _ _ _ _ I h=>wpAny_Compare1 (le2 ho ha hb I h) hm
@[simp] def dTst (f:DE):DT:=fun d m Q=>f d m fun x m1=>∃ b,x=.dat (.bool b)∧Q b m1
theorem LT.le {K:PySem.W.Frag} {σ:L2.St} {H:Hp} {Q:Bool→Hp→Prop} (h:LT K (dTst f) σ H Q):LE K f σ H (fun x H'=>∃ k,x=.bl k∧Q k H'):=by
 obtain ⟨Z,d,m,R,ok,rs,hf,k⟩:=h
 refine ⟨Z,d,m,_,ok,rs,hf,fun x m' v H' ⟨b,e,q⟩ e1 ok1 rd=>⟨b,?_,k b m' H' q e1 ok1⟩⟩
 subst e
 simpa only [RD,RP] using rd
theorem zaZ4 {op:CmpOp} {r:D2} (ho:OpD X (compareOp op) r) (ha:PE X a (LE X.K f)) (hb:PE X b (LE X.K g)) (hm:behindInMarks op b=false:=by exact zas6 _):PT X (.Compare a [op] [b] pos) (LT X.K (dTst (dBin r f g))):=by
 intro pins s σ H Q I h
 refine wpAny_isTrue_Compare1 (thn (le2 ho ha hb I h.le) fun v s1 h1=>thn h1 fun u s2 h2=>thn h2 fun c s3 ⟨z,H3,I3,r3,k,e,q3⟩=>?_) hm
 subst e
 cases r3
 exact wpAny_truthy_bool ⟨H3,I3,q3⟩
theorem zbc4 (h:PE X a (LE X.K f)) (he:∀ whole,isTrue a X.env whole=(do let v ← whole; standAt a.pos; holding [v] (truthy v)):=by intro _; rfl):PT X a (LT X.K (dTst f)) :=
 PT.imp (zbe5 h he) fun _ _ _ q=>q.le
end
section
variable {X:Cx} {a b c:Expr} {rest:List Expr} {f g:DE} {t u:DT} {pos:Pos}
@[simp] def zaH2 (t:DT):DT:=fun d m Q=>t d m fun k m1=>Q (!k) m1
theorem PW.imp {e:Expr} {t t':TT} (h:PW X e t) (q:∀ s H Q,t' s H Q→t s H Q):PW X e t':=fun wh pins s d H Q I w=>h wh pins s d H Q I (q _ _ _ w)
theorem zbf7 (ha:PT X a (LT X.K t)):PT X (.UnaryOp .Not a pos) (LT X.K (zaH2 t)) :=
 PT.imp (zbd4 ha) fun s H Q ⟨Z,d,m,R,ok,rs,h,k⟩=>⟨Z,d,m,_,ok,rs,h,fun b m1 H1 q e1 ok1=>k (!b) m1 H1 q e1 ok1⟩
@[simp] def dAnd (f g:DE):DE:=fun d m Q=>f d m fun x m1=>∃ b,x=.dat (.bool b)∧if b=true then g d m1 Q else Q (.dat (.bool false)) m1
@[simp] def dOr (f g:DE):DE:=fun d m Q=>f d m fun x m1=>∃ b,x=.dat (.bool b)∧if b=true then Q (.dat (.bool true)) m1 else g d m1 Q
@[simp] def dNot (f:DE):DE:=fun d m Q=>f d m fun x m1=>∃ b,x=.dat (.bool b)∧Q (.dat (.bool (!b))) m1
theorem RD.bl {K:PySem.W.Frag} {Z:Addr→Prop} {m:Mu} {H:Hp} {b:Bool} {v:V} (h:RD K Z m H (.dat (.bool b)) v):v=.bl b:=by simpa only [RD,RP] using h
theorem RD.ofBl {K:PySem.W.Frag} {Z:Addr→Prop} {m:Mu} {H:Hp} {b:Bool}:RD K Z m H (.dat (.bool b)) (.bl b):=by simp only [RD,RP]
theorem zbg9 {op:BoolOp} (h:PE X a (LE X.K f)):PE X (.BoolOp op [a] pos) (LE X.K f):=zbb0 h
theorem zbe1 (ha:PE X a (LE X.K f)) (hb:PE X (.BoolOp .And (b :: rest) pos) (LE X.K g)):PE X (.BoolOp .And (a :: b :: rest) pos) (LE X.K (dAnd f g)) :=
 PE.imp (zbb3 ha hb) fun s H Q ⟨Z,d,m,R,ok,rs,h,k⟩=>⟨Z,d,m,_,ok,rs,h,fun x m1 v H1 ⟨b,e,q⟩ e1 ok1 rd=>by
  subst e
  refine ⟨b,rd.bl,?_⟩
  cases b with
  | true=>rw [if_pos rfl] at q ⊢; exact ⟨Z,d,m1,R,ok1,rs.ext e1,q,fun x2 m2 v2 H2 q2 e2 ok2 r2=>k x2 m2 v2 H2 q2 (e1.trans e2) ok2 r2⟩
  | false=>rw [if_neg Bool.false_ne_true] at q ⊢; exact k _ m1 _ H1 q e1 ok1 .ofBl⟩
theorem zbi6 (ha:PE X a (LE X.K f)) (hb:PE X (.BoolOp .Or (b :: rest) pos) (LE X.K g)):PE X (.BoolOp .Or (a :: b :: rest) pos) (LE X.K (dOr f g)) :=
 PE.imp (zbl2 ha hb) fun s H Q ⟨Z,d,m,R,ok,rs,h,k⟩=>⟨Z,d,m,_,ok,rs,h,fun x m1 v H1 ⟨b,e,q⟩ e1 ok1 rd=>by
  subst e
  refine ⟨b,rd.bl,?_⟩
  cases b with
  | false=>rw [if_neg Bool.false_ne_true] at q ⊢; exact ⟨Z,d,m1,R,ok1,rs.ext e1,q,fun x2 m2 v2 H2 q2 e2 ok2 r2=>k x2 m2 v2 H2 q2 (e1.trans e2) ok2 r2⟩
  | true=>rw [if_pos rfl] at q ⊢; exact k _ m1 _ H1 q e1 ok1 .ofBl⟩
theorem zbc1 (ha:PE X a (LE X.K f)):PE X (.UnaryOp .Not a pos) (LE X.K (dNot f)) :=
 PE.imp (zbg7 ha) fun s H Q ⟨Z,d,m,R,ok,rs,h,k⟩=>⟨Z,d,m,_,ok,rs,h,fun x m1 v H1 ⟨b,e,q⟩ e1 ok1 rd=>by
  subst e
  exact ⟨b,rd.bl,k _ m1 _ H1 q e1 ok1 .ofBl⟩⟩
@[simp] def dIte (t:DT) (f g:DE):DE:=fun d m Q=>t d m fun k m1=>if k=true then f d m1 Q else g d m1 Q
theorem zaZ0 (hc:PT X c (LT X.K t)) (ha:PE X a (LE X.K f)) (hb:PE X b (LE X.K g)):PE X (.IfExp c a b pos) (LE X.K (dIte t f g)) :=
 PE.imp (zaH0 hc ha hb) fun s H Q ⟨Z,d,m,R,ok,rs,h,k⟩=>⟨Z,d,m,_,ok,rs,h,fun b m1 H1 q e1 ok1=>by
  cases b with
  | true=>rw [if_pos rfl] at q ⊢; exact ⟨Z,d,m1,R,ok1,rs.ext e1,q,fun x2 m2 v2 H2 q2 e2 ok2 r2=>k x2 m2 v2 H2 q2 (e1.trans e2) ok2 r2⟩
  | false=>rw [if_neg Bool.false_ne_true] at q ⊢; exact ⟨Z,d,m1,R,ok1,rs.ext e1,q,fun x2 m2 v2 H2 q2 e2 ok2 r2=>k x2 m2 v2 H2 q2 (e1.trans e2) ok2 r2⟩⟩
end
section
variable {X:Cx} {e:Expr} {es:List Expr} {f:DE} {g:DA} {pos:Pos}
@[simp] def dNil:DA:=fun _ m Q=>Q [] m
@[simp] def za4 (f:DE) (g:DA):DA:=fun d m Q=>f d m fun x m1=>g d m1 fun xs m2=>Q (x :: xs) m2
theorem zaC1:PA X [] (LA X.K dNil):=PA.imp zZ3 fun s H Q ⟨Z,d,m,R,ok,rs,h,k⟩=>k [] m [] H h Ext.refl ok rfl
theorem zU0 (ha:PE X e (LE X.K f)) (hr:PA X es (LA X.K g)) (hs:starEach (e :: es) X.env=(false,eval e X.env) :: starEach es X.env:=by rfl):PA X (e :: es) (LA X.K (za4 f g)) :=
 PA.imp (zI1 ha hr hs) fun s H Q ⟨Z,d,m,R,ok,rs,h,k⟩=>⟨Z,d,m,_,ok,rs,h,fun x m1 v H1 q e1 ok1 r1=>⟨Z,d,m1,_,ok1,rs.ext e1,q,fun xs m2 vs H2 q2 e2 ok2 r2 =>
  k (x :: xs) m2 (v :: vs) H2 q2 (e1.trans e2) ok2 ⟨v,vs,rfl,r1.ext e2,r2⟩⟩⟩
@[simp] def dTup (g:DA):DE:=fun d m Q=>g d m fun xs m1=>∃ ps,pds xs=some ps∧ps.length≤sizeLine∧Q (.dat (.tuple ps)) m1
theorem zbh3 {j:Nat} (h:PA X es (LA X.K g)):PE X (.Tuple es j pos) (LE X.K (dTup g)) :=
 PE.imp (zaN3 h) fun s H Q ⟨Z,d,m,R,ok,rs,h,k⟩=>⟨Z,d,m,_,ok,rs,h,fun xs m1 vs H1 ⟨ps,e,hz,q⟩ e1 ok1 r1=>by
  have rp:=r1.pds e
  refine ⟨by rw [rp.length]; exact hz,fun p hp=>?_⟩
  have sm:Same H1 (upd H1 p (.tup vs)):=zc6 hp
  refine k _ m1 _ _ q (e1.trans (ok1.ext sm)) (ok1.grow sm) ?_
  simp only [RD,RP]
  exact ⟨p,vs,rfl,.inl (.inl zc5),RPs.ext (ok1.ext sm) _ _ rp⟩⟩
@[simp] def dLst (g:DA):DE:=fun d m Q=>g d m fun xs m1=>∃ ps,pds xs=some ps∧ps.length≤sizeLine∧Q (.dat (.list ps)) m1
@[simp] def zaf6 (g:DA):DE:=fun d m Q=>g d m fun xs m1=>∃ ps,pds xs=some ps∧ps.length≤sizeLine∧∀ a,m1 a=none→Q (.cel a) (updM m1 a (.l ps))
theorem zaE7 {t:TA} (h:PA X es t):PE X (.List es pos) (fun s H Q=>t s H fun xs H1=>xs.length≤sizeLine∧∀ p,H1 p=none→X.K.lookup p=none→Q (.ref p) (upd H1 p (.lst xs))):=by
 intro pins s σ H Q I hq
 refine wpAny_List_spliced (thn (h pos pins s σ H _ I hq) fun us s1 ⟨xs,H1,I1,r,z,q⟩=>⟨by rw [← r.length]; exact z,?_⟩)
 have hf:H1 s1.heap.objs.size=none:=I1.hok.fresh (Nat.le_refl _)
 have hk:X.K.lookup s1.heap.objs.size=none:=by
  cases e:X.K.lookup s1.heap.objs.size with
  | none=>rfl
  | some o=>exact absurd (Heap.lt_size (I1.kIn _ o e)) (Nat.lt_irrefl _)
 refine ⟨.ref s1.heap.objs.size,upd H1 s1.heap.objs.size (.lst xs),I1.laid (t':=s1.toks) (fun b u e=>Heap.get?_push_of_some _ e) (Nat.le_refl _) ?_,rfl,q _ hf hk⟩
 exact ⟨z,us,0,r,Heap.get?_push_size _ rfl⟩
theorem zn6 {K:PySem.W.Frag} {Z:Addr→Prop} {m:Mu} {H:Hp} {p:Addr} (ok:Ok K Z m H) (hp:H p=none):m p=none∧¬ Z p:=by
 refine ⟨?_,fun h=>(ok.z p h).2 hp⟩
 cases e:m p with
 | none=>rfl
 | some ds =>
  obtain ⟨vs,h1,_⟩:=ok.g p ds e
  rw [hp] at h1
  cases h1
theorem zbc8 (h:PA X es (LA X.K g)):PE X (.List es pos) (LE X.K (dLst g)) :=
 PE.imp (zaE7 h) fun s H Q ⟨Z,d,m,R,ok,rs,h,k⟩=>⟨Z,d,m,_,ok,rs,h,fun xs m1 vs H1 ⟨ps,e,hz,q⟩ e1 ok1 r1=>by
  have rp:=r1.pds e
  refine ⟨by rw [rp.length]; exact hz,fun p hp hk=>?_⟩
  have sm:Same H1 (upd H1 p (.lst vs)):=zc6 hp
  refine k _ m1 _ _ q (e1.trans (ok1.ext sm)) (ok1.grow sm) ?_
  simp only [RD,RP]
  exact ⟨p,vs,rfl,zn6 ok1 hp,.inl (.inl zc5),RPs.ext (ok1.ext sm) _ _ rp⟩⟩
theorem zaR0 (h:PA X es (LA X.K g)):PE X (.List es pos) (LE X.K (zaf6 g)) :=
 PE.imp (zaE7 h) fun s H Q ⟨Z,d,m,R,ok,rs,h,k⟩=>⟨Z,d,m,_,ok,rs,h,fun xs m1 vs H1 ⟨ps,e,hz,q⟩ e1 ok1 r1=>by
  have rp:=r1.pds e
  refine ⟨by rw [rp.length]; exact hz,fun p hp hk=>?_⟩
  refine k _ _ _ _ (q p (zn6 ok1 hp).1) (e1.trans (Ext.cell ok1 hp hk)) (ok1.cell hp hk rp) ⟨rfl,?_⟩
  rw [zb1]
  rfl⟩
end
end DL
namespace DL
open PySem PySem.Spec PyProof.Rows L2
theorem zA3:fillsNumberSlot (.type "tuple") "mul"=pure false:=PySem.fillsNumberSlot_seq (id:="tuple.__mul__") (r:=some (.builtin "tuple.__rmul__")) PySem.F.slot_tuple_mul.lookup (by decide +kernel) PySem.F.slot_tuple_rmul.lookup (by decide +kernel)
theorem zQ1:seqRepeat? (.type "tuple")=pure (some (.builtin "tuple.__mul__")):=by
 unfold seqRepeat?
 rw [PySem.seqSlot_of (T:="tuple") (name:="__mul__") (id:="tuple.__mul__") PySem.F.slot_tuple_mul.lookup (by decide +kernel),PySem.seqSlot_of (T:="tuple") (name:="__rmul__") (id:="tuple.__rmul__") PySem.F.slot_tuple_rmul.lookup (by decide +kernel)]
 rfl
theorem zY4 (a:Int) (t:Tok) (l:Addr) (its:Array Value) (n:Nat) (dd:Option Addr) (sl:Array (Option Value)):Meets (Builtin.«int.__rmul__» ⟨[.int a t,.ref l],[]⟩) (fun _ R s=>s.heap.get? l=some { cls:=.type "tuple",dict:=dd,data:=.seq its n,slots:=sl }∧R (.ok (.ret Value.notImplemented)) s) :=
 .of_wp fun prog w A R s hs=>by
  obtain ⟨hp,g,d,tk,os⟩:=s; obtain ⟨hl,h⟩:=hs
  wp_walk
  exact ⟨_,rfl,h⟩
theorem zac0 (vs:List Value):∀ (n:Nat) (acc:List Value),(List.replicate n vs.toArray).foldl (·++·) acc.toArray=(acc++(List.replicate n vs).flatten).toArray
 | 0,acc=>by simp
 | n + 1,acc=>by
  rw [List.replicate_succ,List.foldl_cons,List.replicate_succ,List.flatten_cons]
  have:=zac0 vs n (acc++vs)
  rw [← List.append_assoc,← this]
  simp
theorem zab3 {α:Type} (xs:List α):∀ n:Nat,(List.replicate n xs).flatten.length=xs.length * n
 | 0=>by simp
 | n + 1=>by rw [List.replicate_succ,List.flatten_cons,List.length_append,zab3 xs n,Nat.mul_succ,Nat.add_comm]
theorem zad4 (t:Addr) (its:Array Value) (k:Int) (tok:Tok) (h1:its.size≠0) (h2:2≤k) (h3:k≤100) (h4:its.size * k.toNat≤sizeLine):Meets (Builtin.«tuple.__mul__» ⟨[.ref t,.int k tok],[]⟩)
  (fun _ R s=>IsTup s.heap t its∧R (.ok (.ret (.ref s.heap.objs.size))) { s with heap:=s.heap.push { cls:=.type "tuple",data:=.seq ((List.replicate k.toNat its).foldl (·++·) #[]) } }) :=
 .of_wp fun prog w A R s hs=>by
  obtain ⟨ht,h⟩:=hs
  show wpAny _ _ (asIndex (.int k tok)>>=_) _ _ _
  refine wpAny_bind (wpAny_pure ?_)
  show wpAny _ _ (if (decide (k < -(2 ^ 63)) || decide (k ≥ 2 ^ 63))=true then _ else _) _ _ _
  rw [if_neg (by simp; omega)]
  show wpAny _ _ (Builtin.Tuple.tupleItemsOf (.ref t)>>=_) _ _ _
  refine wpAny_bind (tupleItemsOf_ ht ?_)
  have e1:its.isEmpty=false:=by
   rw [Array.isEmpty_eq_false_iff]
   rintro rfl
   exact h1 rfl
  have e2:(k == 1)=false:=by
   rw [beq_eq_false_iff_ne]
   omega
  show wpAny _ _ (if (its.isEmpty || k == 1)=true then _ else _) _ _ _
  rw [e1,e2,if_neg (by simp)]
  show wpAny _ _ (if (decide (k≤0) || false)=true then _ else _) _ _ _
  rw [if_neg (by simp; omega)]
  have hk:((its.size:Nat):Int) * k=((its.size * k.toNat:Nat):Int):=by
   push_cast
   rw [Int.toNat_of_nonneg (by omega)]
  have hs:=zR2
  show wpAny _ _ (if ((its.size:Nat):Int) * k > (2 ^ 63 - 1) / 8 then _ else _) _ _ _
  rw [if_neg ?c1]
  case c1 =>
   rw [hk]
   have:(sizeLine:Nat)≤(2 ^ 63 - 1) / 8:=by decide
   omega
  show wpAny _ _ (if (decide (((its.size:Nat):Int) * k > (sizeLine:Int)))=true then _ else _) _ _ _
  rw [if_neg ?c2]
  case c2 =>
   rw [hk]
   intro q
   have q':=of_decide_eq_true q
   omega
  show wpAny _ _ (Builtin.Tuple.tupleExact ((List.replicate k.toNat its).foldl (·++·) #[])>>=_) _ _ _
  refine wpAny_bind (m:=Builtin.Tuple.tupleExact _) (wpAny_newObj_type (wpAny_pure ⟨_,rfl,h⟩) ?_)
  show ((List.replicate k.toNat its).foldl (·++·) #[]).size≤sizeLine
  have e:=zac0 its.toList k.toNat []
  rw [List.nil_append] at e
  have e':(List.replicate k.toNat its).foldl (·++·) #[]=(List.replicate k.toNat its.toList).flatten.toArray:=e
  rw [e',List.size_toArray,zab3,Array.length_toList]
  exact h4
theorem Vals.rep {xs:List V} {us:List Value} (h:Vals xs us):∀ n:Nat,Vals (List.replicate n xs).flatten (List.replicate n us).flatten
 | 0=>.nil
 | n + 1=>by
  rw [List.replicate_succ,List.replicate_succ,List.flatten_cons,List.flatten_cons]
  exact h.append (Vals.rep h n)
theorem RPs.rep {K:PySem.W.Frag} {Z:Addr→Prop} {m:Mu} {H:Hp} {xs:List PyData} {vs:List V} (h:RPs K Z m H xs vs):∀ n:Nat,RPs K Z m H (List.replicate n xs).flatten (List.replicate n vs).flatten
 | 0=>by simp [RPs]
 | n + 1=>by
  rw [List.replicate_succ,List.replicate_succ,List.flatten_cons,List.flatten_cons]
  exact h.append (RPs.rep h n)
section
variable {X:Cx}
theorem zaW1 {pins:List (Addr×Obj)} {s:Shared} {σ:L2.St} {H:Hp} {Q:VK} {a:Addr} {xs:List V} {k:Int} {t:Tok} (I:Inv X pins σ H s) (ha:SqT X.K H a xs) (h1:xs≠[]) (h2:2≤k) (h3:k≤100) (h4:xs.length * k.toNat≤sizeLine)
  (q:∀ p,H p=none→Q (.ref p) (upd H p (.tup (List.replicate k.toNat xs).flatten))):wpAny (model X.prog X.w) X.A (binaryOp .Mult (.ref a) (.int k t)) (EP X pins σ Q) X.xe s:=by
 obtain ⟨its,r,p,hz⟩:=I.tuple ha
 have hl:=r.length
 obtain ⟨⟨cls,dd,data,sl⟩,ho,hc,n,hd⟩:=id p
 simp only at hc hd
 subst hc hd
 refine wpAny_binaryOp_repeat_ref (T:="tuple") (U:="int") (by decide) ⟨_,ho,rfl⟩ (fun s'=>typeIs_int s' k t) zA3 PySem.F.fills_int_mul PySem.F.slot_int_rmul zQ1 PySem.F.slot_int_index.lookup
  (call_meets PySem.F.slot_int_rmul (typeIs_int s k t) PySem.F.entry_int_rmul (PySem.F.args_int_rmul_2 _ _) (zY4 k t a its.toArray n dd sl) ⟨ho,rfl,⟨_,ho,rfl⟩,call_meets PySem.F.slot_tuple_mul ⟨_,ho,rfl⟩ PySem.F.entry_tuple_mul (PySem.F.args_tuple_mul_2 _ _) (zad4 a its.toArray k t ?_ h2 h3 ?_) ⟨p,?_⟩⟩)
 ·rw [List.size_toArray,← hl]
  intro e
  exact h1 (List.length_eq_zero_iff.mp e)
 ·rw [List.size_toArray,← hl]
  exact h4
 ·have e:=zac0 its k.toNat []
  rw [List.nil_append] at e
  rw [e]
  exact ⟨.ref s.heap.objs.size,_,I.laid (t':=s.toks) (o:=.tup (List.replicate k.toNat xs).flatten) (fun b ob q=>Heap.get?_push_of_some _ q) (Nat.le_refl _) ⟨⟨by rw [zab3]; exact h4,NoD.new _ _ _⟩,_,Vals.rep r k.toNat,IsTup.new _ _⟩,rfl,q _ (I.hok.fresh (Nat.le_refl _))⟩
end
end DL
namespace DL
open PySem PySem.Spec PyProof.Rows L2
@[simp] def aAdd:D2
 | .dat (.int i),.dat (.int j),m,Q=>Q (.dat (.int (i + j))) m
 | .dat (.str a),.dat (.str b),m,Q=>a.length + b.length≤sizeLine∧Q (.dat (.str (a++b))) m
 | .dat (.tuple a),.dat (.tuple b),m,Q=>a.length + b.length≤sizeLine∧Q (.dat (.tuple (a++b))) m
 | .dat (.list a),.dat (.list b),m,Q=>a.length + b.length≤sizeLine∧Q (.dat (.list (a++b))) m
 | .cel c,.dat (.list b),m,Q=>∃ a,m c=some (.l a)∧a.length + b.length≤sizeLine∧Q (.dat (.list (a++b))) m
 | _,_,_,_=>False
@[simp] def aSub:D2
 | .dat (.int i),.dat (.int j),m,Q=>Q (.dat (.int (i - j))) m
 | _,_,_,_=>False
@[simp] def aMul:D2
 | .dat (.int i),.dat (.int j),m,Q=>IntMulOk i j∧Q (.dat (.int (i * j))) m
 | .dat (.tuple a),.dat (.int k),m,Q=>a≠[]∧2≤k∧k≤100∧a.length * k.toNat≤sizeLine∧Q (.dat (.tuple (List.replicate k.toNat a).flatten)) m
 | _,_,_,_=>False
@[simp] def aDiv:D2
 | .dat (.int i),.dat (.int j),m,Q=>j≠0∧j.natAbs.log2 < 9000∧Q (.dat (.int (i.fdiv j))) m
 | _,_,_,_=>False
@[simp] def aMod:D2
 | .dat (.int i),.dat (.int j),m,Q=>j≠0∧Q (.dat (.int (i.fmod j))) m
 | _,_,_,_=>False
@[simp] def aPow:D2
 | .dat (.int i),.dat (.int j),m,Q=>(0≤j∧j≤1000000∧i.natAbs < 2 ^ 64)∧Q (.dat (.int (i ^ j.toNat))) m
 | _,_,_,_=>False
@[simp] def aLt:D2
 | .dat (.int i),.dat (.int j),m,Q=>Q (.dat (.bool (decide (i < j)))) m
 | _,_,_,_=>False
@[simp] def aGt:D2
 | .dat (.int i),.dat (.int j),m,Q=>Q (.dat (.bool (decide (j < i)))) m
 | _,_,_,_=>False
@[simp] def aEq:D2
 | .dat (.str a),.dat (.str b),m,Q=>Q (.dat (.bool (decide (a=b)))) m
 | .dat p,.dat q,m,Q=>p.canLay0=true∧q.canLay0=true∧p.depth≤100∧Q (.dat (.bool (PyData.eqv p q))) m
 | _,_,_,_=>False
@[simp] def aNe:D2
 | .dat (.str a),.dat (.str b),m,Q=>Q (.dat (.bool (!decide (a=b)))) m
 | .dat p,.dat q,m,Q=>p.canLay0=true∧q.canLay0=true∧p.depth≤100∧Q (.dat (.bool (!PyData.eqv p q))) m
 | _,_,_,_=>False
section
variable {X:Cx}
theorem RD.int {K:PySem.W.Frag} {Z:Addr→Prop} {m:Mu} {H:Hp} {i:Int} {v:V} (h:RD K Z m H (.dat (.int i)) v):v=.int i:=by simpa only [RD,RP] using h
theorem RD.ofInt {K:PySem.W.Frag} {Z:Addr→Prop} {m:Mu} {H:Hp} {i:Int}:RD K Z m H (.dat (.int i)) (.int i):=by simp only [RD,RP]
theorem RD.str {K:PySem.W.Frag} {Z:Addr→Prop} {m:Mu} {H:Hp} {i:Str} {v:V} (h:RD K Z m H (.dat (.str i)) v):v=.str i:=by simpa only [RD,RP] using h
theorem RD.ofStr {K:PySem.W.Frag} {Z:Addr→Prop} {m:Mu} {H:Hp} {i:Str}:RD K Z m H (.dat (.str i)) (.str i):=by simp only [RD,RP]
theorem zK0:OpD X (binaryOp .Sub) aSub:=by
 intro pins s σ H Z m x y dx dy v u R Q I ok rx ry r1 r2 h k
 unfold aSub at h
 split at h
 ·cases r1.int; cases r2.int
  exact zba9 pins s σ H _ _ v u Q I rx ry ⟨_,_,rfl,rfl,k _ m _ H h Ext.refl ok .ofInt⟩
 ·exact h.elim
theorem zi4:OpD X (binaryOp .Mult) aMul:=by
 intro pins s σ H Z m x y dx dy v u R Q I ok rx ry r1 r2 h k
 unfold aMul at h
 split at h
 ·cases r1.int; cases r2.int
  obtain ⟨t,rfl⟩:=rx
  obtain ⟨t',rfl⟩:=ry
  exact mul_int ⟨.int _,H,I.tok _,⟨_,rfl⟩,k _ m _ H h.2 Ext.refl ok .ofInt⟩ h.1
 ·rename_i a j
  obtain ⟨h1,h2,h3,h4,h5⟩:=h
  cases r2.int
  simp only [RD,RP] at r1
  obtain ⟨p,vs,rfl,g1,g2⟩:=r1
  cases rx
  obtain ⟨t',rfl⟩:=ry
  have hl:=g2.length
  refine zaW1 I g1 (fun e=>h1 ?_) h2 h3 (by rw [hl]; exact h4) fun t ht=>?_
  ·subst e
   cases a with
   | nil=>rfl
   | cons _ _=>simp at hl
  ·have sm:Same H (upd H t (.tup (List.replicate j.toNat vs).flatten)):=zc6 ht
   refine k _ m _ _ h5 (ok.ext sm) (ok.grow sm) ?_
   simp only [RD,RP]
   exact ⟨t,_,rfl,.inl (.inl zc5),RPs.ext (ok.ext sm) _ _ (g2.rep _)⟩
 ·exact h.elim
theorem zY9:OpD X (binaryOp .FloorDiv) aDiv:=by
 intro pins s σ H Z m x y dx dy v u R Q I ok rx ry r1 r2 h k
 unfold aDiv at h
 split at h
 ·cases r1.int; cases r2.int
  obtain ⟨t,rfl⟩:=rx
  obtain ⟨t',rfl⟩:=ry
  exact floordiv_int h.1 ⟨.int _,H,I.tok _,⟨_,rfl⟩,k _ m _ H h.2.2 Ext.refl ok .ofInt⟩ (.inl (PyProof.noPylong_of_log2 h.2.1))
 ·exact h.elim
theorem zE0:OpD X (binaryOp .Mod) aMod:=by
 intro pins s σ H Z m x y dx dy v u R Q I ok rx ry r1 r2 h k
 unfold aMod at h
 split at h
 ·cases r1.int; cases r2.int
  exact zaS9 pins s σ H _ _ v u Q I rx ry ⟨_,_,rfl,rfl,h.1,k _ m _ H h.2 Ext.refl ok .ofInt⟩
 ·exact h.elim
theorem zay3:OpD X (binaryOp .Pow) aPow:=by
 intro pins s σ H Z m x y dx dy v u R Q I ok rx ry r1 r2 h k
 unfold aPow at h
 split at h
 ·cases r1.int; cases r2.int
  exact zbe8 pins s σ H _ _ v u Q I rx ry ⟨_,_,rfl,rfl,h.1,k _ m _ H h.2 Ext.refl ok .ofInt⟩
 ·exact h.elim
theorem zaa8:OpD X (compareOp .Lt) aLt:=by
 intro pins s σ H Z m x y dx dy v u R Q I ok rx ry r1 r2 h k
 unfold aLt at h
 split at h
 ·cases r1.int; cases r2.int
  exact zbh8 pins s σ H _ _ v u Q I rx ry ⟨_,_,rfl,rfl,k _ m _ H h Ext.refl ok .ofBl⟩
 ·exact h.elim
theorem zaD7:OpD X (compareOp .Gt) aGt:=by
 intro pins s σ H Z m x y dx dy v u R Q I ok rx ry r1 r2 h k
 unfold aGt at h
 split at h
 ·cases r1.int; cases r2.int
  exact zbj4 pins s σ H _ _ v u Q I rx ry ⟨_,_,rfl,rfl,k _ m _ H h Ext.refl ok .ofBl⟩
 ·exact h.elim
theorem zr5 (hu:X.A.units + 100 < cLine):OpD X (compareOp .Eq) aEq:=by
 intro pins s σ H Z m x y dx dy v u R Q I ok rx ry r1 r2 h k
 unfold aEq at h
 split at h
 ·cases r1.str; cases r2.str
  refine zbk8 pins s σ H _ _ v u Q I rx ry ⟨rfl,?_⟩
  have e:∀ a b:Str,decide (V.str a=V.str b)=decide (a=b):=fun a b=>by
   rw [Bool.eq_iff_iff]
   simp
  rw [e]
  exact k _ m _ H h Ext.refl ok .ofBl
 ·rename_i p q hne
  obtain ⟨h1,h2,h3,h4⟩:=h
  obtain ⟨as,ra⟩:=RP.reads I p x v r1 rx
  obtain ⟨bs,rb⟩:=RP.reads I q y u r2 ry
  exact SeqAt.compareEq_reads ra rb h1 h2 (by omega) ⟨.bl _,H,I,rfl,k _ m _ H h4 Ext.refl ok .ofBl⟩
 ·exact h.elim
theorem zbb1 (hu:X.A.units + 100 < cLine):OpD X (compareOp .NotEq) aNe:=by
 intro pins s σ H Z m x y dx dy v u R Q I ok rx ry r1 r2 h k
 unfold aNe at h
 split at h
 ·cases r1.str; cases r2.str
  refine zbm8 pins s σ H _ _ v u Q I rx ry ⟨rfl,?_⟩
  have e:∀ a b:Str,decide (V.str a=V.str b)=decide (a=b):=fun a b=>by
   rw [Bool.eq_iff_iff]
   simp
  rw [e]
  exact k _ m _ H h Ext.refl ok .ofBl
 ·rename_i p q hne
  obtain ⟨h1,h2,h3,h4⟩:=h
  obtain ⟨as,ra⟩:=RP.reads I p x v r1 rx
  obtain ⟨bs,rb⟩:=RP.reads I q y u r2 ry
  exact SeqAt.compareNe_reads ra rb h1 h2 (by omega) ⟨.bl _,H,I,rfl,k _ m _ H h4 Ext.refl ok .ofBl⟩
 ·exact h.elim
theorem zaG4 {pins:List (Addr×Obj)} {s:Shared} {σ:L2.St} {H:Hp} {Q:VK} {a b:Addr} {ys:List V} (I:Inv X pins σ H s) (ha:SqT X.K H a []) (hb:SqT X.K H b ys) (q:Q (.ref b) H) :
  wpAny (model X.prog X.w) X.A (binaryOp .Add (.ref a) (.ref b)) (EP X pins σ Q) X.xe s:=by
 obtain ⟨its,r1,p1,_⟩:=I.tuple ha
 obtain ⟨its2,r2,p2,_⟩:=I.tuple hb
 cases r1
 obtain ⟨⟨cls,dd,data,sl⟩,ho,hc,n,hd⟩:=id p1
 obtain ⟨⟨cls2,dd2,data2,sl2⟩,ho2,hc2,n2,hd2⟩:=id p2
 simp only at hc hd hc2 hd2
 subst hc hd hc2 hd2
 exact concat_meets ⟨_,ho,rfl⟩ ⟨_,ho2,rfl⟩ noFill_tuple_add seq_tuple_add PySem.F.slot_tuple_add PySem.F.entry_tuple_add (PySem.F.args_tuple_add_2 _ _)
   (tuple_addW0 a b _ _ n n2 dd dd2 sl sl2 (by simp)) ⟨ho,ho2,⟨.ref b,H,I,rfl,q⟩⟩
theorem zaz5:OpR X (binaryOp .Add) (fun x y H Q=>∃ a b xs ys,x=.ref a∧y=.ref b∧SqL X.K H a xs∧SqL X.K H b ys∧xs.length + ys.length≤sizeLine∧∀ p,H p=none→Q (.ref p) (upd H p (.lst (xs++ys)))):=by
 intro pins s σ H x y v u Q I rx ry h
 obtain ⟨a,b,xs,ys,rfl,rfl,ha,hb,hz,q⟩:=h
 cases rx
 cases ry
 obtain ⟨its,r1,p1,_⟩:=I.list ha
 obtain ⟨its2,r2,p2,_⟩:=I.list hb
 obtain ⟨⟨cls,dd,data,sl⟩,ho,hc,n,hd⟩:=id p1.isList
 obtain ⟨⟨cls2,dd2,data2,sl2⟩,ho2,hc2,n2,hd2⟩:=id p2.isList
 simp only at hc hd hc2 hd2
 subst hc hd hc2 hd2
 have l1:=r1.length
 have l2:=r2.length
 have e:its.toArray++its2.toArray=(its++its2).toArray:=by simp
 refine concat_meets ⟨_,ho,rfl⟩ ⟨_,ho2,rfl⟩ noFill_list_add seq_list_add PySem.F.slot_list_add PySem.F.entry_list_add (PySem.F.args_list_add_2 _ _)
   (list_addW a b its.toArray its2.toArray n n2 dd dd2 sl sl2 (by rw [List.size_toArray,List.size_toArray]; omega)) ⟨ho,ho2,?_⟩
 rw [e]
 exact ⟨.ref s.heap.objs.size,_,I.laid (t':=s.toks) (o:=.lst (xs++ys)) (fun b ob q=>Heap.get?_push_of_some _ q) (Nat.le_refl _) ⟨by rw [List.length_append]; omega,_,0,r1.append r2,Heap.get?_push_size _ rfl⟩,rfl,q _ (I.hok.fresh (Nat.le_refl _))⟩
theorem zn2:OpD X (binaryOp .Add) aAdd:=by
 intro pins s σ H Z m x y dx dy v u R Q I ok rx ry r1 r2 h k
 unfold aAdd at h
 split at h
 ·cases r1.int; cases r2.int
  exact zaY1 pins s σ H _ _ v u Q I rx ry ⟨_,_,rfl,rfl,k _ m _ H h Ext.refl ok .ofInt⟩
 ·cases r1.str; cases r2.str
  exact zau8 pins s σ H _ _ v u Q I rx ry ⟨_,_,rfl,rfl,h.1,k _ m _ H h.2 Ext.refl ok .ofStr⟩
 ·rename_i a b
  simp only [RD,RP] at r1 r2
  obtain ⟨p,vs,rfl,h1,h2⟩:=r1
  obtain ⟨q,ws,rfl,g1,g2⟩:=r2
  have l1:=h2.length
  have l2:=g2.length
  by_cases e1:a=[]
  ·subst e1
   simp only [RPs] at h2
   subst h2
   cases rx; cases ry
   refine zaG4 I h1 g1 (k _ m _ H h.2 Ext.refl ok ?_)
   simp only [RD,RP]
   exact ⟨q,ws,rfl,g1,by simpa using g2⟩
  ·refine zaU6 pins s σ H _ _ v u Q I rx ry ⟨p,q,vs,ws,rfl,rfl,h1,g1,?_,by omega,fun e2=>?_,fun e2 t ht=>?_⟩
   ·rintro rfl
    cases a with
    | nil=>exact e1 rfl
    | cons _ _=>simp at l1
   ·subst e2
    have e3:b=[]:=by cases b with | nil=>rfl | cons _ _=>simp at l2
    subst e3
    refine k _ m _ H h.2 Ext.refl ok ?_
    simp only [RD,RP]
    exact ⟨p,vs,rfl,h1,by simpa using h2⟩
   ·have sm:Same H (upd H t (.tup (vs++ws))):=zc6 ht
    refine k _ m _ _ h.2 (ok.ext sm) (ok.grow sm) ?_
    simp only [RD,RP]
    exact ⟨t,_,rfl,.inl (.inl zc5),RPs.ext (ok.ext sm) _ _ (h2.append g2)⟩
 ·rename_i a b
  simp only [RD,RP] at r1 r2
  obtain ⟨p,vs,rfl,h0,h1,h2⟩:=r1
  obtain ⟨q,ws,rfl,g0,g1,g2⟩:=r2
  have l1:=h2.length
  have l2:=g2.length
  refine zaz5 pins s σ H _ _ v u Q I rx ry ⟨p,q,vs,ws,rfl,rfl,h1,g1,by omega,fun t ht=>?_⟩
  have sm:Same H (upd H t (.lst (vs++ws))):=zc6 ht
  refine k _ m _ _ h.2 (ok.ext sm) (ok.grow sm) ?_
  simp only [RD,RP]
  exact ⟨t,_,rfl,zn6 ok ht,.inl (.inl zc5),RPs.ext (ok.ext sm) _ _ (h2.append g2)⟩
 ·rename_i c b
  obtain ⟨aa,hm,hz,hq⟩:=h
  obtain ⟨rfl,_⟩:=r1
  obtain ⟨vs,g0,g3⟩:=ok.l hm
  simp only [RD,RP] at r2
  obtain ⟨q,ws,rfl,_,g1,g2⟩:=r2
  have l1:=g3.length
  have l2:=g2.length
  refine zaz5 pins s σ H _ _ v u Q I rx ry ⟨c,q,vs,ws,rfl,rfl,.inl (.inl g0),g1,by omega,fun t ht=>?_⟩
  have sm:Same H (upd H t (.lst (vs++ws))):=zc6 ht
  refine k _ m _ _ hq (ok.ext sm) (ok.grow sm) ?_
  simp only [RD,RP]
  exact ⟨t,_,rfl,zn6 ok ht,.inl (.inl zc5),RPs.ext (ok.ext sm) _ _ (g3.append g2)⟩
 ·exact h.elim
end
end DL
namespace DL
open PySem PySem.Spec PyProof.Rows L2
section
variable {X:Cx} {a b c e:Expr} {es:List Expr} {f g:DE} {ga:DA} {pos p2 p:Pos}
@[simp] def dNeg (f:DE):DE:=fun d m Q=>f d m fun x m1=>∃ i,x=.dat (.int i)∧Q (.dat (.int (-i))) m1
theorem zbg0 (ha:PE X a (LE X.K f)):PE X (.UnaryOp .USub a pos) (LE X.K (dNeg f)) :=
 PE.imp (zbi8 zba8 ha) fun s H Q h=>by
  obtain ⟨Z,d,m,R,ok,rs,h,k⟩:=h
  refine ⟨Z,d,m,_,ok,rs,h,fun x m1 v H1 ⟨i,e,q⟩ e1 ok1 rd=>?_⟩
  subst e
  exact ⟨i,rd.int,k _ m1 _ H1 q e1 ok1 .ofInt⟩
@[simp] def aIx:D2
 | .dat (.tuple xs),.dat (.int i),m,Q=>∃ p,atI xs i=some p∧Q (.dat p) m
 | .dat (.list xs),.dat (.int i),m,Q=>∃ p,atI xs i=some p∧Q (.dat p) m
 | .cel a,.dat (.int i),m,Q=>∃ xs p,m a=some (.l xs)∧atI xs i=some p∧Q (.dat p) m
 | .dat (.str z),.dat (.int i),m,Q=>∃ c,z.length≤sizeLine∧atI z.cps.toList i=some c∧Q (.dat (.str ⟨#[c]⟩)) m
 | _,_,_,_=>False
theorem RPs.at {K:PySem.W.Frag} {Z:Addr→Prop} {m:Mu} {H:Hp} {xs:List PyData} {vs:List V} {i:Int} {p:PyData} (h:RPs K Z m H xs vs) (e:atI xs i=some p):∃ v,atI vs i=some v∧RP K Z m H p v:=by
 unfold atI at e ⊢
 rw [h.length]
 cases q:ixN xs.length i with
 | none=>rw [q] at e; cases e
 | some j =>
  rw [q] at e
  exact h.get (i:=j) e
theorem zbi5 (ha:PE X a (LE X.K f)) (hb:PE X b (LE X.K g)) (hs:zal6 b:=by exact fun _ _=>rfl):PE X (.Subscript a b pos) (LE X.K (dBin aIx f g)) :=
 PE.imp (zbj6 zbe4 ha hb hs) fun s H Q h=>by
  obtain ⟨Z,d,m,R,ok,rs,h,k⟩:=h
  refine ⟨Z,d,m,_,ok,rs,h,fun x m1 v H1 q e1 ok1 rx=>⟨Z,d,m1,_,ok1,rs.ext e1,q,fun y m2 w H2 q2 e2 ok2 ry=>?_⟩⟩
  have rx2:=rx.ext e2
  have e12:=e1.trans e2
  unfold aIx at q2
  split at q2
  ·obtain ⟨p,ep,q⟩:=q2
   cases ry.int
   simp only [RD,RP] at rx2
   obtain ⟨a,vs,rfl,h1,h2⟩:=rx2
   obtain ⟨z,ez,rz⟩:=h2.at ep
   exact .inr (.inl ⟨a,vs,_,z,rfl,rfl,h1,ez,k _ m2 z H2 q e12 ok2 rz⟩)
  ·obtain ⟨p,ep,q⟩:=q2
   cases ry.int
   simp only [RD,RP] at rx2
   obtain ⟨a,vs,rfl,_,h1,h2⟩:=rx2
   obtain ⟨z,ez,rz⟩:=h2.at ep
   exact .inl ⟨a,vs,_,z,rfl,rfl,h1,ez,k _ m2 z H2 q e12 ok2 rz⟩
  ·obtain ⟨xs,p,hm,ep,q⟩:=q2
   cases ry.int
   obtain ⟨rfl,_⟩:=rx2
   obtain ⟨vs,h1,h2⟩:=ok2.l hm
   obtain ⟨z,ez,rz⟩:=h2.at ep
   exact .inl ⟨_,vs,_,z,rfl,rfl,.inl (.inl h1),ez,k _ m2 z H2 q e12 ok2 rz⟩
  ·obtain ⟨c,hz,ec,q⟩:=q2
   cases ry.int
   cases rx2.str
   exact .inr (.inr ⟨_,_,c,rfl,rfl,hz,ec,k _ m2 _ H2 q e12 ok2 .ofStr⟩)
  ·exact q2.elim
abbrev DO:=St2→Mu→(Option Int→Mu→Prop)→Prop
def LO (K:PySem.W.Frag) (f:DO):TO:=fun s H Q=>∃ (Z:Addr→Prop) (d:St2) (m:Mu) (R:Option Int→Mu→Prop),Ok K Z m H∧RS K Z m H d s∧f d m R ∧
 ∀ x m' H',R x m'→Ext K Z m H m' H'→Ok K Z m' H'→Q x H'
@[simp] def dNoP:DO:=fun _ m Q=>Q none m
@[simp] def zaI3 (f:DE):DO:=fun d m Q=>f d m fun x m1=>∃ i,x=.dat (.int i)∧Q (some i) m1
theorem PO.imp {e:Option Expr} {t t':TO} (h:PO X e t) (q:∀ s H Q,t' s H Q→t s H Q):PO X e t':=fun pins s d H Q I w=>h pins s d H Q I (q _ _ _ w)
theorem zaV3:PO X none (LO X.K dNoP):=PO.imp zaW6 fun s H Q h=>by
 obtain ⟨Z,d,m,R,ok,rs,h,k⟩:=h
 exact k none m H h Ext.refl ok
theorem zaQ9 (ha:PE X a (LE X.K f)):PO X (some a) (LO X.K (zaI3 f)):=PO.imp (zaW4 ha) fun s H Q h=>by
 obtain ⟨Z,d,m,R,ok,rs,h,k⟩:=h
 refine ⟨Z,d,m,_,ok,rs,h,fun x m1 v H1 ⟨i,e,q⟩ e1 ok1 rd=>?_⟩
 subst e
 exact ⟨i,rd.int,k _ m1 H1 q e1 ok1⟩
def cutP {α:Type} (xs:List α) (lo hi:Option Int):List α:=(xs.drop (HT.sIx xs.length 0 lo)).take (HT.sIx xs.length xs.length hi - HT.sIx xs.length 0 lo)
theorem RPs.cut {K:PySem.W.Frag} {Z:Addr→Prop} {m:Mu} {H:Hp} {xs:List PyData} {vs:List V} {lo hi:Option Int} (h:RPs K Z m H xs vs):RPs K Z m H (cutP xs lo hi) (cutV vs lo hi):=by
 unfold cutP cutV
 rw [h.length]
 exact (h.drop _).take _
theorem zag6 {α:Type} (xs:List α) {lo hi:Option Int} (h:HT.sIx xs.length 0 lo=0∧HT.sIx xs.length xs.length hi=xs.length):cutP xs lo hi=xs:=by
 unfold cutP
 rw [h.1,h.2]
 simp
def rSlW (K:PySem.W.Frag):V→Option Int→Option Int→Hp→VK→Prop:=fun x lo hi H Q=>∃ a xs,x=.ref a∧SqT K H a xs ∧
 (HT.sIx xs.length 0 lo=0∧HT.sIx xs.length xs.length hi=xs.length)∧Q (.ref a) H
theorem zI5 {prog:Program} {w:World} {A:Around} {E:Value→Shared→Prop} {s:Shared} {t sl:Addr} {items:Array Value} {vl vu:Value} {lo hi:Option Int} {Q:Value→Shared→Prop} (ht:IsTup s.heap t items) (hs:s.heap.IsSliceOf sl vl vu .none) (pl:IsPart vl lo) (pu:IsPart vu hi)
  (hw:HT.sIx items.size 0 lo=0∧HT.sIx items.size items.size hi=items.size)
  (h:Q (.ref t) s):wpAny (model prog w) A (getItem (.ref t) (.ref sl)) Q E s:=by
 obtain ⟨os,hos,hcs,hds⟩:=id hs
 have hTs:s.TypeIs (.ref sl) "slice":=⟨os,hos,hcs⟩
 unfold getItem
 try with_reducible refine wpAny_holding ?_
 first | refine wpAny_bind (wpAny_pure ?_) | skip
 refine wpAny_bind (wpAny_sequenceKey ht.typeIs (by decide) ?_)
 refine wpAny_bind (wpAny_callSpecial?_slot (name:=Str.ofString "__getitem__") ht.typeIs PyProof.Rows.slot_tuple_getitem
  (wpAny_call_entry PyProof.Rows.slot_tuple_getitem ht.typeIs entry_tuple_getitem ?_ (args_tuple_getitem _ _)))
 show wpAny _ _ (Builtin.Tuple.tupleItemsOf (.ref t)>>=_) _ _ s
 refine wpAny_bind (tupleItemsOf_ ht ?_)
 refine wpAny_bind (wpAny_typeOf hTs ?_)
 rw [if_pos (by decide)]
 refine wpAny_bind (HT.sliceApplied_gen hs pl pu ?_)
 have hyes:(((HT.sIx items.size 0 lo:Nat):Int) == 0 && (1:Int) == 1 && (HT.sIx items.size items.size hi - HT.sIx items.size 0 lo) == items.size)=true:=by
  rw [hw.1,hw.2]
  simp
 show wpAny _ _ (if (((HT.sIx items.size 0 lo:Nat):Int) == 0 && (1:Int) == 1 && (HT.sIx items.size items.size hi - HT.sIx items.size 0 lo) == items.size)=true then _ else _) _ _ s
 rw [if_pos hyes]
 refine wpAny_bind ?_
 unfold Builtin.Tuple.tupleIsExact
 refine wpAny_bind (wpAny_typeOf ht.typeIs (wpAny_pure ?_))
 rw [if_pos (by decide)]
 first
  | exact wpAny_bind (wpAny_rule (wpAny_pure ⟨_,rfl,wpAny_pure h⟩))
  | exact wpAny_bind (wpAny_rule (wpAny_bind (wpAny_pure (wpAny_pure ⟨_,rfl,wpAny_pure h⟩))))
theorem zaI8:SlR X (rSlW X.K):=by
 intro pins s σ H x v vl vu lo hi sl Q I rx hs pl pu h
 obtain ⟨a,xs,rfl,hx,hw,q⟩:=h
 cases rx
 obtain ⟨its,r,ht,hz⟩:=I.tuple hx
 have hlen:its.toArray.size=xs.length:=by rw [List.size_toArray]; exact r.length.symm
 refine ⟨"tuple",_,PyProof.Rows.slot_tuple_getitem.lookup,ht.typeIs,?_⟩
 exact zI5 ht hs pl pu (by rw [hlen]; exact hw) ⟨.ref a,H,I,rfl,q⟩
abbrev DC:=List D→Mu→DK→Prop
def CallD (X:Cx) (fn:Value) (r:DC):Prop :=
 ∀ (pins:List (Addr×Obj)) (s:Shared) (σ:L2.St) (H:Hp) (Z:Addr→Prop) (m:Mu) (xs:List V) (ds:List D) (us:List Value) (R:DK) (Q:VK),Inv X pins σ H s→Ok X.K Z m H→Vals xs us→RDs X.K Z m H ds xs→r ds m R →
  (∀ d m' v' H',R d m'→Ext X.K Z m H m' H'→Ok X.K Z m' H'→RD X.K Z m' H' d v'→Q v' H')→wpAny (model X.prog X.w) X.A (call fn us) (EP X pins σ Q) X.xe s
theorem CallD.cr {fn:Value} {r:DC} (h:CallD X fn r):CallR X fn (fun vs H Q=>∃ Z m ds R,Ok X.K Z m H∧RDs X.K Z m H ds vs∧r ds m R∧∀ d m' v' H',R d m'→Ext X.K Z m H m' H'→Ok X.K Z m' H'→RD X.K Z m' H' d v'→Q v' H'):=by
 intro pins s σ H xs us Q I r1 ⟨Z,m,ds,R,ok,rd,q,k⟩
 exact h pins s σ H Z m xs ds us R Q I ok r1 rd q k
@[simp] def zd6 (r:DC) (g:DA):DE:=fun d m Q=>g d m fun xs m1=>r xs m1 Q
theorem LE.call {r:DC} {H:Hp} {σ:L2.St} {Q:VK} (h:LE X.K (zd6 r ga) σ H Q) :
  LA X.K ga σ H fun vs H1=>∃ Z m ds R,Ok X.K Z m H1∧RDs X.K Z m H1 ds vs∧r ds m R∧∀ d m' v' H',R d m'→Ext X.K Z m H1 m' H'→Ok X.K Z m' H'→RD X.K Z m' H' d v'→Q v' H':=by
 obtain ⟨Z,d,m,R,ok,rs,h,k⟩:=h
 exact ⟨Z,d,m,_,ok,rs,h,fun xs m1 vs H1 q e1 ok1 r1=>⟨Z,m1,xs,R,ok1,r1,q,fun d' m' v' H' h1 h2 h3 h4=>k d' m' v' H' h1 (e1.trans h2) h3 h4⟩⟩
theorem zaJ9 {x:Str} {id:String} {r:DC} (hc:CallD X (.builtin id) r) (hg:Gl X x) (hm:X.mg x=none) (hv:bootBuiltins x=some (.builtin id)) (ha:PA X (e :: es) (LA X.K ga)) (hn:x≠"__name__":=by decide) (hdb:(x == ("__debug__" : Str))=false:=by decide)
  (he:starEach (e :: es) X.env=(false,eval e X.env) :: starEach es X.env:=by rfl) (hpl:(backTo pos (starEach es X.env)).any (·.1)=false:=by rfl):PE X (.Call (.Name x p) (e :: es) [] pos) (LE X.K (zd6 r ga)) :=
 PE.imp (zas8 hc.cr hg hm hv ha hn hdb he hpl) fun s H Q h=>h.call
theorem zaB6 {x:Str} {T:String} {r:DC} (hc:CallD X (.type T) r) (hg:Gl X x) (hm:X.mg x=none) (hv:bootBuiltins x=some (.type T)) (ha:PA X (e :: es) (LA X.K ga)) (hn:x≠"__name__":=by decide) (hdb:(x == ("__debug__" : Str))=false:=by decide)
  (he:starEach (e :: es) X.env=(false,eval e X.env) :: starEach es X.env:=by rfl) (hpl:(backTo pos (starEach es X.env)).any (·.1)=false:=by rfl):PE X (.Call (.Name x p) (e :: es) [] pos) (LE X.K (zd6 r ga)) :=
 PE.imp (zaE5 hc.cr hg hm hv ha hn hdb he hpl) fun s H Q h=>h.call
theorem RDs.one {K:PySem.W.Frag} {Z:Addr→Prop} {m:Mu} {H:Hp} {x:D} {vs:List V} (h:RDs K Z m H [x] vs):∃ v,vs=[v]∧RD K Z m H x v:=by
 obtain ⟨v,r,h1,h2,h3⟩:=h
 cases (show r=[] from h3)
 exact ⟨v,h1,h2⟩
theorem RDs.two {K:PySem.W.Frag} {Z:Addr→Prop} {m:Mu} {H:Hp} {x y:D} {vs:List V} (h:RDs K Z m H [x,y] vs):∃ v w,vs=[v,w]∧RD K Z m H x v∧RD K Z m H y w:=by
 obtain ⟨v,r,h1,h2,h3⟩:=h
 obtain ⟨w,rfl,h4⟩:=RDs.one h3
 exact ⟨v,w,h1,h2,h4⟩
@[simp] def bLen:DC
 | [.dat (.tuple xs)],m,Q=>Q (.dat (.int xs.length)) m
 | [.dat (.list xs)],m,Q=>Q (.dat (.int xs.length)) m
 | [.dat (.str z)],m,Q=>z.length≤sizeLine∧Q (.dat (.int z.length)) m
 | [.cel a],m,Q=>∃ xs,m a=some (.l xs)∧Q (.dat (.int xs.length)) m
 | _,_,_=>False
theorem zH3:CallD X (.builtin "len") bLen:=by
 intro pins s σ H Z m xs ds us R Q I ok rv rd h k
 unfold bLen at h
 split at h
 ·obtain ⟨v,rfl,r1⟩:=rd.one
  simp only [RD,RP] at r1
  obtain ⟨a,vs,rfl,h1,h2⟩:=r1
  refine zC8 pins s σ H _ us Q I rv ⟨a,vs,rfl,.inr h1,?_⟩
  rw [h2.length]
  exact k _ m _ H h Ext.refl ok .ofInt
 ·obtain ⟨v,rfl,r1⟩:=rd.one
  simp only [RD,RP] at r1
  obtain ⟨a,vs,rfl,_,h1,h2⟩:=r1
  refine zC8 pins s σ H _ us Q I rv ⟨a,vs,rfl,.inl h1,?_⟩
  rw [h2.length]
  exact k _ m _ H h Ext.refl ok .ofInt
 ·obtain ⟨v,rfl,r1⟩:=rd.one
  cases r1.str
  exact zah7 pins s σ H _ us Q I rv ⟨_,rfl,h.1,k _ m _ H h.2 Ext.refl ok .ofInt⟩
 ·obtain ⟨v,rfl,r1⟩:=rd.one
  obtain ⟨rfl,_⟩:=r1
  obtain ⟨ys,hm,q⟩:=h
  obtain ⟨vs,h1,h2⟩:=ok.l hm
  refine zC8 pins s σ H _ us Q I rv ⟨_,vs,rfl,.inl (.inl (.inl h1)),?_⟩
  rw [h2.length]
  exact k _ m _ H q Ext.refl ok .ofInt
 ·exact h.elim
@[simp] def bAbs:DC
 | [.dat (.int i)],m,Q=>Q (.dat (.int (if i < 0 then -i else i))) m
 | _,_,_=>False
theorem zaO5:CallD X (.builtin "abs") bAbs:=by
 intro pins s σ H Z m xs ds us R Q I ok rv rd h k
 unfold bAbs at h
 split at h
 ·obtain ⟨v,rfl,r1⟩:=rd.one
  cases r1.int
  exact zaG0 pins s σ H _ us Q I rv ⟨_,rfl,k _ m _ H h Ext.refl ok .ofInt⟩
 ·exact h.elim
@[simp] def bInt:DC
 | [.dat (.int i)],m,Q=>Q (.dat (.int i)) m
 | [.dat (.bool b)],m,Q=>Q (.dat (.int (if b then 1 else 0))) m
 | _,_,_=>False
theorem zaa4:CallD X (.type "int") bInt:=by
 intro pins s σ H Z m xs ds us R Q I ok rv rd h k
 unfold bInt at h
 split at h
 ·obtain ⟨v,rfl,r1⟩:=rd.one
  cases r1.int
  exact zag8 pins s σ H _ us Q I rv (.inl ⟨_,rfl,k _ m _ H h Ext.refl ok .ofInt⟩)
 ·obtain ⟨v,rfl,r1⟩:=rd.one
  cases r1.bl
  exact zag8 pins s σ H _ us Q I rv (.inr ⟨_,rfl,k _ m _ H h Ext.refl ok .ofInt⟩)
 ·exact h.elim
@[simp] def zaL9:DC
 | [.dat (.tuple xs)],m,Q=>Q (.dat (.list xs)) m
 | [.dat (.list xs)],m,Q=>Q (.dat (.list xs)) m
 | _,_,_=>False
theorem zaA5:CallD X (.type "list") zaL9:=by
 intro pins s σ H Z m xs ds us R Q I ok rv rd h k
 unfold zaL9 at h
 split at h
 ·obtain ⟨v,rfl,r1⟩:=rd.one
  simp only [RD,RP] at r1
  obtain ⟨a,vs,rfl,h1,h2⟩:=r1
  refine zQ5 pins s σ H _ us Q I rv ⟨a,vs,rfl,.inr h1,fun l hl=>?_⟩
  have sm:Same H (upd H l (.lst vs)):=zc6 hl
  refine k _ m _ _ h (ok.ext sm) (ok.grow sm) ?_
  simp only [RD,RP]
  exact ⟨l,vs,rfl,zn6 ok hl,.inl (.inl zc5),RPs.ext (ok.ext sm) _ _ h2⟩
 ·obtain ⟨v,rfl,r1⟩:=rd.one
  simp only [RD,RP] at r1
  obtain ⟨a,vs,rfl,_,h1,h2⟩:=r1
  refine zQ5 pins s σ H _ us Q I rv ⟨a,vs,rfl,.inl h1,fun l hl=>?_⟩
  have sm:Same H (upd H l (.lst vs)):=zc6 hl
  refine k _ m _ _ h (ok.ext sm) (ok.grow sm) ?_
  simp only [RD,RP]
  exact ⟨l,vs,rfl,zn6 ok hl,.inl (.inl zc5),RPs.ext (ok.ext sm) _ _ h2⟩
 ·exact h.elim
@[simp] def zav1:DC
 | [.dat p],m,Q=>p.showable=true∧p.shown.length≤sizeLine∧p.depth≤100∧Q (.dat (.str p.shown)) m
 | _,_,_=>False
theorem zab9 (hu:X.A.units + 200 < cLine) (hg:X.A.guards=some []):CallD X (.builtin "repr") zav1:=by
 intro pins s σ H Z m xs ds us R Q I ok rv rd h k
 unfold zav1 at h
 split at h
 ·rename_i p
  obtain ⟨v,rfl,r1⟩:=rd.one
  obtain ⟨u,rfl,ru⟩:=zS0 rv
  obtain ⟨h1,h2,h3,h4⟩:=h
  have fin:∀ (tk tk':Nat),EP X pins σ Q (.str p.shown tk) { s with toks:=tk' }:=fun tk tk'=>⟨.str p.shown,H,I.tok _,⟨_,rfl⟩,k _ m _ H h4 Ext.refl ok .ofStr⟩
  obtain ⟨as,rd⟩:=RP.reads I p v u r1 ru
  have nd:=RP.noDict X.K p v r1
  cases rd with
  | none=>exact PySem.P.repr_of_none (fin _ _)
  | bool b=>exact PySem.P.repr_of_bool (by simpa only [PyData.shown] using fin _ _)
  | int i t=>exact PySem.P.repr_of_int (by simpa [PyData.showable] using h1) (by simpa only [PyData.shown] using fin _ _)
  | str x t=>exact PySem.P.repr_of_str (by simpa only [PyData.shown] using fin _ _) (by simpa only [PyData.shown] using h2)
  | list q1 q2 q3 q4 =>
   refine repr_of_reads' (.list q1 q2 q3 q4) h1 (PyData.noDict_hsm nd) hg (by omega) (fun _ _ e=>e) (fun h' u tk kp=>⟨.str _,H,I.kept kp,⟨_,rfl⟩,k _ m _ H h4 Ext.refl ok .ofStr⟩) h2
  | tuple q1 q2 q3 q4 =>
   refine repr_of_reads' (.tuple q1 q2 q3 q4) h1 (PyData.noDict_hsm nd) hg (by omega) (fun _ _ e=>e) (fun h' u tk kp=>⟨.str _,H,I.kept kp,⟨_,rfl⟩,k _ m _ H h4 Ext.refl ok .ofStr⟩) h2
  | dict q1 q2 q3 q4 q5=>simp only [PyData.hasDict] at nd; cases nd
 ·exact h.elim
end
end DL
namespace DL
open PySem PySem.Spec PyProof.Rows L2
section
variable {X:Cx} {st:Stmt} {rest body orelse:List Stmt} {t u b:DS} {e c tg iter:Expr} {f:DE} {tc:DT} {pos:Pos}
@[simp] def zb9:DS:=fun E d m=>E.nx d m
@[simp] def dSeq (t u:DS):DS:=fun E d m=>t { E with nx:=u E } d m
theorem zaR5:PSs X [] (LS X.K zb9):=PSs.imp zaT8 fun E s H h=>by
 obtain ⟨Z,d,m,R,ok,rs,h,k,_⟩:=h
 exact k d m s H h Ext.refl ok rs
theorem zaJ8 (h1:PS X st (LS X.K t)) (h2:PSs X rest (LS X.K u)):PSs X (st :: rest) (LS X.K (dSeq t u)):=PSs.imp (zaL8 h1 h2) fun E s H h=>by
 obtain ⟨Z,d,m,R,ok,rs,h,kn,kr,kb,kc⟩:=h
 refine ⟨Z,d,m,_,ok,rs,h,fun d' m' s' H' q e1 ok1 rs1=>⟨Z,d',m',R,ok1,rs1,q,?_,?_,?_,?_⟩,kr,kb,kc⟩
 ·exact fun d2 m2 s2 H2 q2 e2 ok2 rs2=>kn d2 m2 s2 H2 q2 (e1.trans e2) ok2 rs2
 ·exact fun x m2 v H2 q2 e2 ok2 r2=>kr x m2 v H2 q2 (e1.trans e2) ok2 r2
 ·exact fun d2 m2 s2 H2 q2 e2 ok2 rs2=>kb d2 m2 s2 H2 q2 (e1.trans e2) ok2 rs2
 ·exact fun d2 m2 s2 H2 q2 e2 ok2 rs2=>kc d2 m2 s2 H2 q2 (e1.trans e2) ok2 rs2
@[simp] def zaf9 (f:DE):DS:=fun E d m=>f d m fun _ m1=>E.nx d m1
theorem zaQ7 (he:PE X e (LE X.K f)) (hs:swapsWith e none pos.line X.env=pure false:=by rfl):PS X (.Expr e pos) (LS X.K (zaf9 f)):=PS.imp (zaP0 he hs) fun E s H h=>by
 obtain ⟨Z,d,m,R,ok,rs,h,k,_⟩:=h
 exact ⟨Z,d,m,_,ok,rs,h,fun x m1 v H1 q e1 ok1 r1=>k d m1 s H1 q e1 ok1 (rs.ext e1)⟩
@[simp] def dRet (f:DE):DS:=fun E d m=>f d m E.rt
theorem zaY9 (he:PE X e (LE X.K f)):PS X (.Return (some e) pos) (LS X.K (dRet f)):=PS.imp (zbh2 he) fun E s H h=>by
 obtain ⟨Z,d,m,R,ok,rs,h,_,kr,_⟩:=h
 exact ⟨Z,d,m,_,ok,rs,h,fun x m1 v H1 q e1 ok1 r1=>kr x m1 v H1 q e1 ok1 r1⟩
@[simp] def dIf (c:DT) (t u:DS):DS:=fun E d m=>c d m fun k m1=>if k=true then t E d m1 else u E d m1
theorem zbl6 (hc:PT X c (LT X.K tc)) (h1:PSs X body (LS X.K t)) (h2:PSs X orelse (LS X.K u)):PS X (.If c body orelse pos) (LS X.K (dIf tc t u)):=PS.imp (zbj7 hc h1 h2) fun E s H h=>by
 obtain ⟨Z,d,m,R,ok,rs,h,kn,kr,kb,kc⟩:=h
 refine ⟨Z,d,m,_,ok,rs,h,fun k m1 H1 q e1 ok1=>?_⟩
 have mk:∀ {z:DS},z R d m1→LS X.K z E s H1:=fun q=>⟨Z,d,m1,R,ok1,rs.ext e1,q,
  fun d2 m2 s2 H2 q2 e2 ok2 rs2=>kn d2 m2 s2 H2 q2 (e1.trans e2) ok2 rs2,fun x m2 v H2 q2 e2 ok2 r2=>kr x m2 v H2 q2 (e1.trans e2) ok2 r2,
  fun d2 m2 s2 H2 q2 e2 ok2 rs2=>kb d2 m2 s2 H2 q2 (e1.trans e2) ok2 rs2,fun d2 m2 s2 H2 q2 e2 ok2 rs2=>kc d2 m2 s2 H2 q2 (e1.trans e2) ok2 rs2⟩
 cases k with
 | true=>exact iteT (mk (by simpa using q))
 | false=>exact iteF (mk (by simpa using q))
@[simp] def dSet (i:Nat) (f:DE):DS:=fun E d m=>f d m fun x m1=>E.nx (d.set i (some x)) m1
theorem zbf4 (i:Nat) {x:Str} {pos':Pos} (hN:X.N.Nodup) (he:PE X e (LE X.K f)) (hi:X.N[i]?=some x:=by rfl) (hx:Loc X.env.scope x:=by first | exact Or.inl rfl | exact Or.inr rfl)
  (hs:swapsWith e (some (.Name x pos')) pos.line X.env=pure false:=by rfl) (hf:X.fn x=true∨X.env.scope.names.lookup x=some .local:=by first | exact .inl rfl | exact .inr rfl) :
  PS X (.Assign [.Name x pos'] e pos) (LS X.K (dSet i f)):=PS.imp (zbc5 hN hi hx he hs hf) fun E s H h=>by
 obtain ⟨Z,d,m,R,ok,rs,h,k,_⟩:=h
 exact ⟨Z,d,m,_,ok,rs,h,fun x m1 v H1 q e1 ok1 r1=>k _ m1 _ H1 q e1 ok1 ((rs.ext e1).set r1)⟩
abbrev DG:=D→St2→Mu→(St2→Mu→Prop)→Prop
abbrev DGs:=List PyData→St2→Mu→(St2→Mu→Prop)→Prop
def LG (K:PySem.W.Frag) (g:DG):TG:=fun v s H Q=>∃ Z x d m R,Ok K Z m H∧RS K Z m H d s∧RD K Z m H x v∧g x d m R∧∀ d' m' s' H',R d' m'→Ext K Z m H m' H'→Ok K Z m' H'→RS K Z m' H' d' s'→Q s' H'
def LGs (K:PySem.W.Frag) (g:DGs):TGs:=fun vs s H Q=>∃ Z ps d m R,Ok K Z m H∧RS K Z m H d s∧RPs K Z m H ps vs∧g ps d m R∧∀ d' m' s' H',R d' m'→Ext K Z m H m' H'→Ok K Z m' H'→RS K Z m' H' d' s'→Q s' H'
theorem PG.imp {t t':TG} (h:PG X e t) (q:∀ v s H Q,t' v s H Q→t v s H Q):PG X e t':=fun pins s d H v u Q I r w=>h pins s d H v u Q I r (q _ _ _ _ w)
theorem PGs.imp {es:List Expr} {t t':TGs} (h:PGs X es t) (q:∀ v s H Q,t' v s H Q→t v s H Q):PGs X es t':=fun pins s d H v u Q I r w=>h pins s d H v u Q I r (q _ _ _ _ w)
@[simp] def gN (i:Nat):DG:=fun x d m Q=>Q (d.set i (some x)) m
theorem zaU9 (i:Nat) {x:Str} (hN:X.N.Nodup) (hi:X.N[i]?=some x:=by rfl) (hx:Loc X.env.scope x:=by first | exact Or.inl rfl | exact Or.inr rfl)
  (hf:X.fn x=true∨X.env.scope.names.lookup x=some .local:=by first | exact .inl rfl | exact .inr rfl):PG X (.Name x pos) (LG X.K (gN i)):=PG.imp (zaR2 hN hi hx hf) fun v s H Q h=>by
 obtain ⟨Z,x,d,m,R,ok,rs,rd,h,k⟩:=h
 exact k _ m _ H h Ext.refl ok (rs.set rd)
@[simp] def gN0:DGs:=fun ps d m Q=>ps=[]∧Q d m
@[simp] def gNs (g:DG) (r:DGs):DGs
 | p :: qs,d,m,Q=>g (.dat p) d m fun d' m'=>r qs d' m' Q
 | [],_,_,_=>False
theorem zaU4:PGs X [] (LGs X.K gN0):=PGs.imp zaT1 fun vs s H Q h=>by
 obtain ⟨Z,ps,d,m,R,ok,rs,rp,⟨rfl,h⟩,k⟩:=h
 simp only [RPs] at rp
 exact ⟨rp,k d m s H h Ext.refl ok rs⟩
theorem zaK7 {es:List Expr} {g:DG} {r:DGs} (h1:PG X e (LG X.K g)) (h2:PGs X es (LGs X.K r)) (hs:(assignEach (e :: es) X.env).map (·.2)=assign e X.env :: (assignEach es X.env).map (·.2):=by rfl) :
  PGs X (e :: es) (LGs X.K (gNs g r)):=PGs.imp (zaG8 h1 h2 hs) fun vs s H Q h=>by
 obtain ⟨Z,ps,d,m,R,ok,rs,rp,h,k⟩:=h
 match ps,rp,h with
 | [],_,h=>exact h.elim
 | p :: qs,rp,h =>
 simp only [RPs] at rp
 obtain ⟨v,w,rfl,r1,r2⟩:=rp
 exact ⟨v,w,rfl,Z,.dat p,d,m,_,ok,rs,r1,h,fun d' m' s' H' q e1 ok1 rs1=>⟨Z,qs,d',m',R,ok1,rs1,RPs.ext e1 _ _ r2,q,fun d2 m2 s2 H2 q2 e2 ok2 rs2=>k d2 m2 s2 H2 q2 (e1.trans e2) ok2 rs2⟩⟩
@[simp] def gT (n:Nat) (g:DGs):DG:=fun x d m Q=>∃ ps,x=.dat (.tuple ps)∧ps.length=n∧g ps d m Q
theorem zba0 {es:List Expr} {j n:Nat} {g:DGs} (hc:X.calm=true) (h:PGs X es (LGs X.K g)) (hn:(assignEach es X.env).length=n:=by rfl) (hst:(assignEach es X.env).findIdx? (·.1)=none:=by rfl) :
  PG X (.Tuple es j pos) (LG X.K (gT n g)):=PG.imp (zbg2 hc h hn hst) fun v s H Q h=>by
 obtain ⟨Z,x,d,m,R,ok,rs,rd,⟨ps,rfl,hl,h⟩,k⟩:=h
 simp only [RD,RP] at rd
 obtain ⟨a,vs,rfl,h1,h2⟩:=rd
 exact ⟨a,vs,rfl,h1,by rw [h2.length]; exact hl,Z,ps,d,m,R,ok,rs,h2,h,k⟩
@[simp] def dAsg (f:DE) (g:DG):DS:=fun E d m=>f d m fun x m1=>g x d m1 E.nx
theorem zaY3 {g:DG} (he:PE X e (LE X.K f)) (hg:PG X tg (LG X.K g)) (hs:swapsWithSole [tg] e pos.line X.env=pure false:=by rfl) (hw:swappedStores [tg] e X.env=pure none:=by rfl)
  (h1:(assignEach [tg] X.env).map (·.2)=[assign tg X.env]:=by rfl):PS X (.Assign [tg] e pos) (LS X.K (dAsg f g)):=PS.imp (zaN0 he hg hs hw h1) fun E s H h=>by
 obtain ⟨Z,d,m,R,ok,rs,h,k,_⟩:=h
 exact ⟨Z,d,m,_,ok,rs,h,fun x m1 v H1 q e1 ok1 r1=>⟨Z,x,d,m1,_,ok1,rs.ext e1,r1,q,fun d2 m2 s2 H2 q2 e2 ok2 rs2=>k d2 m2 s2 H2 q2 (e1.trans e2) ok2 rs2⟩⟩
@[simp] def dPar (i j:Nat) (g:DA):DS:=fun E d m=>g d m fun xs m1=>∃ x y,xs=[x,y]∧E.nx ((d.set i (some x)).set j (some y)) m1
theorem zba6 (i j:Nat) {x y:Str} {a b:Expr} {g:DA} {px py pt:Pos} {kt k2 pt2} (hc:X.calm=true) (hN:X.N.Nodup) (ha:PA X [a,b] (LA X.K g)) (hi:X.N[i]?=some x:=by rfl) (hj:X.N[j]?=some y:=by rfl) (hij:i≠j:=by decide)
  (hx:X.env.scope.names.lookup x=some .local:=by rfl) (hy:X.env.scope.names.lookup y=some .local:=by rfl)
  (hw:swappedStores [.Tuple [.Name x px,.Name y py] kt pt] (.Tuple [a,b] k2 pt2) X.env=pure (some [x,y]):=by rfl)
  (hs:swapsWithSole [.Tuple [.Name x px,.Name y py] kt pt] (.Tuple [a,b] k2 pt2) pos.line X.env=pure false:=by rfl) :
  PS X (.Assign [.Tuple [.Name x px,.Name y py] kt pt] (.Tuple [a,b] k2 pt2) pos) (LS X.K (dPar i j g)):=PS.imp (zba2 hc hN hi hj hij hx hy ha hw hs) fun E s H h=>by
 obtain ⟨Z,d,m,R,ok,rs,h,k,_⟩:=h
 refine ⟨Z,d,m,_,ok,rs,h,fun xs m1 vs H1 ⟨x,y,e,q⟩ e1 ok1 r1=>?_⟩
 subst e
 obtain ⟨v,w,rfl,r1,r2⟩:=r1.two
 exact ⟨v,w,rfl,k _ m1 _ H1 q e1 ok1 (((rs.ext e1).set r1).set r2)⟩
@[simp] def dPut (fo fi f:DE):DS:=fun E d m=>f d m fun x m1=>fo d m1 fun o m2=>fi d m2 fun i m3 =>
 ∃ a k xs j p,o=.cel a∧i=.dat (.int k)∧x=.dat p∧m3 a=some (.l xs)∧ixN xs.length k=some j∧E.nx d (updM m3 a (.l (xs.set j p)))
theorem zbd9 {o i:Expr} {fo fi:DE} {tpos:Pos} (he:PE X e (LE X.K f)) (ho:PE X o (LE X.K fo)) (hi:PE X i (LE X.K fi))
  (ha:∀ v,assign (.Subscript o i tpos) X.env v=(do
   let ov ← holding [v] (eval o X.env)
   let iv ← holding [v,ov] (eval i X.env)
   standAt tpos
   holding [v,ov,iv] (setItem ov iv v)
   release [v,ov,iv] []):=by intro _; rfl)
  (hs:swapsWithSole [.Subscript o i tpos] e pos.line X.env=pure false:=by rfl) (hw:swappedStores [.Subscript o i tpos] e X.env=pure none:=by rfl)
  (h1:(assignEach [.Subscript o i tpos] X.env).map (·.2)=[assign (.Subscript o i tpos) X.env]:=by rfl):PS X (.Assign [.Subscript o i tpos] e pos) (LS X.K (dPut fo fi f)) :=
 PS.imp (zaN0 he (zbg1 ho hi zaL3 ha) hs hw h1) fun E s H h=>by
 obtain ⟨Z,d,m,R,ok,rs,h,k,_⟩:=h
 refine ⟨Z,d,m,_,ok,rs,h,fun x m1 v H1 q e1 ok1 r1=>⟨Z,d,m1,_,ok1,rs.ext e1,q,fun o m2 w H2 q2 e2 ok2 r2=>⟨Z,d,m2,_,ok2,(rs.ext e1).ext e2,q2,fun i m3 z H3 q3 e3 ok3 r3=>?_⟩⟩⟩
 obtain ⟨a,k',xs,j,p,rfl,rfl,rfl,hm,hj,q⟩:=q3
 cases r3.int
 obtain ⟨rfl,_⟩:=r2.ext e3
 obtain ⟨vs,g1,g2⟩:=ok3.l hm
 have r1':=r1.ext (e2.trans e3)
 refine ⟨a,vs,k',j,rfl,rfl,g1,by rw [g2.length]; exact hj,?_⟩
 have e4:Ext X.K Z m3 H3 (updM m3 a (.l (xs.set j p))) (upd H3 a (.lst (vs.set j v))):=Ext.put ok3 hm g1
 exact k d _ s _ q (e1.trans (e2.trans (e3.trans e4))) (ok3.put hm g1 (g2.set r1')) ((rs.ext e1).ext (e2.trans (e3.trans e4)))
def zas7 (c:DT) (b:DS):DS:=fun E d m=>∃ W:Nat→St2→Mu→Prop,(∃ n,W n d m)∧∀ n d m,W n d m →
 c d m fun k m1=>if k=true then ∃ N:St2→Mu→Prop,(∀ d' m',N d' m'→∃ n',n' < n∧W n' d' m')∧b { E with nx:=N,ct:=N,bk:=E.nx } d m1 else E.nx d m1
theorem zaJ0 (hp:PassesOwn (model X.prog X.w) X.A X.env X.xe) (hc:PT X c (LT X.K tc)) (hb:PSs X body (LS X.K b)):PS X (.While c body [] pos) (LS X.K (zas7 tc b)):=PS.imp (zaK6 hp hc hb) fun E s H h=>by
 obtain ⟨Z,d,m,R,ok,rs,⟨W,⟨n0,w0⟩,turn⟩,kn,kr,kb,kc⟩:=h
 refine ⟨fun n s' H'=>∃ d' m',Ext X.K Z m H m' H'∧Ok X.K Z m' H'∧RS X.K Z m' H' d' s'∧W n d' m',⟨n0,d,m,Ext.refl,ok,rs,w0⟩,?_⟩
 rintro n s1 H1 ⟨d1,m1,e1,ok1,rs1,w1⟩
 refine ⟨Z,d1,m1,_,ok1,rs1,turn n d1 m1 w1,fun k m2 H2 q e2 ok2=>?_⟩
 cases k with
 | false =>
  rw [if_neg Bool.false_ne_true] at q ⊢
  exact kn d1 m2 s1 H2 q (e1.trans e2) ok2 (rs1.ext e2)
 | true =>
  rw [if_pos rfl] at q ⊢
  obtain ⟨N,hN,q⟩:=q
  refine ⟨fun s' H'=>∃ d' m',Ext X.K Z m H m' H'∧Ok X.K Z m' H'∧RS X.K Z m' H' d' s'∧N d' m',fun s' H' ⟨d',m',g1,g2,g3,g4⟩=>?_,?_⟩
  ·obtain ⟨n',hn,w⟩:=hN d' m' g4
   exact ⟨n',hn,d',m',g1,g2,g3,w⟩
  ·have e12:=e1.trans e2
   exact ⟨Z,d1,m2,_,ok2,rs1.ext e2,q,fun d3 m3 s3 H3 q3 e3 ok3 rs3=>⟨d3,m3,e12.trans e3,ok3,rs3,q3⟩,fun x m3 v H3 q3 e3 ok3 r3=>kr x m3 v H3 q3 (e12.trans e3) ok3 r3,
    fun d3 m3 s3 H3 q3 e3 ok3 rs3=>kn d3 m3 s3 H3 q3 (e12.trans e3) ok3 rs3,fun d3 m3 s3 H3 q3 e3 ok3 rs3=>⟨d3,m3,e12.trans e3,ok3,rs3,q3⟩⟩
abbrev DI:=St2→Mu→(List D→Mu→Prop)→Prop
def Yld (K:PySem.W.Frag) (Z:Addr→Prop) (m:Mu) (H:Hp) (x:D) (v:V) (H2 H3:Hp):Prop :=
 (H3=H2∧RD K Z m H x v)∨∃ p ps vs,x=.dat (.tuple ps)∧v=.ref p∧H2 p=none∧H3=upd H2 p (.tup vs)∧RPs K Z m H ps vs
theorem Yld.same {K:PySem.W.Frag} {Z:Addr→Prop} {m:Mu} {H H2 H3:Hp} {x:D} {v:V} (h:Yld K Z m H x v H2 H3):Same H2 H3:=by
 rcases h with ⟨rfl,_⟩ | ⟨p,ps,vs,_,_,hp,rfl,_⟩
 ·exact fun _ _ q=>q
 ·exact zc6 hp
theorem Yld.rd {K:PySem.W.Frag} {Z Z':Addr→Prop} {m m':Mu} {H H2 H3:Hp} {x:D} {v:V} (tr:∀ d v,RD K Z m H d v→RD K Z' m' H2 d v) (ok:Ok K Z' m' H2) (h:Yld K Z m H x v H2 H3):RD K Z' m' H3 x v:=by
 rcases h with ⟨rfl,h⟩ | ⟨p,ps,vs,rfl,rfl,hp,rfl,h⟩
 ·exact tr _ _ h
 ·have h2:=RPs.lift (fun p v q=>tr (.dat p) v q) h
  simp only [RD,RP]
  exact ⟨p,vs,rfl,.inl (.inl zc5),RPs.ext (ok.ext (zc6 hp)) _ _ h2⟩
structure ExtY (K:PySem.W.Frag) (Z:Addr→Prop) (m:Mu) (H:Hp) (m':Mu) (H':Hp):Prop where
 t:∀ a vs,SqT K H a vs→SqT K H' a vs
 l:∀ a vs,(m a=none∧¬ Z a)→SqL K H a vs→m' a=none∧SqL K H' a vs
theorem Ext.y {K:PySem.W.Frag} {Z:Addr→Prop} {m m':Mu} {H H':Hp} (e:Ext K Z m H m' H'):ExtY K Z m H m' H':=⟨e.t,e.l⟩
def zY8 (K:PySem.W.Frag) (Z:Addr→Prop) (m:Mu) (H:Hp) (xs:List D) (J:It):Prop:=∀ m2 H2,ExtY K Z m H m2 H2 →
 (∀ (i:Nat) (x:D),xs[i]?=some x→J.go i H2∧∀ v H3,J.yld i H2 v H3→Yld K Z m H x v H2 H3)∧J.stop xs.length H2
def LI (K:PySem.W.Frag) (fi:DI):TI:=fun s H R=>∃ (Z:Addr→Prop) (d:St2) (m:Mu) (ZZ:List D→Mu→Prop),Ok K Z m H∧RS K Z m H d s∧fi d m ZZ ∧
 ∀ xs m' H' J,ZZ xs m'→Ext K Z m H m' H'→Ok K Z m' H'→zY8 K Z m' H' xs J→R J H'
@[simp] def zr6 (f:DE):DI:=fun d m Q=>f d m fun x m1=>(∃ ps,x=.dat (.list ps)∧Q (ps.map .dat) m1)∨(∃ ps,x=.dat (.tuple ps)∧Q (ps.map .dat) m1)
theorem PI.imp {t t':TI} (h:PI X tg e t) (q:∀ s H R,t' s H R→t s H R):PI X tg e t':=fun pins s d H R I w=>h pins s d H R I (q _ _ _ w)
theorem zam4 {ps:List PyData} {i:Nat} {x:D} (h:(ps.map D.dat)[i]?=some x):∃ p,ps[i]?=some p∧x=.dat p:=by
 rw [List.getElem?_map] at h
 cases e:ps[i]? with
 | none=>rw [e] at h; cases h
 | some p=>rw [e] at h; cases h; exact ⟨p,rfl,rfl⟩
theorem zan1 {K:PySem.W.Frag} {Z:Addr→Prop} {m:Mu} {H:Hp} {a:Addr} {vs:List V} {ps:List PyData} (h0:m a=none∧¬ Z a) (h1:SqL K H a vs) (h2:RPs K Z m H ps vs):zY8 K Z m H (ps.map .dat) (Itl K a):=by
 intro m2 H2 e
 obtain ⟨q0,q1⟩:=e.l a vs h0 h1
 have q2:=h2
 refine ⟨fun i x hx=>?_,⟨vs,q1,by rw [q2.length,List.length_map]; exact Nat.le_refl _⟩⟩
 obtain ⟨p,hp,rfl⟩:=zam4 hx
 obtain ⟨v,hv,rv⟩:=h2.get hp
 refine ⟨⟨vs,v,q1,hv⟩,fun v' H3 y=>.inl ⟨y.1,?_⟩⟩
 have:=y.2 vs q1
 rw [hv] at this
 cases this
 exact rv
theorem zau5 {K:PySem.W.Frag} {Z:Addr→Prop} {m:Mu} {H:Hp} {a:Addr} {vs:List V} {ps:List PyData} (h1:SqT K H a vs) (h2:RPs K Z m H ps vs):zY8 K Z m H (ps.map .dat) (Itt K a):=by
 intro m2 H2 e
 have q1:=e.t a vs h1
 have q2:=h2
 refine ⟨fun i x hx=>?_,⟨vs,q1,by rw [q2.length,List.length_map]; exact Nat.le_refl _⟩⟩
 obtain ⟨p,hp,rfl⟩:=zam4 hx
 obtain ⟨v,hv,rv⟩:=h2.get hp
 refine ⟨⟨vs,v,q1,hv⟩,fun v' H3 y=>.inl ⟨y.1,?_⟩⟩
 have:=y.2 vs q1
 rw [hv] at this
 cases this
 exact rv
theorem zaX3 {l:Expr} {tl:TE} (hl:PE X l tl):PI X tg l (fun s H R=>tl s H fun x H1=>(∃ a,x=.ref a∧(∃ xs,SqL X.K H1 a xs)∧R (Itl X.K a) H1)∨(∃ a,x=.ref a∧(∃ xs,SqT X.K H1 a xs)∧R (Itt X.K a) H1)):=by
 intro pins s σ H R I h
 refine thn (hl pins s σ H _ I h) fun v s1 ⟨x,H1,I1,r1,q1⟩=>?_
 rcases q1 with ⟨a,e,⟨xs,hq⟩,q⟩ | ⟨a,e,⟨xs,hq⟩,q⟩
 ·subst e
  cases r1
  obtain ⟨its,rv,p,hz⟩:=I1.list hq
  refine wpAny_pyIter_list p.isList ?_
  refine ⟨s1.heap.objs.size,[s1.heap.objs.size],_,_,H1,rfl,I1.kept (t':=s1.toks) fun b o e=>Heap.get?_push_of_some _ e,zaA7 a _,⟨_,Heap.get?_push_size _ rfl,rfl,rfl⟩,fun b hb=>?_,q⟩
  have e:b=s1.heap.objs.size:=by simpa using hb
  subst e
  exact I1.fpOk (Nat.le_refl _) (I1.hok.fresh (Nat.le_refl _))
 ·subst e
  cases r1
  obtain ⟨its,rv,p,hz⟩:=I1.tuple hq
  refine wpAny_pyIter_tuple (show s1.heap.IsTuple a its.toArray from p) ?_
  refine ⟨s1.heap.objs.size,[s1.heap.objs.size],_,_,H1,rfl,I1.kept (t':=s1.toks) fun b o e=>Heap.get?_push_of_some _ e,zav3 a _,⟨_,Heap.get?_push_size _ rfl,rfl,rfl⟩,fun b hb=>?_,q⟩
  have e:b=s1.heap.objs.size:=by simpa using hb
  subst e
  exact I1.fpOk (Nat.le_refl _) (I1.hok.fresh (Nat.le_refl _))
theorem zba3 (ha:PE X e (LE X.K f)):PI X tg e (LI X.K (zr6 f)):=PI.imp (zaX3 ha) fun s H R h=>by
 obtain ⟨Z,d,m,ZZ,ok,rs,h,k⟩:=h
 refine ⟨Z,d,m,_,ok,rs,h,fun x m1 v H1 q e1 ok1 rd=>?_⟩
 rcases q with ⟨ps,rfl,q⟩ | ⟨ps,rfl,q⟩
 ·simp only [RD,RP] at rd
  obtain ⟨a,vs,rfl,h0,h1,h2⟩:=rd
  exact .inl ⟨a,rfl,⟨vs,h1⟩,k _ m1 H1 _ q e1 ok1 (zan1 h0 h1 h2)⟩
 ·simp only [RD,RP] at rd
  obtain ⟨a,vs,rfl,h1,h2⟩:=rd
  exact .inr ⟨a,rfl,⟨vs,h1⟩,k _ m1 H1 _ q e1 ok1 (zau5 h1 h2)⟩
def zD8 (lo:Int) (n:Nat):List D:=(List.range n).map fun i=>.dat (.int (lo + (i:Nat)))
@[simp] def zal4 (f:DE):DI:=fun d m Q=>f d m fun x m1=>∃ j:Int,x=.dat (.int j)∧-(2 ^ 62)≤j∧j < 2 ^ 62∧Q (zD8 0 j.toNat) m1
theorem zaL1 {p:Pos} (hg:Gl X "range") (hm:X.mg "range"=none) (ha:PE X e (LE X.K f)) (hs:starEach [e] X.env=[(false,eval e X.env)]:=by rfl):PI X tg (.Call (.Name "range" p) [e] [] pos) (LI X.K (zal4 f)) :=
 PI.imp (zax8 hg hm (zI1 ha zZ3 (by rw [hs]; rfl)) hs) fun s H R h=>by
  obtain ⟨Z,d,m,ZZ,ok,rs,h,k⟩:=h
  refine ⟨Z,d,m,_,ok,rs,h,fun x m1 v H1 ⟨j,e,h1,h2,q⟩ e1 ok1 rd=>?_⟩
  subst e
  cases rd.int
  show ∃ j':Int,[V.int j]=[V.int j']∧_
  refine ⟨j,rfl,h1,h2,k _ m1 H1 _ q e1 ok1 fun m2 H2 e2=>⟨fun i x hx=>?_,?_⟩⟩
  ·unfold zD8 at hx
   rw [List.getElem?_map] at hx
   cases ei:(List.range j.toNat)[i]? with
   | none=>rw [ei] at hx; cases hx
   | some i' =>
    rw [ei] at hx
    cases hx
    have hl:=(List.getElem?_eq_some_iff.mp ei).1
    have hi:i'=i:=by
     obtain ⟨_,z⟩:=List.getElem?_eq_some_iff.mp ei
     rw [List.getElem_range] at z
     exact z.symm
    subst hi
    rw [List.length_range] at hl
    refine ⟨hl,fun v' H3 y=>.inl ⟨y.1,?_⟩⟩
    rw [y.2]
    exact .ofInt
  ·show j.toNat≤(zD8 0 j.toNat).length
   unfold zD8
   rw [List.length_map,List.length_range]
   exact Nat.le_refl _
def zk5 (g:DG) (b:DS) (E:Ends2):List D→St2→Mu→Prop
 | [],d,m=>E.nx d m
 | x :: xs,d,m=>g x d m fun d' m'=>b { E with nx:=zk5 g b E xs,ct:=zk5 g b E xs,bk:=E.nx } d' m'
@[simp] def dFor (fi:DI) (g:DG) (b:DS):DS:=fun E d m=>fi d m fun xs m1=>zk5 g b E xs d m1
theorem zbg6 {fi:DI} {g:DG} (hp:PassesOwn (model X.prog X.w) X.A X.env X.xe) (hc:X.calm=true) (hi:PI X tg iter (LI X.K fi)) (hg:PG X tg (LG X.K g)) (hb:PSs X body (LS X.K b))
  (hs:∀ x,foldedSetIterable iter X.env x=pure x:=by intro _; rfl):PS X (.For tg iter body [] pos) (LS X.K (dFor fi g b)):=PS.imp (zbc9 hp hc hi hg hb hs) fun E s H h=>by
 obtain ⟨Z,d,m,R,ok,rs,h,kn,kr,kb,kc⟩:=h
 refine ⟨Z,d,m,_,ok,rs,h,fun xs m1 H1 J q e1 ok1 yl=>?_⟩
 refine ⟨fun i n s' H'=>∃ d' m',n=xs.length - i∧i≤xs.length∧Ext X.K Z m1 H1 m' H'∧Ok X.K Z m' H'∧RS X.K Z m' H' d' s'∧zk5 g b R (xs.drop i) d' m',⟨xs.length,d,m1,by simp,Nat.zero_le _,Ext.refl,ok1,rs.ext e1,by simpa using q⟩,?_⟩
 rintro i n s2 H2 ⟨d2,m2,rfl,hi,e2,ok2,rs2,w⟩
 obtain ⟨y1,y2⟩:=yl m2 H2 e2.y
 by_cases hl:i < xs.length
 ·rw [List.drop_eq_getElem_cons hl] at w
  obtain ⟨go,yd⟩:=y1 i xs[i] (List.getElem?_eq_getElem hl)
  refine .inr ⟨go,fun s' H'=>∃ d' m',Ext X.K Z m1 H1 m' H'∧Ok X.K Z m' H'∧RS X.K Z m' H' d' s'∧zk5 g b R (xs.drop (i + 1)) d' m',fun s' H' ⟨d',m',g1,g2,g3,g4⟩=>⟨xs.length - (i + 1),by omega,d',m',rfl,hl,g1,g2,g3,g4⟩,fun v H3 y=>?_⟩
  have yy:=yd v H3 y
  have e2':=e2.trans (ok2.ext yy.same)
  refine ⟨Z,xs[i],d2,m2,_,ok2.grow yy.same,rs2.ext (ok2.ext yy.same),yy.rd (fun d v h=>h.ext e2) ok2,w,fun d3 m3 s3 H3 q3 e3 ok3 rs3=>?_⟩
  have e23:=e2'.trans e3
  have e13:=e1.trans e23
  exact ⟨Z,d3,m3,_,ok3,rs3,q3,fun d4 m4 s4 H4 q4 e4 ok4 rs4=>⟨d4,m4,e23.trans e4,ok4,rs4,q4⟩,fun x m4 v H4 q4 e4 ok4 r4=>kr x m4 v H4 q4 (e13.trans e4) ok4 r4,
   fun d4 m4 s4 H4 q4 e4 ok4 rs4=>kn d4 m4 s4 H4 q4 (e13.trans e4) ok4 rs4,fun d4 m4 s4 H4 q4 e4 ok4 rs4=>⟨d4,m4,e23.trans e4,ok4,rs4,q4⟩⟩
 ·have e:i=xs.length:=by omega
  subst e
  rw [List.drop_length] at w
  exact .inl ⟨y2,kn d2 m2 s2 H2 w (e1.trans e2) ok2 rs2⟩
end
end DL
namespace DL
open PySem PySem.Spec PyProof.Rows L2
section
variable {prog:Program} {w:World} {A:Around} {E:Value→Shared→Prop} {s:Shared}
end
section
variable {X:Cx} {a e:Expr} {es:List Expr} {f:DE} {ga:DA} {pos p p1 p2 p3 p4:Pos}
@[simp] def zar7:PyData→String
 | .none=>"NoneType"
 | .bool _=>"bool"
 | .int _=>"int"
 | .str _=>"str"
 | .list _=>"list"
 | .tuple _=>"tuple"
 | .dict _=>"dict"
@[simp] def isK (q:PyData) (c:String):Bool:=zar7 q == c || (zar7 q == "bool" && c == "int")
theorem zaI7 (K:PySem.W.Frag) (q:PyData) (hd:∀ kv,q≠.dict kv) (c:String) (hc:c="int"∨c="bool"∨c="str"∨c="tuple"∨c="list"):PySem.W.kitOne K (.type (zar7 q)) (.type c)=some (isK q c):=by
 rcases hc with rfl | rfl | rfl | rfl | rfl <;> cases q <;> first | rfl | exact absurd rfl (hd _)
theorem zaH5 {pins:List (Addr×Obj)} {σ:L2.St} {H:Hp} {s:Shared} {Z:Addr→Prop} {m:Mu} {A:Around} {E:Value→Shared→Prop} {Q:Value→Shared→Prop} {q:PyData} {v:V} {u c:Value} {b:Bool} (I:Inv X pins σ H s) (rp:RP X.K Z m H q v) (rv:RelV v u)
  (e:PySem.W.kitOne X.K (.type (zar7 q)) c=some b) (h:∀ tk,Q (.bool b) { s with toks:=tk }):wpAny (model X.prog X.w) A (call (.builtin "isinstance") [u,c]) Q E s:=by
 cases q with
 | none=>simp only [RP] at rp; subst rp; cases rv; exact PySem.W.kia_one PySem.W.kitx_none I.kIn True.intro e (fun z=>nomatch z) h
 | bool y=>simp only [RP] at rp; subst rp; cases rv; exact PySem.W.kia_one PySem.W.kitx_bool I.kIn True.intro e (fun z=>nomatch z) h
 | int i=>simp only [RP] at rp; subst rp; obtain ⟨t,rfl⟩:=rv; exact PySem.W.kia_one PySem.W.kitx_int I.kIn True.intro e (fun z=>nomatch z) h
 | str y=>simp only [RP] at rp; subst rp; obtain ⟨t,rfl⟩:=rv; exact PySem.W.kia_one PySem.W.kitx_str I.kIn True.intro e (fun z=>nomatch z) h
 | tuple xs =>
  simp only [RP] at rp
  obtain ⟨a',vs,rfl,h1,_⟩:=rp
  cases rv
  obtain ⟨its,_,⟨o,g1,g2,_⟩,_⟩:=I.tuple h1
  exact PySem.W.kia_one PySem.W.kitx_tuple I.kIn ⟨o,g1,g2⟩ e (fun z=>nomatch z) h
 | list xs =>
  simp only [RP] at rp
  obtain ⟨a',vs,rfl,_,h1,_⟩:=rp
  cases rv
  obtain ⟨its,_,⟨o,n,g1,g2,_⟩,_⟩:=I.list h1
  exact PySem.W.kia_one PySem.W.kitx_list I.kIn ⟨o,g1,g2⟩ e (fun z=>nomatch z) h
 | dict kv=>simp only [RP] at rp
theorem RP.notDict {K:PySem.W.Frag} {Z:Addr→Prop} {m:Mu} {H:Hp} {q:PyData} {v:V} (h:RP K Z m H q v):∀ kv,q≠.dict kv:=by
 rintro kv rfl
 simp only [RP] at h
theorem zaJ5:bootBuiltins "isinstance"=some (.builtin "isinstance"):=by decide +kernel
@[simp] def dIsi (f:DE) (c:String):DE:=fun d m Q=>f d m fun x m1=>∃ q,x=.dat q∧Q (.dat (.bool (isK q c))) m1
theorem zbc0 {T:Str} {c:String} (hg:Gl X "isinstance") (hm:X.mg "isinstance"=none) (hgT:Gl X T) (hmT:X.mg T=none) (hv:bootBuiltins T=some (.type c)) (hc:c="int"∨c="bool"∨c="str"∨c="tuple"∨c="list")
  (ha:PE X a (LE X.K f)) (hn:T≠"__name__":=by decide) (hd:(T == ("__debug__" : Str))=false:=by decide)
  (he:starEach [a,.Name T p2] X.env=(false,eval a X.env) :: starEach [.Name T p2] X.env:=by rfl) :
  PE X (.Call (.Name "isinstance" p1) [a,.Name T p2] [] pos) (LE X.K (dIsi f c)):=by
 have cr:CallR X (.builtin "isinstance") (fun vs H Q=>∃ Z m q v,RP X.K Z m H q v∧vs=[v,.ty c]∧Q (.bl (isK q c)) H):=by
  intro pins s σ H xs us Q I rv ⟨Z,m,q,v,rp,e,h⟩
  subst e
  obtain ⟨u,w,rfl,r1,r2⟩:=zaS1 rv
  cases r2
  exact zaH5 I rp r1 (zaI7 X.K q rp.notDict c hc) fun tk=>⟨.bl _,H,I.tok _,rfl,h⟩
 refine PE.imp (zas8 cr hg hm zaJ5 (zI1 ha (zI1 (zaT4 (v:=.ty c) hgT hmT hv rfl hn hd) zZ3) he) (he:=he) (hpl:=rfl)) fun s H Q h=>?_
 obtain ⟨Z,d,m,R,ok,rs,h,k⟩:=h
 refine ⟨Z,d,m,_,ok,rs,h,fun x m1 v H1 ⟨q,e,h1⟩ e1 ok1 rd=>?_⟩
 subst e
 exact ⟨Z,m1,q,v,rd,rfl,k _ m1 _ H1 h1 e1 ok1 .ofBl⟩
def LSp (K:PySem.W.Frag) (n:Nat) (sp:DC):Sp:=fun vs H Q _=>∃ Z ds m R,Ok K Z m H∧RDs K Z m H ds vs∧ds.length=n∧sp ds m R∧∀ d m' v' H',R d m'→Ext K Z m H m' H'→Ok K Z m' H'→RD K Z m' H' d v'→Q v' H'
theorem LSp.len {K:PySem.W.Frag} {n:Nat} {sp:DC} {vs:List V} {H:Hp} {Q:VK} {E:XK} (h:LSp K n sp vs H Q E):vs.length=n:=by
 obtain ⟨Z,ds,m,R,_,rd,hl,_⟩:=h
 rw [rd.length]
 exact hl
@[simp] def zc2 (n:Nat) (sp:DC) (g:DA):DE:=fun d m Q=>g d m fun xs m1=>xs.length=n∧sp xs m1 Q
theorem zaQ5 {k n:Nat} {fa:Addr} {fd:FuncData} {ps:List Str} {sp:DC} {x:Str} (F:FnOk X.prog X.w X.K X.mg X.base CX0 k fa fd ps (LSp X.K n sp)) (hr:Room k X.A) (hm:X.mg x=some (.ref fa)) (hk:PySem.W.keepIn X.K (.ref fa)=true)
  (hb:Binds X.K fd ps []) (hx:X.xe=fun _ _=>False) (ha:PA X (e :: es) (LA X.K ga)) (hg:Gl X x:=by rfl) (hdb:(x == ("__debug__" : Str))=false:=by decide)
  (he:starEach (e :: es) X.env=(false,eval e X.env) :: starEach es X.env:=by rfl) (hpl:(backTo pos (starEach es X.env)).any (·.1)=false:=by rfl):PE X (.Call (.Name x p) (e :: es) [] pos) (LE X.K (zc2 n sp ga)) :=
 PE.imp (zaR4 F hr hg hm hk hb .nil (zbn8 (X:=X)) ha hdb he hpl) fun s H Q h=>by
  obtain ⟨Z,d,m,R,ok,rs,h,k⟩:=h
  refine ⟨Z,d,m,_,ok,rs,h,fun xs m1 vs H1 ⟨hl,q⟩ e1 ok1 rd=>⟨Z,xs,m1,R,ok1,by simpa using rd,hl,q,fun d' m' v' H' h1 h2 h3 h4=>k d' m' v' H' h1 (e1.trans h2) h3 h4⟩⟩
@[simp] def zb2 (N:List Str) (ds:List D):St2:=ds.map some++List.replicate (N.length - ds.length) none
theorem RDs.get {K:PySem.W.Frag} {Z:Addr→Prop} {m:Mu} {H:Hp}:∀ {xs:List D} {vs:List V} {i:Nat} {x:D},RDs K Z m H xs vs→xs[i]?=some x→∃ v,vs[i]?=some v∧RD K Z m H x v
 | [],_,_,_,_,e=>by simp at e
 | _ :: _,_,0,x,⟨v,r,h1,h2,_⟩,e=>by
  simp at e
  subst h1 e
  exact ⟨v,rfl,h2⟩
 | _ :: xs,_,i + 1,x,⟨v,r,h1,_,h3⟩,e=>by
  obtain ⟨u,q1,q2⟩:=RDs.get (i:=i) (x:=x) h3 (by simpa using e)
  subst h1
  exact ⟨u,by simpa using q1,q2⟩
theorem zaH3 {K:PySem.W.Frag} {Z:Addr→Prop} {m:Mu} {H:Hp} {N:List Str} {ds:List D} {vs:List V} (h:RDs K Z m H ds vs):RS K Z m H (zb2 N ds) (start N vs):=by
 have hl:=h.length
 refine ⟨?_,fun i x hx=>?_⟩
 ·unfold zb2 L2.start
  rw [List.length_append,List.length_append,List.length_map,List.length_map,List.length_replicate,List.length_replicate,hl]
 ·unfold zb2 at hx
  by_cases hi:i < ds.length
  ·rw [List.getElem?_append_left (by simpa using hi),List.getElem?_map] at hx
   cases e:ds[i]? with
   | none=>rw [e] at hx; cases hx
   | some y =>
    rw [e] at hx
    cases hx
    obtain ⟨v,q1,q2⟩:=h.get e
    refine ⟨v,?_,q2⟩
    unfold L2.start
    rw [List.getElem?_append_left (by rw [List.length_map,hl]; exact hi),List.getElem?_map,q1]
    rfl
  ·rw [List.getElem?_append_right (by simpa using hi),List.getElem?_replicate] at hx
   split at hx <;> cases hx
end
section
variable {P:Program} {w:World} {K:PySem.W.Frag} {mg:Str→Option Value} {base:Heap}
theorem zaR6 {x qual:Str} {st:Stmt} {fa:Addr} {fd:FuncData} {N ps:List Str} {k:Nat} {sp:DC} {body:DS} (F:Fun K x qual st fa fd) (S:FnScope N ps (za7 st))
  (hb:∀ (cdv:Value) (A:Around) (outer:List Env) (s:Shared) (H:Hp) (E:XK),Room k (A.deeper (envOfC qual (za7 st) s.heap.objs.size fa cdv)) →
   PSs (cxOf CX0 P w K mg base N qual (za7 st) fa cdv A outer s H E).nox (zc0 st) (LS K body))
  (hv:∀ ds m R,ds.length=ps.length→sp ds m R→body { nx:=fun _ m=>R (.dat .none) m,rt:=R } (zb2 N ds) m):FnOk P w K mg base CX0 (k + 1) fa fd ps (LSp K ps.length sp):=by
 refine F.ok S (fun vs H Q E h=>h.len) (fun cdv A outer s H vs Q E hr h=>?_)
 obtain ⟨Z,ds,m,R,ok,rd,hl,h,kk⟩:=h
 refine ⟨_,hb cdv A outer s H E hr,Z,zb2 N ds,m,_,ok,zaH3 rd,hv ds m R hl h,?_,?_,?_,?_⟩
 ·intro d' m' s' H' q e1 ok1 _
  exact kk _ m' _ H' q e1 ok1 (by simp only [RD,RP])
 ·exact fun x m' v H' q e1 ok1 r1=>kk x m' v H' q e1 ok1 r1
 ·exact fun _ _ _ _ q _ _ _=>q.elim
 ·exact fun _ _ _ _ q _ _ _=>q.elim
end
end DL
namespace L2
open PySem
theorem Room.u100 {k:Nat} {A:Around} (r:Room k A):A.units + 100 < cLine:=by have:=r.un; omega
theorem Room.u200 {k:Nat} {A:Around} (r:Room k A):A.units + 200 < cLine:=by have:=r.un; omega
end L2
namespace DL
open PySem PySem.Spec PyProof.Rows L2
theorem zk8:bootBuiltins "len"=some (.builtin "len"):=by decide +kernel
theorem zai0:bootBuiltins "abs"=some (.builtin "abs"):=by decide +kernel
theorem zF9:bootBuiltins "repr"=some (.builtin "repr"):=by decide +kernel
theorem zx6:bootBuiltins "int"=some (.type "int"):=by decide +kernel
theorem zZ6:bootBuiltins "list"=some (.type "list"):=by decide +kernel
theorem zl4:bootBuiltins "tuple"=some (.type "tuple"):=by decide +kernel
end DL
namespace DL
open PySem PySem.Spec PyProof.Rows L2
theorem zaS0 {P:Program} {w:World} {K:PySem.W.Frag} {mg:Str→Option Value} {base:Heap} {k n:Nat} {f:Addr} {fd:FuncData} {ps:List Str} {sp:DC} (h:∀ ds m R,sp ds m R→False):FnOk P w K mg base CX0 k f fd ps (LSp K n sp):=by
 have no:∀ vs H Q E,¬ LSp K n sp vs H Q E:=fun vs H Q E q=>by
  obtain ⟨Z,ds,m,R,_,_,_,q,_⟩:=q
  exact h ds m R q
 exact ⟨fun vs H Q E q=>absurd q (no vs H Q E),fun A outer s H args us vs Q E _ _ _ _ q=>absurd q (no vs H Q E)⟩
theorem zae1 {K:PySem.W.Frag} {Z:Addr→Prop} {m:Mu} {H:Hp}:∀ ns:List Int,RPs K Z m H (ns.map PyData.int) (ns.map V.int)
 | []=>by simp [RPs]
 | n :: ns=>by
  simp only [List.map_cons,RPs]
  exact ⟨_,_,rfl,by simp only [RP],zae1 ns⟩
theorem zaP1 {K:PySem.W.Frag} {sp:DC} {H:Hp} {a:Addr} {ns:List Int} {E:XK} (hS:SqL K H a (ns.map V.int)) (h:sp [.dat (.list (ns.map .int))] (fun _=>none) (fun d _=>d=.dat (.bool true))):LSp K 1 sp [.ref a] H (fun v _=>v=.bl true) E:=by
 have ok:Ok K (fun _=>False) (fun _=>none) H:=⟨fun b ds e=>(by cases e),fun _ z=>False.elim z⟩
 refine ⟨fun _=>False,[.dat (.list (ns.map .int))],fun _=>none,fun d _=>d=.dat (.bool true),ok,⟨.ref a,[],rfl,?_,rfl⟩,rfl,h,?_⟩
 ·simp only [RD,RP]
  exact ⟨a,_,rfl,by first | exact ⟨rfl,fun z=>z⟩ | simp,hS,zae1 ns⟩
 ·rintro d m' v' H' rfl _ _ r
  simpa only [RD,RP] using r
end DL
namespace DL
open PySem PySem.Spec PyProof.Rows L2
theorem zM9 (env:Env):∀ (names:List (Str×NameKind)) (cs:List (Str×Addr)),(∀ x,(x,NameKind.free)∈names→∃ c,env.cells.lookup x=some c)→(∀ p∈cs,env.cells.lookup p.1=some p.2) →
  ∃ cl:List (Str×Addr),(forIn names cs (fun (x:Str×NameKind) (r:List (Str×Addr))=>(if (x.2 == .free)=true then (do let c ← cellOf env x.1; pure (ForInStep.yield ((x.1,c) :: r))) else pure (ForInStep.yield r):Sem (ForInStep (List (Str×Addr))))))=pure cl ∧
   (∀ p∈cl,env.cells.lookup p.1=some p.2)∧(∀ p∈cs,p∈cl)∧∀ x,(x,NameKind.free)∈names→∃ c,(x,c)∈cl
 | [],cs,_,h=>⟨cs,rfl,h,fun _ z=>z,fun x z=>nomatch z⟩
 | (n,k) :: r,cs,hf,h=>by
  by_cases hk:k=.free
  ·subst hk
   obtain ⟨c,hc⟩:=hf n List.mem_cons_self
   obtain ⟨cl,e,h1,h2,h3⟩:=zM9 env r ((n,c) :: cs) (fun x hx=>hf x (List.mem_cons_of_mem _ hx)) (fun p hp=>by
    rcases List.mem_cons.mp hp with rfl | hp
    ·exact hc
    ·exact h p hp)
   refine ⟨cl,?_,h1,fun p hp=>h2 p (List.mem_cons_of_mem _ hp),fun x hx=>?_⟩
   ·rw [List.forIn_cons]
    have e2:cellOf env n=pure c:=by unfold cellOf; rw [hc]
    simp only [beq_self_eq_true,if_true,e2,pure_bind]
    exact e
   ·rcases List.mem_cons.mp hx with z | hx
    ·cases z
     exact ⟨c,h2 _ List.mem_cons_self⟩
    ·exact h3 x hx
  ·obtain ⟨cl,e,h1,h2,h3⟩:=zM9 env r cs (fun x hx=>hf x (List.mem_cons_of_mem _ hx)) h
   refine ⟨cl,?_,h1,h2,fun x hx=>?_⟩
   ·rw [List.forIn_cons]
    have e2:(k == NameKind.free)=false:=by simpa using hk
    simp only [e2,Bool.false_eq_true,if_false,pure_bind]
    exact e
   ·rcases List.mem_cons.mp hx with z | hx
    ·cases z
     exact absurd rfl hk
    ·exact h3 x hx
theorem zZ4 {scope:Scope} {env:Env} (hf:∀ x,(x,NameKind.free)∈scope.names→∃ c,env.cells.lookup x=some c) :
  ∃ cl:List (Str×Addr),closureFor scope env=pure cl∧(∀ p∈cl,env.cells.lookup p.1=some p.2)∧∀ x,(x,NameKind.free)∈scope.names→∃ c,(x,c)∈cl:=by
 obtain ⟨cl,e,h1,_,h3⟩:=zM9 env scope.names [] hf (fun _ z=>nomatch z)
 refine ⟨cl,?_,h1,h3⟩
 unfold closureFor
 first
  | exact e
  | (show (do let cs ← forIn scope.names ([]:List (Str×Addr)) _; pure cs:Sem _)=_; rw [e]; rfl)
  | (simp only []; rw [e]; rfl)
section
variable {prog:Program} {w:World} {A:Around} {R:Result→Shared→Prop} {s:Shared}
theorem zay6 {elt target iter:Expr} {ifs:List Expr} {scope:Scope} {pos:Pos} {it acc:Value} {env:Env} (I:Nat→Shared→Prop)
  (turn:∀ n s,I n s→wpAny (model prog w) A (pyNext it) (fun r s₁=>match r with
   | none=>R (.ok .next) s₁
   | some v=>wpAny (model prog w) A (letOwnedTupleGo target it v) (fun _ s₀=>wpAny (model prog w) A (assign target env v) (fun _ s₂ =>
     wpAny (model prog w) A (forIn ifs true fun c r=>if r=true then do let ok ← isTrue c env (eval c env); pure (ForInStep.yield ok) else pure (ForInStep.yield r)) (fun ok s₃ =>
      if ok=true then wpAny (model prog w) A (eval elt env) (fun x s₄ =>
       wpAny (model prog w) A (call (.builtin "list.append") [acc,x]) (fun _ s₅=>∃ m,m < n∧I m s₅) (fun _ _=>False) s₄) (fun _ _=>False) s₃
      else ∃ m,m < n∧I m s₃) (fun _ _=>False) s₂) (fun _ _=>False) s₀) (fun _ _=>False) s₁) (fun _ _=>False) s)
  (n:Nat) (h:I n s) :
  codeAny (model prog w) A (.compLoop (.ListComp elt [⟨target,iter,ifs,0⟩] scope pos) 0 it acc env) R s:=by
 have ff:∀ {E:Value→Shared→Prop} (x:Value) (s:Shared),False→E x s:=fun _ _ z=>z.elim
 refine codeAny_loop rfl I (fun n s hI=>?_) n h
 show wpAny _ A ((compTurn (.ListComp elt [⟨target,iter,ifs,0⟩] scope pos) 0 it acc env).onRaise (fun x=>do noteFrame x env; theTreesLotGoes x)) _ _ s
 refine wpAny_noted ?_
 rw [compTurn_list]
 refine wpAny_bind (wpAny_standAt (wpAny_bind (wpAny_mono (turn n s hI) (fun r s₁ h₁=>?_) ff)))
 cases r with
 | none=>exact wpAny_pure h₁
 | some v =>
  refine wpAny_bind (wpAny_mono h₁ (fun _ s₀ h₀=>?_) ff)
  refine wpAny_bind (wpAny_mono h₀ (fun _ s₂ h₂=>wpAny_bind (wpAny_mono h₂ (fun ok s₃ h₃=>?_) ff)) ff)
  cases ok with
  | true =>
   simp only [if_true] at h₃ ⊢
   refine wpAny_bind (wpAny_bind (wpAny_mono h₃ (fun x s₄ h₄=>wpAny_bind (wpAny_mono h₄ (fun _ s₅ h₅=>wpAny_pure (wpAny_pure ⟨rfl,h₅⟩)) ff)) ff))
  | false =>
   simp only [Bool.false_eq_true,if_false] at h₃ ⊢
   exact wpAny_pure ⟨rfl,h₃⟩
end
end DL
namespace DL
open PySem PySem.Spec PyProof.Rows L2
def cyOf (X:Cx) (scope:Scope) (cl:List (Str×Addr)) (C:Addr) (NC:List Str) (s2:Shared) (H2:Hp) (pins:List (Addr×Obj)) (fp:List Addr):Cx where
 prog:=X.prog
 w:=X.w
 K:=X.K
 mg:=X.mg
 base:=X.base
 A:=X.A
 N:=NC
 s₀:=s2
 H₀:=H2
 env:=compEnvC scope cl C X.env
 outer:=X.stack
 stack:=X.stack
 ex:=fp
 fn:=fun _=>false
 calm:=X.calm
 pn:=X.pn++pins
 xe:=fun _ _=>False
theorem zq7 {cl:List (Str×Addr)} {x:Str} {c:Addr} (h:cl.lookup x=some c):(x,c)∈cl:=PySem.mem_of_lookup h
theorem zG9 {cl:List (Str×Addr)} {x:Str}:∀ {c:Addr},(x,c)∈cl→∃ c',cl.lookup x=some c':=by
 induction cl with
 | nil=>intro c h; cases h
 | cons p r ih =>
  intro c h
  rw [List.lookup_cons]
  cases hx:x == p.1 with
  | true=>exact ⟨_,rfl⟩
  | false =>
   rcases List.mem_cons.mp h with e | h
   ·subst e
    simp at hx
   ·exact ih h
theorem zD5 {env:Env}:∀ {names:List (Str×NameKind)} {x:Str},(∀ y∈names,y.2≠.cell) →
  ((names.map fun (n,k)=>if (k == NameKind.free && env.scope.kind == .function && env.kindOf n == some .cell) then (n,NameKind.cell) else (n,k)).lookup x=some .cell ∨
    (names.map fun (n,k)=>if (k == NameKind.free && env.scope.kind == .function && env.kindOf n == some .cell) then (n,NameKind.cell) else (n,k)).lookup x=some .free)→(x,NameKind.free)∈names
 | [],x,_,h=>by simp at h
 | (n,k) :: r,x,hc,h=>by
  have ih:=@zD5 env r x (fun y hy=>hc y (List.mem_cons_of_mem _ hy))
  by_cases hk:(k == NameKind.free && env.scope.kind == .function && env.kindOf n == some .cell)=true
  ·have kf:k=.free:=by
    rw [Bool.and_eq_true,Bool.and_eq_true] at hk
    exact eq_of_beq hk.1.1
   subst kf
   simp only [List.map_cons,hk,if_true,List.lookup_cons] at h
   cases hx:x == n with
   | true =>
    have:x=n:=eq_of_beq hx
    subst this
    exact List.mem_cons_self
   | false =>
    simp only [hx] at h
    exact List.mem_cons_of_mem _ (ih h)
  ·have hk':(k == NameKind.free && env.scope.kind == .function && env.kindOf n == some .cell)=false:=by simpa using hk
   simp only [List.map_cons,hk',Bool.false_eq_true,if_false,List.lookup_cons] at h
   cases hx:x == n with
   | true =>
    have:x=n:=eq_of_beq hx
    subst this
    simp only [hx] at h
    have hne:=hc (x,k) List.mem_cons_self
    rcases h with h | h
    ·exact absurd (Option.some.inj h) hne
    ·have:k=.free:=Option.some.inj h
     subst this
     exact List.mem_cons_self
   | false =>
    simp only [hx] at h
    exact List.mem_cons_of_mem _ (ih h)
section
variable {X:Cx} {pins:List (Addr×Obj)} {σ:L2.St} {H2:Hp} {s2:Shared} {scope:Scope} {cl:List (Str×Addr)} {NC:List Str} {fp:List Addr} {C:Addr}
theorem zbh7 (I2:Inv X pins σ H2 s2) (hf:∀ b∈fp,FpOk X pins H2 b) (hob:∀ b∈fp,∃ o,s2.heap.get? b=some o∧∀ v,o.data≠.cell v) (hkind:scope.kind=.function) (hcell:∀ y∈scope.names,y.2≠.cell)
  (hcl1:∀ p∈cl,X.env.cells.lookup p.1=some p.2) (hcl2:∀ x,(x,NameKind.free)∈scope.names→∃ c,(x,c)∈cl) (hC:s2.heap.objs.size≤C):(cyOf X scope cl C NC s2 H2 pins fp).Ok:=by
 have lk:∀ x c,cl.lookup x=some c→X.env.cells.lookup x=some c:=fun x c h=>hcl1 (x,c) (zq7 h)
 refine ⟨I2.ok.mod,hkind,I2.ok.glob,I2.ok.blt,hC,fun x y c h1 h2=>I2.ok.inj x y c (lk x c h1) (lk y c h2),fun x hx=>?_,fun x c h=>absurd (show false=true from h) Bool.false_ne_true,I2.ok.hd,I2.ok.frames,.inl rfl,fun b hb=>⟨?_,fun x c h=>?_⟩,fun b o e=>I2.bs b o e,
  Nat.le_trans I2.ok.bsz I2.sz,fun b o e hb=>?_,fun b hb hs=>?_,I2.stack,I2.stkFree⟩
 ·obtain ⟨c,hc⟩:=hcl2 x (zD5 (env:=X.env) hcell hx)
  exact zG9 hc
 ·obtain ⟨o,ho,_⟩:=hob b hb
  exact Nat.ne_of_lt (Nat.lt_of_lt_of_le (Heap.lt_size ho) hC)
 ·exact (hf b hb).2.2.2.2.1 x c (lk x c h)
 ·rcases (hf b hb).2.2.2.1 with z | z
  ·exact I2.ok.noex b o e z
  ·exact absurd (Nat.lt_of_lt_of_le (Heap.lt_size e) (Nat.le_trans I2.ok.bsz z)) (Nat.lt_irrefl _)
 ·rcases List.mem_cons.mp (I2.stkSub b hs) with z | z
  ·exact (hf b hb).2.1 z
  ·exact (hf b hb).2.2.1 z
theorem zas9 {σ':L2.St} {h₁:Heap} {tk:Nat} {mm:Str→Option Value} (I2:Inv X pins σ H2 s2) (hf:∀ b∈fp,FpOk X pins H2 b) (hob:∀ b∈fp,∃ o,s2.heap.get? b=some o∧∀ v,o.data≠.cell v) (hkind:scope.kind=.function) (hcell:∀ y∈scope.names,y.2≠.cell)
  (hcl1:∀ p∈cl,X.env.cells.lookup p.1=some p.2) (hcl2:∀ x,(x,NameKind.free)∈scope.names→∃ c,(x,c)∈cl)
  (hlen:σ'.length=NC.length) (hσ:∀ (i:Nat) (x:Str) (v:V),NC[i]?=some x→σ'[i]?=some (some v)→Vis (relabel scope X.env) x→((relabel scope X.env).names.lookup x=some .cell∨(relabel scope X.env).names.lookup x=some .free)∧(X.env.kindOf x=some .cell∨X.env.kindOf x=some .free)∧∃ j:Nat,X.N[j]?=some x∧σ[j]?=some (some v))
  (hC:C=s2.heap.objs.size + 1) (hns:h₁.Ns C mm) (hk:∀ b u,s2.heap.get? b=some u→h₁.get? b=some u)
  (hD:h₁.get? s2.heap.objs.size=some { cls:=.type "list",data:=.seq ([]:List Value).toArray }) :
  Inv (cyOf X scope cl C NC s2 H2 pins fp) [] σ' (upd H2 s2.heap.objs.size (.lst [])) { s2 with heap:=h₁,toks:=tk }:=by
 have lk:∀ x c,cl.lookup x=some c→X.env.cells.lookup x=some c:=fun x c h=>hcl1 (x,c) (zq7 h)
 have hn:H2 s2.heap.objs.size=none:=I2.hok.fresh (Nat.le_refl _)
 have le1:s2.heap.objs.size≤C:=by rw [hC]; exact Nat.le_succ _
 have ne1:C≠s2.heap.objs.size:=by rw [hC]; exact Nat.succ_ne_self _
 have hCn:H2 C=none:=I2.hok.fresh le1
 have neD:∀ b o,s2.heap.get? b=some o→b≠s2.heap.objs.size:=fun b o e=>Nat.ne_of_lt (Heap.lt_size e)
 refine ⟨zbh7 I2 hf hob hkind hcell hcl1 hcl2 le1,rfl,I2.bare,Un.laid hk (Nat.le_refl _) hn,⟨mm,hns,fun i x v h1 h2 h3=>?_⟩,fun x c h=>?_,?_,fun x c h=>?_,fun p hp=>?_,?_,hlen⟩
 ·obtain ⟨hy,hx,j,hj,hv⟩:=hσ i x v h1 h2 h3
  obtain ⟨m,hnX,hl⟩:=I2.loc
  have vis:Vis X.env.scope x:=by rcases hx with z | z; exact .inr (.inl z); exact .inr (.inr z)
  obtain ⟨u,r,l⟩:=hl j x v hj hv vis
  refine ⟨u,r,.inr ⟨hy,?_⟩⟩
  obtain ⟨c',hc'⟩:=hcl2 x (zD5 (env:=X.env) hcell hy)
  obtain ⟨c,hc⟩:=zG9 hc'
  refine ⟨c,hc,?_⟩
  rcases l with ⟨z,_⟩ | ⟨_,c2,e2,o,ho,hd⟩
  ·rcases hx with q | q
   ·rw [z] at q; cases q
   ·rw [z] at q; cases q
  ·have:=lk x c hc
   rw [e2] at this
   cases this
   exact ⟨o,hk _ o ho,hd⟩
 ·obtain ⟨v,o,ho,hd⟩:=I2.cell x c (lk x c h)
  exact ⟨v,o,hk _ o ho,hd⟩
 ·show upd H2 s2.heap.objs.size (.lst []) C=none
  rw [zc9 ne1]
  exact hCn
 ·obtain ⟨v,o,ho,hd⟩:=I2.cell x c (lk x c h)
  rw [zc9 (neD c o ho)]
  exact I2.freeC x c (lk x c h)
 ·have hp':p∈X.pn++pins:=by
   rcases List.mem_append.mp hp with z | z
   ·exact z
   ·cases z
  obtain ⟨e,n,ne,nf,d⟩:=I2.pin p hp'
  refine ⟨hk _ _ e,by rw [zc9 (neD _ _ e)]; exact n,?_,fun z=>?_,d⟩
  ·show p.1≠C
   exact Nat.ne_of_lt (Nat.lt_of_lt_of_le (Heap.lt_size e) le1)
  ·rcases List.mem_cons.mp (I2.stkSub p.1 z) with q | q
   ·exact ne q
   ·exact nf q
 ·exact I2.hok.laid hk (Nat.le_refl _) ⟨Nat.zero_le _,[],0,.nil,hD⟩
theorem zaM6 {py:List (Addr×Obj)} {σ'':L2.St} {H':Hp} {s':Shared} {h':Heap} (I2:Inv X pins σ H2 s2) (hf:∀ b∈fp,FpOk X pins H2 b) (Iy:Inv (cyOf X scope cl C NC s2 H2 pins fp) py σ'' H' s') (hC:s2.heap.objs.size≤C) (hs:Heap.SameBut C s'.heap h') :
  Inv X pins σ H' { s' with heap:=h' }:=by
 have u:Un (frs X.stack) fp H2 H' s2.heap s'.heap:=Iy.base
 have neC:∀ b o,s2.heap.get? b=some o→b≠C:=fun b o e=>Nat.ne_of_lt (Nat.lt_of_lt_of_le (Heap.lt_size e) hC)
 have fC:H' C=none:=Iy.free
 refine I2.call' (s':={ s' with heap:=h' }) (ch:=fp) Iy.os ⟨fun b o e n hb hx=>(hs.2 b (neC b o e)).trans (u.keep b o e n hb hx),fun b o e n hb hx=>?_,u.free,fun b o e hx=>?_,u.tups,u.frzs,u.tbls⟩ (fun b o e=>?_) Iy.bare fun b hb=>?_
 ·obtain ⟨sl,q⟩:=u.slot b o e n hb hx
  exact ⟨sl,(hs.2 b (neC b o e)).trans q⟩
 ·obtain ⟨o',q⟩:=u.there b o e hx
  exact ⟨o',(hs.2 b (neC b o e)).trans q⟩
 ·refine (Iy.hok b o e).stay (fun c v hc q=>(hs.2 c ?_).trans q) (fun _ q=>q) fun _ _ q=>q
  rintro rfl
  rcases hc with rfl | hc
  ·rw [fC] at e; cases e
  ·rw [fC] at hc; cases hc
 ·obtain ⟨_,f1,_,f3,f4,f5⟩:=hf b hb
  exact ⟨f3,f1,f4,f5⟩
end
end DL
namespace DL
open PySem PySem.Spec PyProof.Rows L2
section
variable {K:PySem.W.Frag} {Z Y:Addr→Prop} {m m':Mu} {H H':Hp}
mutual
theorem RP.tr (ht:∀ a vs,SqT K H a vs→SqT K H' a vs) (hl:∀ a vs,(m a=none∧¬ Z a)→SqL K H a vs→(m' a=none∧¬ Y a)∧SqL K H' a vs):∀ (p:PyData) (v:V),RP K Z m H p v→RP K Y m' H' p v
 | .none,v,h=>by simpa only [RP] using h
 | .bool _,v,h=>by simpa only [RP] using h
 | .int _,v,h=>by simpa only [RP] using h
 | .str _,v,h=>by simpa only [RP] using h
 | .tuple xs,v,h=>by
  simp only [RP] at h ⊢
  obtain ⟨a,vs,h1,h2,h3⟩:=h
  exact ⟨a,vs,h1,ht a vs h2,RPs.tr ht hl xs vs h3⟩
 | .list xs,v,h=>by
  simp only [RP] at h ⊢
  obtain ⟨a,vs,h1,h2,h3,h4⟩:=h
  obtain ⟨q1,q2⟩:=hl a vs h2 h3
  exact ⟨a,vs,h1,q1,q2,RPs.tr ht hl xs vs h4⟩
 | .dict _,v,h=>by simp only [RP] at h
theorem RPs.tr (ht:∀ a vs,SqT K H a vs→SqT K H' a vs) (hl:∀ a vs,(m a=none∧¬ Z a)→SqL K H a vs→(m' a=none∧¬ Y a)∧SqL K H' a vs):∀ (xs:List PyData) (vs:List V),RPs K Z m H xs vs→RPs K Y m' H' xs vs
 | [],vs,h=>by simpa only [RPs] using h
 | x :: xs,vs,h=>by
  simp only [RPs] at h ⊢
  obtain ⟨v,r,h1,h2,h3⟩:=h
  exact ⟨v,r,h1,RP.tr ht hl x v h2,RPs.tr ht hl xs r h3⟩
end
def rsv (Z:Addr→Prop) (D:Addr):Addr→Prop:=fun a=>Z a∨a=D
variable {D:Addr} {ys zs:List V}
theorem zaq5 (hD:H D=none) (hk:K.lookup D=none):∀ a vs,(m a=none∧¬ Z a)→SqL K H a vs→(m a=none∧¬ rsv Z D a)∧SqL K (upd H D (.lst ys)) a vs:=fun a vs h1 h2 =>
 ⟨⟨h1.1,fun z=>z.elim h1.2 (SqL.ne hD hk h2)⟩,(zc6 hD).seq h2⟩
theorem zF1 (hD:H D=some (.lst ys)):∀ a vs,SqT K H a vs→SqT K (upd H D (.lst zs)) a vs:=fun b xs h=>by
 rcases h with (h | ⟨o,h⟩) | h
 ·have ne:b≠D:=by rintro rfl; rw [hD] at h; cases h
  exact .inl (.inl (by rw [zc9 ne]; exact h))
 ·have ne:b≠D:=by rintro rfl; rw [hD] at h; cases h
  exact .inl (.inr ⟨o,by rw [zc9 ne]; exact h⟩)
 ·exact .inr h
theorem zak6 {a:Addr} {vs:List V} (ne:a≠D) (h:SqL K H a vs):SqL K (upd H D (.lst zs)) a vs:=by
 rcases h with (h | ⟨o,h⟩) | h
 ·exact .inl (.inl (by rw [zc9 ne]; exact h))
 ·exact .inl (.inr ⟨o,by rw [zc9 ne]; exact h⟩)
 ·exact .inr h
theorem zT0:∀ a vs,(m a=none∧¬ rsv Z D a)→SqL K H a vs→(m a=none∧¬ rsv Z D a)∧SqL K (upd H D (.lst zs)) a vs:=fun a vs h1 h2 =>
 ⟨h1,zak6 (fun e=>h1.2 (.inr e)) h2⟩
end
section
variable {K:PySem.W.Frag} {Z:Addr→Prop} {m m1 m':Mu} {H H1 H':Hp} {D:Addr} {ys zs:List V}
theorem zaM8 {x:DL.D} {v:V} (hD:H D=none) (hk:K.lookup D=none) (h:RD K Z m H x v):RD K (rsv Z D) m (upd H D (.lst ys)) x v:=by
 cases x with
 | dat p=>exact RP.tr (fun a vs q=>SqT.same (zc6 hD) q) (zaq5 hD hk) p v h
 | cel a=>exact h
theorem zaO1 {x:DL.D} {v:V} (hD:H D=some (.lst ys)) (h:RD K (rsv Z D) m H x v):RD K (rsv Z D) m (upd H D (.lst zs)) x v:=by
 cases x with
 | dat p=>exact RP.tr (zF1 hD) zT0 p v h
 | cel a=>exact h
theorem zaN4 (ok:Ok K Z m H) (hD:H D=none) (hk:K.lookup D=none):Ok K (rsv Z D) m (upd H D (.lst ys)):=by
 refine ⟨fun a c h=>?_,fun a h=>?_⟩
 ·obtain ⟨o,h1,h2⟩:=ok.g a c h
  have ne:a≠D:=by rintro rfl; rw [hD] at h1; cases h1
  exact ⟨o,by rw [zc9 ne]; exact h1,h2.lift fun p v q=>RP.tr (fun a vs q=>SqT.same (zc6 hD) q) (zaq5 hD hk) p v q⟩
 ·rcases h with h | h
  ·have ne:a≠D:=by rintro rfl; exact (ok.z a h).2 hD
   exact ⟨(ok.z a h).1,by rw [zc9 ne]; exact (ok.z a h).2⟩
  ·subst h
   exact ⟨(zn6 ok hD).1,by rw [zc5]; intro z; cases z⟩
theorem zax5 (ok:Ok K (rsv Z D) m H) (hD:H D=some (.lst ys)):Ok K (rsv Z D) m (upd H D (.lst zs)):=by
 refine ⟨fun a c h=>?_,fun a h=>?_⟩
 ·obtain ⟨o,h1,h2⟩:=ok.g a c h
  have ne:a≠D:=by
   rintro rfl
   have:=(ok.z a (.inr rfl)).1
   rw [h] at this
   cases this
  exact ⟨o,by rw [zc9 ne]; exact h1,h2.lift fun p v q=>RP.tr (zF1 hD) zT0 p v q⟩
 ·by_cases e:a=D
  ·subst e
   exact ⟨(ok.z a h).1,by rw [zc5]; intro z; cases z⟩
  ·exact ⟨(ok.z a h).1,by rw [zc9 e]; exact (ok.z a h).2⟩
theorem zaN5 (ok:Ok K (rsv Z D) m H):Ok K Z m H:=by
 refine ⟨fun a c h=>?_,fun a h=>ok.z a (.inl h)⟩
 obtain ⟨o,h1,h2⟩:=ok.g a c h
 exact ⟨o,h1,h2.lift fun p v q=>RP.tr (fun _ _ q=>q) (fun a vs q1 q2=>⟨⟨q1.1,fun z=>q1.2 (.inl z)⟩,q2⟩) p v q⟩
theorem zx7 (e:Ext K Z m1 H1 m H) (hD:H1 D=none) (hk:K.lookup D=none) (e2:Ext K (rsv Z D) m H m' H'):Ext K Z m1 H1 m' H' :=
 ⟨fun a vs h=>e2.t a vs (e.t a vs h),fun a vs h1 h2=>let ⟨q1,q2⟩:=e.l a vs h1 h2; e2.l a vs ⟨q1,fun z=>z.elim h1.2 (SqL.ne hD hk h2)⟩ q2,fun a h=>(e2.z a (.inl h)).trans (e.z a h),fun a h=>e2.c a (e.c a h)⟩
theorem zaH4 (e:Ext K Z m1 H1 m H) (ok1:Ok K Z m1 H1) (hD:H1 D=none) (hk:K.lookup D=none) (hH:H D=some (.lst ys)):Ext K Z m1 H1 m (upd H D (.lst zs)) :=
 ⟨fun a vs h=>zF1 hH a vs (e.t a vs h),fun a vs h1 h2=>let ⟨q1,q2⟩:=e.l a vs h1 h2; ⟨q1,zak6 (SqL.ne hD hk h2) q2⟩,fun a h=>by
  have ne:a≠D:=by rintro rfl; exact (ok1.z a h).2 hD
  rw [zc9 ne]
  exact e.z a h,e.c⟩
end
def zp7 (g:DG) (t:DT) (f:DE):List D→List PyData→St2→Mu→(List PyData→Mu→Prop)→Prop
 | [],acc,_,m,Q=>Q acc m
 | x :: xs,acc,d,m,Q=>g x d m fun d1 m1=>t d1 m1 fun b m2=>if b=true then f d1 m2 fun y m3=>∃ p,y=.dat p∧acc.length < sizeLine∧zp7 g t f xs (acc++[p]) d1 m3 Q else zp7 g t f xs acc d1 m2 Q
def zg9 {α:Type} (src:List (Option Nat)) (d:List (Option α)):List (Option α):=src.map fun o=>o.bind fun j=>(d[j]?).join
@[simp] def dLC (src:List (Option Nat)) (fi:DI) (g:DG) (t:DT) (f:DE):DE:=fun d m Q=>fi d m fun xs m1=>zp7 g t f xs [] (zg9 src d) m1 fun ps m2=>Q (.dat (.list ps)) m2
def PF (Y:Cx) (ifs:List Expr) (t:TT):Prop:=∀ (pins:List (Addr×Obj)) (s:Shared) (σ:L2.St) (H:Hp) (Q:Bool→Hp→Prop),Inv Y pins σ H s→t σ H Q →
 wpAny (model Y.prog Y.w) Y.A (forIn ifs true fun c r=>if r=true then do let ok ← isTrue c Y.env (eval c Y.env); pure (ForInStep.yield ok) else pure (ForInStep.yield r)) (TP Y pins σ Q) Y.xe s
@[simp] def zK2:DT:=fun _ m Q=>Q true m
theorem zbb2 {Y:Cx}:PF Y [] (LT Y.K zK2):=fun pins s σ H Q I h=>by
 obtain ⟨Z,d,m,R,ok,rs,h,k⟩:=h
 exact wpAny_tests_nil ⟨H,I,k true m H h Ext.refl ok⟩
theorem zaZ5 {Y:Cx} {c:Expr} {t:TT} (h:PT Y c t):PF Y [c] t:=fun pins s σ H Q I q=>wpAny_tests_one (h pins s σ H Q I q)
theorem zaM5 {K:PySem.W.Frag} {Z:Addr→Prop} {m:Mu} {H:Hp} {d:St2} {σ:L2.St} (src:List (Option Nat)) (rs:RS K Z m H d σ):RS K Z m H (zg9 src d) (zg9 src σ):=by
 refine ⟨by unfold zg9; rw [List.length_map,List.length_map],fun i x h=>?_⟩
 unfold zg9 at h ⊢
 rw [List.getElem?_map] at h ⊢
 cases e:src[i]? with
 | none=>rw [e] at h; cases h
 | some o =>
  rw [e] at h
  cases o with
  | none=>cases h
  | some j =>
   have h':(d[j]?).join=some x:=Option.some.inj h
   cases ej:d[j]? with
   | none=>rw [ej] at h'; cases h'
   | some w =>
    rw [ej] at h'
    have h2:w=some x:=h'
    subst h2
    obtain ⟨v,q1,q2⟩:=rs.2 j x ej
    exact ⟨v,by rw [Option.map_some,Option.bind_some,q1]; rfl,q2⟩
theorem zai7 {α:Type} {src:List (Option Nat)} {d:List (Option α)} {i:Nat} {v:α} (h:(zg9 src d)[i]?=some (some v)):∃ j:Nat,src[i]?=some (some j)∧d[j]?=some (some v):=by
 unfold zg9 at h
 rw [List.getElem?_map] at h
 cases e:src[i]? with
 | none=>rw [e] at h; cases h
 | some o =>
  rw [e] at h
  cases o with
  | none=>cases h
  | some j =>
   have h':(d[j]?).join=some v:=Option.some.inj h
   cases ej:d[j]? with
   | none=>rw [ej] at h'; cases h'
   | some w =>
    rw [ej] at h'
    have h2:w=some v:=h'
    subst h2
    exact ⟨j,rfl,ej⟩
end DL
namespace DL
open PySem PySem.Spec PyProof.Rows L2
theorem zaq3 {K:PySem.W.Frag} {Z:Addr→Prop} {m1 m':Mu} {H1 H':Hp} {D:Addr} {x:DL.D} {v:V} (hD:H1 D=none) (hk:K.lookup D=none) (e:Ext K Z m1 H1 m' H') (h:RD K Z m1 H1 x v):RD K (rsv Z D) m' H' x v:=by
 cases x with
 | dat p=>exact RP.tr e.t (fun a vs h1 h2=>let ⟨q1,q2⟩:=e.l a vs h1 h2; ⟨⟨q1,fun z=>z.elim h1.2 (SqL.ne hD hk h2)⟩,q2⟩) p v h
 | cel a=>exact ⟨h.1,e.c a h.2⟩
section
variable {X:Cx} {tg iter elt:Expr} {ifs:List Expr} {scope:Scope} {NC:List Str} {fi:DI} {g:DG} {t:DT} {f:DE} {pos:Pos}
def zW8 (X:Cx) (scope:Scope) (NC:List Str) (src:List (Option Nat)):Prop:=NC.length=src.length∧∀ (i:Nat) (x:Str) (j:Nat),NC[i]?=some x→src[i]?=some (some j)→X.N[j]?=some x∧(x,NameKind.free)∈scope.names ∧
 ((relabel scope X.env).names.lookup x=some .cell∨(relabel scope X.env).names.lookup x=some .free)
structure Off (X:Cx) (pins:List (Addr×Obj)) (H:Hp) (C:Addr):Prop where
 h:H C=none
 l:C≠X.env.locals
 s:X.s₀.heap.objs.size≤C
 c:∀ x c,X.env.cells.lookup x=some c→c≠C
 p:∀ p∈X.pn++pins,p.1≠C
theorem Off.inv {pins:List (Addr×Obj)} {σ:L2.St} {H:Hp} {s:Shared} {C:Addr} {h':Heap} (o:Off X pins H C) (I:Inv X pins σ H s) (hs:Heap.SameBut C s.heap h'):Inv X pins σ H { s with heap:=h' } :=
 I.turned (t':=s.toks) (it:=C) (fun b ob hb e=>(hs.2 b hb).trans e) o.h o.l (.inr o.s) o.c o.p
theorem zal7 (src:List (Option Nat)) (hc:X.calm=true) (hi:PI X tg iter (LI X.K fi))
  (hg:∀ cl C s2 H2 pins fp,PG (cyOf X scope cl C NC s2 H2 pins fp) tg (LG X.K g)) (ht:∀ cl C s2 H2 pins fp,PF (cyOf X scope cl C NC s2 H2 pins fp) ifs (LT X.K t)) (he:∀ cl C s2 H2 pins fp,PE (cyOf X scope cl C NC s2 H2 pins fp) elt (LE X.K f))
  (hkind:scope.kind=.function) (hcell:∀ y∈scope.names,y.2≠.cell) (hnames:∀ y∈scope.names,y.2=.local→scope.names.lookup y.1=some .local)
  (hfree:∀ x,(x,NameKind.free)∈scope.names→X.env.kindOf x=some .cell∨X.env.kindOf x=some .free) (hsrc:zW8 X scope NC src)
  (hs:∀ x,foldedSetIterable iter X.env x=pure x) {use:Option (Value→Sem Unit)} {QQ:Value→Shared→Prop} {pos':Pos} {pins:List (Addr×Obj)} {s:Shared} {σ:L2.St} {H:Hp} {Z:Addr→Prop} {d:St2} {m:Mu} {RL:List PyData→Mu→Prop}
  (I:Inv X pins σ H s) (ok:Ok X.K Z m H) (rs:RS X.K Z m H d σ) (h:fi d m fun xs m1=>zp7 g t f xs [] (zg9 src d) m1 RL)
  (fin:∀ (s5:Shared) (C D:Addr) (H':Hp) (m':Mu) (ps:List PyData),RL ps m'→Ext X.K Z m H m' H'→Ok X.K Z m' H'→RD X.K Z m' H' (.dat (.list ps)) (.ref D)→(∃ mm,s5.heap.Ns C mm)→Inv X pins σ H' s5→Off X pins H' C→(m' D=none∧Ext X.K Z m H (updM m' D (.l ps)) H'∧Ok X.K Z (updM m' D (.l ps)) H') →
   compPost (model X.prog X.w) X.A X.xe use QQ (.ref D) C (.ok .next) s5) :
  wpAny (model X.prog X.w) X.A (comprehension (.ListComp elt [⟨tg,iter,ifs,0⟩] scope pos) scope X.env pos' (newList []) false (eval iter X.env) use) QQ X.xe s:=by
 obtain ⟨cl,hclos,hcl1,hcl2⟩:=zZ4 (scope:=scope) (env:=X.env) fun x hx=>I.ok.has x (hfree x hx)
 refine wpAny_comprehension_free (use:=use) rfl hs hclos hkind hnames ?_
 refine thn (hi pins s σ H (fun J H1=>∃ xs m1,Ext X.K Z m H m1 H1∧Ok X.K Z m1 H1∧zY8 X.K Z m1 H1 xs J∧zp7 g t f xs [] (zg9 src d) m1 RL) I
  ⟨Z,d,m,_,ok,rs,h,fun xs m1 H1 J q e1 ok1 y1=>⟨xs,m1,e1,ok1,y1,q⟩⟩) fun xv s₁ h₁=>thn h₁ fun itv s₂ h₂=>?_
 obtain ⟨it,fp,tn,J,H2,eit,I2,T,st2,f2,xs,m1,e1,ok1,yl,lp⟩:=h₂
 subst eit
 refine wpAny_newObj_type (wpAny_newFunctionEnv hcell (by intro y hy; simp at hy) (fun h₁ hns₁ hsb₁=>?_) hkind)
 dsimp only at hns₁ hsb₁ ⊢
 generalize hH2:s₂.heap.push { cls:=.type "list",dict:=none,data:=.seq ([]:List Value).toArray }=HP at hns₁ hsb₁ ⊢
 have hC:HP.objs.size=s₂.heap.objs.size + 1:=by rw [← hH2,Heap.size_push]
 have leC:s₂.heap.objs.size≤HP.objs.size:=by rw [hC]; exact Nat.le_succ _
 have old:∀ b o,s₂.heap.get? b=some o→h₁.get? b=some o:=fun b o e=>hsb₁.extBut b o (Nat.ne_of_lt (Nat.lt_of_lt_of_le (Heap.lt_size e) leC)) (Heap.get?_push_of_some _ (hH2 ▸ Heap.get?_push_of_some _ e))
 have hacc:h₁.get? s₂.heap.objs.size=some { cls:=.type "list",data:=.seq ([]:List Value).toArray }:=hsb₁.extBut _ _ (by rw [hC]; exact Nat.ne_of_lt (Nat.lt_succ_self _)) (Heap.get?_push_of_some _ (hH2 ▸ Heap.get?_push_size _ rfl))
 have hD:H2 s₂.heap.objs.size=none:=I2.hok.fresh (Nat.le_refl _)
 have hkD:X.K.lookup s₂.heap.objs.size=none:=by
  cases e:X.K.lookup s₂.heap.objs.size with
  | none=>rfl
  | some o=>exact absurd (Heap.lt_size (I2.kIn _ o e)) (Nat.lt_irrefl _)
 have obf:∀ b∈fp,∃ o,s₂.heap.get? b=some o∧∀ v,o.data≠.cell v:=T.obj 0 _ st2
 have hσ:∀ (i:Nat) (x:Str) (v:V),NC[i]?=some x→(zg9 src σ)[i]?=some (some v)→Vis (relabel scope X.env) x→((relabel scope X.env).names.lookup x=some .cell∨(relabel scope X.env).names.lookup x=some .free)∧(X.env.kindOf x=some .cell∨X.env.kindOf x=some .free)∧∃ j:Nat,X.N[j]?=some x∧σ[j]?=some (some v):=fun i x v h1 h2 _=>by
  obtain ⟨j,q1,q2⟩:=zai7 h2
  obtain ⟨a1,a2,a3⟩:=hsrc.2 i x j h1 q1
  exact ⟨a3,hfree x a2,j,a1,q2⟩
 have I4:=fun tk=>zas9 (cl:=cl) (NC:=NC) (σ':=zg9 src σ) (tk:=tk) I2 f2 obf hkind hcell hcl1 hcl2 (by unfold zg9; rw [List.length_map]; exact hsrc.1.symm) hσ hC hns₁ old hacc
 have st4:tn 0 h₁:=T.keep 0 _ _ st2 fun b _ o e=>old b o e
 -- the loop
 have loop:∀ s₃:Shared,s₃={ s₂ with heap:=h₁,toks:=s₂.toks + ([]:List (Str×Value)).length } →
   codeAny (model X.prog X.w) X.A (.compLoop (.ListComp elt [⟨tg,iter,ifs,0⟩] scope pos) 0 (.ref it) (.ref s₂.heap.objs.size) (compEnvC scope cl HP.objs.size X.env))
    (compPost (model X.prog X.w) X.A X.xe use QQ (.ref s₂.heap.objs.size) HP.objs.size) s₃:=by
  rintro s₃ rfl
  refine zay6 (fun n s'=>∃ (i:Nat) (ys:List V) (acc:List PyData) (d':St2) (m':Mu) (σ':L2.St) (H':Hp),n=xs.length - i∧i≤xs.length∧Inv (cyOf X scope cl HP.objs.size NC s₂ H2 pins fp) [] σ' H' s'∧tn i s'.heap∧(∀ b∈fp,H' b=none) ∧
   H' s₂.heap.objs.size=some (.lst ys)∧RPs X.K (rsv Z s₂.heap.objs.size) m' H' acc ys∧Ext X.K Z m1 H2 m' H'∧Ok X.K (rsv Z s₂.heap.objs.size) m' H'∧RS X.K (rsv Z s₂.heap.objs.size) m' H' d' σ' ∧
   zp7 g t f (xs.drop i) acc d' m' RL) ?_ xs.length ?_
  rotate_left
  ·have rs1:RS X.K Z m1 H2 (zg9 src d) (zg9 src σ):=zaM5 src (rs.ext e1)
   refine ⟨0,[],[],zg9 src d,m1,zg9 src σ,_,by simp,Nat.zero_le _,I4 _,st4,fun b hb=>?_,zc5,by simp [RPs],ok1.ext (zc6 hD),zaN4 ok1 hD hkD,⟨rs1.1,fun i x hx=>?_⟩,by simpa using lp⟩
   ·obtain ⟨o,ho,_⟩:=obf b hb
    rw [zc9 (Nat.ne_of_lt (Heap.lt_size ho))]
    exact (f2 b hb).1
   ·obtain ⟨v,q1,q2⟩:=rs1.2 i x hx
    exact ⟨v,q1,zaM8 hD hkD q2⟩
  rintro n s4 ⟨i,ys,acc,d',m',σ',H',rfl,hi',I5,st5,fr5,hDy,racc,eX,ok5,rs5,lp5⟩
  have stat:∀ b∈fp,FpOk (cyOf X scope cl HP.objs.size NC s₂ H2 pins fp) [] H' b:=fun b hb=>by
   obtain ⟨g0,g1,g2,g3,g4,g5⟩:=f2 b hb
   obtain ⟨o,ho,_⟩:=obf b hb
   refine ⟨fr5 b hb,Nat.ne_of_lt (Nat.lt_of_lt_of_le (Heap.lt_size ho) leC),fun z=>?_,.inl hb,fun x c e=>g4 x c (hcl1 (x,c) (zq7 e)),fun p hp=>?_⟩
   ·rcases List.mem_cons.mp (I2.stkSub b z) with q | q
    ·exact g1 q
    ·exact g2 q
   ·rcases List.mem_append.mp hp with q | q
    ·exact g5 p q
    ·cases q
  obtain ⟨y1,y2⟩:=yl m' H' eX.y
  by_cases hlt:i < xs.length
  ·rw [List.drop_eq_getElem_cons hlt] at lp5
   obtain ⟨go,yd⟩:=y1 i xs[i] (List.getElem?_eq_getElem hlt)
   refine thn (T.item (cyOf X scope cl HP.objs.size NC s₂ H2 pins fp) rfl rfl rfl hc i [] s4 σ' H' (fun _ _=>False) I5 stat st5 go) fun r s5 hq0=>?_
   obtain ⟨u,hr,h5⟩:=hq0
   subst hr
   refine thn h5 fun _ s6 hq0=>?_
   obtain ⟨x,H6,I6,r6,yy,st6,fr6⟩:=hq0
   have yy':=yd x H6 yy
   have e56:Ext X.K (rsv Z s₂.heap.objs.size) m' H' m' H6:=ok5.ext yy'.same
   have rv:=yy'.rd (fun d v h=>zaq3 hD hkD eX h) ok5
   have hDy:=yy'.same _ _ hDy
   have racc:=RPs.ext e56 _ _ racc
   have eX:=zx7 eX hD hkD e56
   have rs5:=rs5.ext e56
   have ok5:=ok5.grow yy'.same
   have stat:∀ b∈fp,FpOk (cyOf X scope cl HP.objs.size NC s₂ H2 pins fp) [] H6 b:=fun b hb=>⟨fr6 b hb,(stat b hb).2⟩
   have I6':=I6.pinned stat (T.obj _ _ st6)
   -- what stands when a turn is over
   have over:∀ {s7:Shared} {σ7:L2.St} {H7:Hp} {ys7:List V} {acc7:List PyData} {d7:St2} {m7:Mu},Inv (cyOf X scope cl HP.objs.size NC s₂ H2 pins fp) ([]++zT6 fp s6.heap) σ7 H7 s7→H7 s₂.heap.objs.size=some (.lst ys7)→RPs X.K (rsv Z s₂.heap.objs.size) m7 H7 acc7 ys7 →
     Ext X.K Z m1 H2 m7 H7→Ok X.K (rsv Z s₂.heap.objs.size) m7 H7→RS X.K (rsv Z s₂.heap.objs.size) m7 H7 d7 σ7→(zp7 g t f (xs.drop (i + 1)) acc7 d7 m7 RL) →
     ∃ n,n < xs.length - i∧∃ (i:Nat) (ys:List V) (acc:List PyData) (d':St2) (m':Mu) (σ':L2.St) (H':Hp),n=xs.length - i∧i≤xs.length∧Inv (cyOf X scope cl HP.objs.size NC s₂ H2 pins fp) [] σ' H' s7∧tn i s7.heap∧(∀ b∈fp,H' b=none) ∧
      H' s₂.heap.objs.size=some (.lst ys)∧RPs X.K (rsv Z s₂.heap.objs.size) m' H' acc ys∧Ext X.K Z m1 H2 m' H'∧Ok X.K (rsv Z s₂.heap.objs.size) m' H'∧RS X.K (rsv Z s₂.heap.objs.size) m' H' d' σ' ∧
      zp7 g t f (xs.drop i) acc d' m' RL:=by
    intro s7 σ7 H7 ys7 acc7 d7 m7 I7 a1 a2 a3 a4 a5 a6
    refine ⟨xs.length - (i + 1),by omega,i + 1,ys7,acc7,d7,m7,σ7,H7,rfl,hlt,I7.unpinned,T.keep _ _ _ st6 fun b hb o e=>(I7.pin (b,o) (List.mem_append_right _ (List.mem_append_right _ (zm5 hb e)))).1,fun b hb=>?_,a1,a2,a3,a4,a5,a6⟩
    obtain ⟨o,e,dd⟩:=T.obj _ _ st6 b hb
    exact (I7.pin (b,o) (List.mem_append_right _ (List.mem_append_right _ (zm5 hb e)))).2.1
   refine thn (hg cl _ s₂ H2 pins fp _ s6 σ' _ x u (fun σ7 H7=>∃ d7 m7,Ext X.K (rsv Z s₂.heap.objs.size) m' H6 m7 H7∧Ok X.K (rsv Z s₂.heap.objs.size) m7 H7∧RS X.K (rsv Z s₂.heap.objs.size) m7 H7 d7 σ7 ∧
    t d7 m7 fun b m2=>if b=true then f d7 m2 fun y m3=>∃ p,y=.dat p∧acc.length < sizeLine∧zp7 g t f (xs.drop (i + 1)) (acc++[p]) d7 m3 RL else zp7 g t f (xs.drop (i + 1)) acc d7 m2 RL) I6' r6
    ⟨_,xs[i],d',m',_,ok5,rs5,rv,lp5,fun d7 m7 σ7 H7 q7 e7 ok7 rs7=>⟨d7,m7,e7,ok7,rs7,q7⟩⟩) fun _ s7 hq0=>?_
   obtain ⟨σ7,H7,I7,d7,m7,e7,ok7,rs7,q7⟩:=hq0
   refine thn (ht cl _ s₂ H2 pins fp _ s7 σ7 H7 (fun b H8=>∃ m8,Ext X.K (rsv Z s₂.heap.objs.size) m7 H7 m8 H8∧Ok X.K (rsv Z s₂.heap.objs.size) m8 H8 ∧
    if b=true then f d7 m8 fun y m3=>∃ p,y=.dat p∧acc.length < sizeLine∧zp7 g t f (xs.drop (i + 1)) (acc++[p]) d7 m3 RL else zp7 g t f (xs.drop (i + 1)) acc d7 m8 RL) I7
    ⟨_,d7,m7,_,ok7,rs7,q7,fun b m8 H8 q8 e8 ok8=>⟨m8,e8,ok8,q8⟩⟩) fun b s8 hq0=>?_
   obtain ⟨H8,I8,m8,e8,ok8,q8⟩:=hq0
   have e68:=e7.trans e8
   have hD8:H8 s₂.heap.objs.size=some (.lst ys):=(e68.z _ (.inr rfl)).trans hDy
   cases b with
   | false =>
    rw [if_neg Bool.false_ne_true] at q8
    exact over I8 hD8 (RPs.ext e68 _ _ racc) (zx7 eX hD hkD e68) ok8 (rs7.ext e8) q8
   | true =>
    rw [if_pos rfl] at q8
    refine thn (he cl _ s₂ H2 pins fp _ s8 σ7 H8 (fun v H9=>∃ p m9,RP X.K (rsv Z s₂.heap.objs.size) m9 H9 p v∧Ext X.K (rsv Z s₂.heap.objs.size) m8 H8 m9 H9∧Ok X.K (rsv Z s₂.heap.objs.size) m9 H9∧acc.length < sizeLine∧zp7 g t f (xs.drop (i + 1)) (acc++[p]) d7 m9 RL) I8
     ⟨_,d7,m8,_,ok8,rs7.ext e8,q8,fun y m9 v H9 hq1 e9 ok9 r9=>by
      obtain ⟨p,ey,hz,q9⟩:=hq1
      subst ey
      exact ⟨p,m9,r9,e9,ok9,hz,q9⟩⟩) fun yv s9 hq0=>?_
    obtain ⟨y,H9,I9,ry,p,m9,rp9,e9,ok9,hz,q9⟩:=hq0
    have e69:=e68.trans e9
    have hD9:H9 s₂.heap.objs.size=some (.lst ys):=(e69.z _ (.inr rfl)).trans hDy
    have racc9:=RPs.ext e69 _ _ racc
    have rs9:=(rs7.ext e8).ext e9
    refine thn (zT9 _ s9 σ7 H9 (.ref s₂.heap.objs.size) [y] (.ref s₂.heap.objs.size) [yv] (fun v H10=>H10=upd H9 s₂.heap.objs.size (.lst (ys++[y]))) I9 rfl (.cons ry .nil) ⟨_,ys,y,rfl,rfl,hD9,by rw [racc9.length]; exact hz,rfl⟩) fun rv s10 hq0=>?_
    obtain ⟨v10,H10,I10,_,e10⟩:=hq0
    subst e10
    refine over I10 zc5 ?_ (zaH4 (zx7 eX hD hkD e69) ok1 hD hkD hD9) (zax5 ok9 hD9) ⟨rs9.1,fun j z hj=>?_⟩ q9
    ·exact RPs.tr (zF1 hD9) zT0 _ _ (racc9.append (by simp only [RPs]; exact ⟨y,[],rfl,rp9,rfl⟩))
    ·obtain ⟨v,a1,a2⟩:=rs9.2 j z hj
     exact ⟨v,a1,zaO1 hD9 a2⟩
  ·have e:i=xs.length:=by omega
   subst e
   rw [List.drop_length] at lp5
   refine thn (T.done (cyOf X scope cl HP.objs.size NC s₂ H2 pins fp) rfl rfl rfl hc _ [] s4 σ' H' (fun _ _=>False) I5 stat st5 y2) fun r s5 hq0=>?_
   obtain ⟨hr,I6⟩:=hq0
   subst hr
   have IX:=zaM6 I2 f2 I6 leC (Heap.SameBut.refl _ _)
   have nz:¬ Z s₂.heap.objs.size:=fun z=>(ok1.z _ z).2 hD
   refine fin s5 HP.objs.size s₂.heap.objs.size H' m' acc lp5 (e1.trans eX) (zaN5 ok5) ?_ ⟨_,I6.loc.choose_spec.1⟩ IX ⟨I6.free,Nat.ne_of_gt (Nat.lt_of_lt_of_le I2.lt leC),Nat.le_trans I2.sz leC,fun x c e=>?_,fun p hp=>?_⟩ ⟨(ok5.z _ (.inr rfl)).1,?_,?_⟩
   ·simp only [RD,RP]
    exact ⟨_,ys,rfl,⟨(ok5.z _ (.inr rfl)).1,nz⟩,.inl (.inl hDy),RPs.tr (fun _ _ q=>q) (fun a vs q1 q2=>⟨⟨q1.1,fun z=>q1.2 (.inl z)⟩,q2⟩) _ _ racc⟩
   ·obtain ⟨v,q⟩:=I2.cell x c e
    exact Nat.ne_of_lt (Nat.lt_of_lt_of_le q.lt leC)
   ·exact Nat.ne_of_lt (Nat.lt_of_lt_of_le (Heap.lt_size (I2.pin p hp).1) leC)
   ·refine ⟨fun a vs q=>(e1.trans eX).t a vs q,fun a vs q1 q2=>?_,fun a q=>(e1.trans eX).z a q,fun a q=>?_⟩
    ·obtain ⟨_,q3⟩:=e1.l a vs q1 q2
     have ne:=SqL.ne hD hkD q3
     obtain ⟨q4,q5⟩:=(e1.trans eX).l a vs q1 q2
     exact ⟨by rw [ze1 ne]; exact q4,q5⟩
    ·by_cases ea:a=s₂.heap.objs.size
     ·subst ea; rw [zb1]; rfl
     ·rw [ze1 ea]; exact (e1.trans eX).c a q
   ·have tr:∀ (a:Addr) (vs:List V),(m' a=none∧¬ rsv Z s₂.heap.objs.size a)→SqL X.K H' a vs→(updM m' s₂.heap.objs.size (.l acc) a=none∧¬ Z a)∧SqL X.K H' a vs:=fun a vs q1 q2=>⟨⟨by rw [ze1 fun z=>q1.2 (.inr z)]; exact q1.1,fun z=>q1.2 (.inl z)⟩,q2⟩
    refine ⟨fun a c q=>?_,fun a q=>?_⟩
    ·by_cases ea:a=s₂.heap.objs.size
     ·subst ea
      rw [zb1] at q
      cases q
      exact ⟨_,hDy,RPs.tr (fun _ _ q=>q) tr _ _ racc⟩
     ·rw [ze1 ea] at q
      obtain ⟨o,q1,q2⟩:=ok5.g a c q
      exact ⟨o,q1,q2.lift fun p v q3=>RP.tr (fun _ _ q=>q) tr p v q3⟩
    ·have ne:a≠s₂.heap.objs.size:=fun z=>nz (z ▸ q)
     obtain ⟨q1,q2⟩:=ok5.z a (.inl q)
     exact ⟨by rw [ze1 ne]; exact q1,q2⟩
 exact codeAny_compStart_list (loop _ rfl) (T.self _ 0 _ _ _ st4 (loop _ rfl))
theorem zbh9 (src:List (Option Nat)) (hc:X.calm=true) (hi:PI X tg iter (LI X.K fi))
  (hg:∀ cl C s2 H2 pins fp,PG (cyOf X scope cl C NC s2 H2 pins fp) tg (LG X.K g)) (ht:∀ cl C s2 H2 pins fp,PF (cyOf X scope cl C NC s2 H2 pins fp) ifs (LT X.K t)) (he:∀ cl C s2 H2 pins fp,PE (cyOf X scope cl C NC s2 H2 pins fp) elt (LE X.K f))
  (hkind:scope.kind=.function) (hcell:∀ y∈scope.names,y.2≠.cell) (hnames:∀ y∈scope.names,y.2=.local→scope.names.lookup y.1=some .local)
  (hfree:∀ x,(x,NameKind.free)∈scope.names→X.env.kindOf x=some .cell∨X.env.kindOf x=some .free) (hsrc:zW8 X scope NC src)
  (hs:∀ x,foldedSetIterable iter X.env x=pure x:=by intro _; rfl) :
  PE X (.ListComp elt [⟨tg,iter,ifs,0⟩] scope pos) (LE X.K (dLC src fi g t f)):=by
 intro pins s σ H Q I h
 obtain ⟨Z,d,m,R,ok,rs,h,k⟩:=h
 rw [eval_ListComp]
 refine zal7 src hc hi hg ht he hkind hcell hnames hfree hsrc hs (use:=none) (QQ:=EP X pins σ Q) (RL:=fun ps m2=>R (.dat (.list ps)) m2) I ok rs h ?_
 intro s5 C D H' m' ps q e ok' rd ⟨mm,hns⟩ I5 off hcl
 exact ⟨mm,hns,fun h' hs'=>⟨.ref D,H',off.inv I5 hs',rfl,k _ m' _ H' q e ok' rd⟩⟩
@[simp] def dLCC (src:List (Option Nat)) (fi:DI) (g:DG) (t:DT) (f:DE):DE:=fun d m Q=>fi d m fun xs m1=>zp7 g t f xs [] (zg9 src d) m1 fun ps m2=>∀ a,m2 a=none→Q (.cel a) (updM m2 a (.l ps))
theorem zbc2 (src:List (Option Nat)) (hc:X.calm=true) (hi:PI X tg iter (LI X.K fi))
  (hg:∀ cl C s2 H2 pins fp,PG (cyOf X scope cl C NC s2 H2 pins fp) tg (LG X.K g)) (ht:∀ cl C s2 H2 pins fp,PF (cyOf X scope cl C NC s2 H2 pins fp) ifs (LT X.K t)) (he:∀ cl C s2 H2 pins fp,PE (cyOf X scope cl C NC s2 H2 pins fp) elt (LE X.K f))
  (hkind:scope.kind=.function) (hcell:∀ y∈scope.names,y.2≠.cell) (hnames:∀ y∈scope.names,y.2=.local→scope.names.lookup y.1=some .local)
  (hfree:∀ x,(x,NameKind.free)∈scope.names→X.env.kindOf x=some .cell∨X.env.kindOf x=some .free) (hsrc:zW8 X scope NC src)
  (hs:∀ x,foldedSetIterable iter X.env x=pure x:=by intro _; rfl) :
  PE X (.ListComp elt [⟨tg,iter,ifs,0⟩] scope pos) (LE X.K (dLCC src fi g t f)):=by
 intro pins s σ H Q I h
 obtain ⟨Z,d,m,R,ok,rs,h,k⟩:=h
 rw [eval_ListComp]
 refine zal7 src hc hi hg ht he hkind hcell hnames hfree hsrc hs (use:=none) (QQ:=EP X pins σ Q) (RL:=fun ps m2=>∀ a,m2 a=none→R (.cel a) (updM m2 a (.l ps))) I ok rs h ?_
 intro s5 C D H' m' ps q e ok' rd ⟨mm,hns⟩ I5 off hcl
 exact ⟨mm,hns,fun h' hs'=>⟨.ref D,H',off.inv I5 hs',rfl,k _ _ _ H' (q D hcl.1) hcl.2.1 hcl.2.2 ⟨rfl,by rw [zb1]; rfl⟩⟩⟩
theorem zbj9 (i:Nat) {y:Str} {py spos:Pos} (src:List (Option Nat)) (hc:X.calm=true) (hi:PI X tg iter (LI X.K fi))
  (hg:∀ cl C s2 H2 pins fp,PG (cyOf X scope cl C NC s2 H2 pins fp) tg (LG X.K g)) (ht:∀ cl C s2 H2 pins fp,PF (cyOf X scope cl C NC s2 H2 pins fp) ifs (LT X.K t)) (he:∀ cl C s2 H2 pins fp,PE (cyOf X scope cl C NC s2 H2 pins fp) elt (LE X.K f))
  (hkind:scope.kind=.function) (hcell:∀ y∈scope.names,y.2≠.cell) (hnames:∀ y∈scope.names,y.2=.local→scope.names.lookup y.1=some .local)
  (hfree:∀ x,(x,NameKind.free)∈scope.names→X.env.kindOf x=some .cell∨X.env.kindOf x=some .free) (hsrc:zW8 X scope NC src)
  (hN:X.N.Nodup) (hi2:X.N[i]?=some y:=by rfl) (hx:Loc X.env.scope y:=by first | exact Or.inl rfl | exact Or.inr rfl) (hf:X.fn y=true∨X.env.scope.names.lookup y=some .local:=by first | exact .inl rfl | exact .inr rfl)
  (hsw:swapsWith (.ListComp elt [⟨tg,iter,ifs,0⟩] scope pos) (some (.Name y py)) spos.line X.env=pure true:=by rfl)
  (hs:∀ x,foldedSetIterable iter X.env x=pure x:=by intro _; rfl) :
  PS X (.Assign [.Name y py] (.ListComp elt [⟨tg,iter,ifs,0⟩] scope pos) spos) (LS X.K (dSet i (dLC src fi g t f))):=by
 intro pins s σ H E I h
 obtain ⟨Z,d,m,R,ok,rs,h,k,_⟩:=h
 rw [exec_Assign_Name_used _ _ _ _ hsw]
 refine wpAny_bind (wpAny_standAt (wpAny_bind ?_))
 rw [arm_evalThenUse_ListComp]
 refine wpAny_bind ?_
 refine thn (zal7 src hc hi hg ht he hkind hcell hnames hfree hsrc hs (use:=some (assign (.Name y py) X.env)) (QQ:=fun _ s'=>SP X pins E .next s') (RL:=fun ps m2=>R.nx (d.set i (some (.dat (.list ps)))) m2) I ok rs h ?_) (fun _ s' q=>wpAny_pure (wpAny_pure q))
 intro s5 C D H' m' ps q e ok' rd ⟨mm,hns⟩ I5 off hcl
 show wpAny _ X.A (assign (.Name y py) X.env (.ref D)) _ _ s5
 refine wpAny_assign_Name (zag5 I5 hN hi2 hx (v:=.ref D) rfl (fun s6 I6 ⟨a,hs6,ha⟩=>?_) hf)
 have ne:C≠a:=by
  rcases ha with rfl | ha
  ·exact off.l
  ·exact Ne.symm (off.c _ _ ha)
 refine ⟨mm,hns.sameBut hs6 ne,fun h' hs'=>?_⟩
 exact ⟨_,H',off.inv I6 hs',k _ m' _ H' q e ok' ((rs.ext e).set rd)⟩
end
end DL
namespace DL
open PySem PySem.Spec PyProof.Rows L2
section
variable {prog:Program} {w:World} {A:Around} {E:Value→Shared→Prop} {s:Shared}
def IsRv (h:Heap) (a t:Addr) (i:Int):Prop:=∃ o,h.get? a=some o∧o.cls=.type "reversed"∧o.data=.fields #[.ref t,rawInt i]
theorem IsRv.typeIs {a t:Addr} {i:Int} (x:IsRv s.heap a t i):s.TypeIs (.ref a) "reversed":=let ⟨o,ho,hc,_⟩:=x; ⟨o,ho,hc⟩
end
end DL
namespace DL
open PySem PySem.Spec PyProof.Rows L2
theorem zaF7 (l:Addr) (items:Array Value) (x:Value) (e:Value→Bool) (j:Nat) (hj:j < items.size) (hit:e items[j]=true) (hno:∀ m (hm:m < items.size),m < j→e items[m]=false) :
  Meets (Builtin.«tuple.index» ⟨[.ref l,x],[]⟩) (fun A R s=>IsTup s.heap l items∧(∀ y,y∈items→SeqAt.EqAt A.in1 s y x (e y))∧R (.ok (.ret (.int j s.toks))) { s with toks:=s.toks + 1 }) :=
 .of_wp fun prog w A R s h=>by
  obtain ⟨ht,he,h⟩:=h
  unfold Builtin.«tuple.index»
  refine wpAny_bind (wpAny_of_eq (a:=(Value.ref l,[x])) rfl ?_)
  try dsimp only
  refine wpAny_bind (tupleItemsOf_ ht ?_)
  try dsimp only
  refine wpAny_bind (wpAny_pure (wpAny_bind (wpAny_pure ?_)))
  rw [Nat.min_self,Std.Legacy.Range.forIn_eq_forIn_range']
  refine wpAny_bind (wpAny_forIn_list _ (fun rest b s'=>s'=s∧∃ k,k≤j∧rest=List.range' k (items.size - k)) _ ?_ ?_ _ _ ?_)
  ·rintro i rest b s' ⟨rfl,k,hk,hr⟩
   have hlt:k < items.size:=by omega
   obtain ⟨n,hn⟩:∃ n,items.size - k=n + 1:=⟨items.size - k - 1,by omega⟩
   rw [hn,List.range'_succ] at hr
   obtain ⟨rfl,rfl⟩:=List.cons.inj hr
   have hx:items[i]?=some items[i]:=Array.getElem?_eq_getElem hlt
   simp only [hx]
   refine wpAny_bind (he _ (Array.getElem_mem hlt) prog w _ _ ?_)
   by_cases hij:i=j
   ·subst hij
    rw [hit]
    exact wpAny_bind (wpAny_bind (wpAny_mkInt (wpAny_pure (wpAny_pure (wpAny_pure ⟨_,rfl,h⟩)))))
   ·rw [hno i hlt (by omega)]
    exact wpAny_pure ⟨rfl,i + 1,by omega,by congr 1; omega⟩
  ·rintro b s' ⟨rfl,k,hk,hr⟩
   have:=congrArg List.length hr
   rw [List.length_range'] at this
   simp at this
   omega
  ·exact ⟨rfl,0,Nat.zero_le _,by simp [Std.Legacy.Range.size]⟩
theorem zW7:∀ {zs:List Str} {us:List Value},Vals (zs.map V.str) us→∀ i (h:i < us.length) (h2:i < zs.length),∃ t,us[i]=.str zs[i] t
 | [],_,.nil,i,h,_=>absurd h (Nat.not_lt_zero _)
 | z :: zs,_,.cons r t,0,_,_=>let ⟨k,e⟩:=r; ⟨k,e⟩
 | z :: zs,_,.cons r t,i + 1,h,h2=>zW7 t i (Nat.lt_of_succ_lt_succ h) (Nat.lt_of_succ_lt_succ h2)
theorem zax0 {y:Str}:∀ (zs:List Str) (m:Nat) (h:m < zs.length),m < zs.idxOf y→zs[m]≠y
 | [],_,h,_=>absurd h (Nat.not_lt_zero _)
 | z :: zs,0,_,h=>by
  intro e
  rw [List.getElem_cons_zero] at e
  rw [e,List.idxOf_cons_self] at h
  exact absurd h (Nat.lt_irrefl _)
 | z :: zs,m + 1,hl,h=>by
  rw [List.getElem_cons_succ]
  refine zax0 zs m (Nat.lt_of_succ_lt_succ hl) ?_
  rw [List.idxOf_cons] at h
  cases e:z == y with
  | true=>simp [e] at h
  | false=>simp [e] at h; omega
section
variable {X:Cx} {a e o:Expr} {es:List Expr} {f g:DE} {ga:DA} {pos p p1 p2:Pos}
def zbh6 (K:PySem.W.Frag):V→List V→Hp→VK→Prop:=fun x xs H Q=>∃ (a:Addr) (y:Str) (zs:List Str),x=.ref a∧xs=[.str y]∧SqT K H a (zs.map V.str)∧y∈zs∧Q (.int (zs.idxOf y:Nat)) H
theorem zaP2:MtR X "tuple.index" (zbh6 X.K):=by
 intro pins s σ H x xs v us Q I rx rs ⟨a,y,zs,e1,e2,hq,hk,q⟩
 subst e1 e2
 cases rx
 obtain ⟨u,rfl,ru⟩:=zS0 rs
 obtain ⟨tk,rfl⟩:=id ru
 obtain ⟨its,rv,p,hz⟩:=I.tuple hq
 have hl:=rv.length
 rw [List.length_map] at hl
 have hj:zs.idxOf y < zs.length:=List.idxOf_lt_length_iff.mpr hk
 have hit:∀ m (hm:m < its.toArray.size) (hm2:m < zs.length),eqU (.str y) its.toArray[m]=(zs[m] == y):=fun m hm hm2=>by
  obtain ⟨t,e⟩:=zW7 rv m (by simpa using hm) hm2
  have e':its.toArray[m]=.str zs[m] t:=by simpa using e
  rw [e']
  rfl
 have hfl:(zs.map V.str).all zO7=true:=by
  rw [List.all_eq_true]
  intro v hv
  obtain ⟨z,_,rfl⟩:=List.mem_map.mp hv
  rfl
 refine call_meets PySem.F.slot_tuple_index p.typeIs PySem.F.entry_tuple_index (PySem.F.args_tuple_index_2 _ _) (zaF7 a its.toArray (.str y tk) (eqU (.str y)) (zs.idxOf y) (by rw [List.size_toArray]; omega) ?_ ?_) ⟨p,?_,?_⟩
 ·rw [hit _ _ hj,List.getElem_idxOf hj]
  simp
 ·intro m hm hlt
  have hm2:m < zs.length:=by omega
  rw [hit m hm hm2]
  simp only [beq_eq_false_iff_ne]
  exact zax0 _ _ hm2 hlt
 ·exact fun w hw=>zM3 (x:=.str y) ⟨tk,rfl⟩ rfl rv hfl w (by simpa using hw)
 ·exact ⟨.int _,H,I.tok _,⟨_,rfl⟩,q⟩
theorem zp9 {K:PySem.W.Frag} {Z:Addr→Prop} {m:Mu} {H:Hp}:∀ {zs:List Str} {vs:List V},RPs K Z m H (zs.map PyData.str) vs→vs=zs.map V.str
 | [],vs,h=>by simpa [RPs] using h
 | z :: zs,vs,h=>by
  simp only [List.map_cons,RPs] at h
  obtain ⟨v,r,rfl,h1,h2⟩:=h
  simp only [RP] at h1
  subst h1
  rw [zp9 h2]
  rfl
theorem zS3 {K:PySem.W.Frag} {Z:Addr→Prop} {m:Mu} {H:Hp}:∀ (zs:List Str),RPs K Z m H (zs.map PyData.str) (zs.map V.str)
 | []=>by simp [RPs]
 | z :: zs=>by
  simp only [List.map_cons,RPs]
  exact ⟨_,_,rfl,by simp only [RP],zS3 zs⟩
def KT (K:PySem.W.Frag) (a:Addr) (zs:List Str):Prop:=∃ (o:Obj) (its:Array Value) (n:Nat),K.lookup a=some o∧o.cls=.type "tuple"∧o.dict=none∧o.data=.seq its n∧its.size≤sizeLine∧Vals (zs.map V.str) its.toList
theorem KT.sq {K:PySem.W.Frag} {a:Addr} {zs:List Str} {H:Hp} (h:KT K a zs):SqT K H a (zs.map V.str):=by
 obtain ⟨o,its,n,h1,h2,h3,h4,h5,h6⟩:=h
 exact .inr ⟨o,its,n,h1,⟨h2,h3⟩,h4,h5,h6⟩
theorem zba4 {x:Str} {c:Addr} {zs:List Str} (hg:Gl X x) (hm:X.mg x=some (.ref c)) (hk:KT X.K c zs) (hd:(x == ("__debug__" : Str))=false:=by decide):PE X (.Name x pos) (LE X.K (dCon (.tuple (zs.map .str)))) :=
 PE.imp (zan2 (v:=.ref c) hg hm rfl hd) fun s H Q h=>by
  obtain ⟨Z,d,m,R,ok,rs,h,k⟩:=h
  refine k _ m _ H h Ext.refl ok ?_
  simp only [RD,RP]
  exact ⟨c,_,rfl,hk.sq,zS3 zs⟩
@[simp] def aIn:D2
 | .dat (.str x),.dat (.list ys),m,Q=>∃ zs:List Str,ys=zs.map .str∧Q (.dat (.bool (decide (x∈zs)))) m
 | .dat (.str x),.dat (.tuple ys),m,Q=>∃ zs:List Str,ys=zs.map .str∧Q (.dat (.bool (decide (x∈zs)))) m
 | .dat (.bool x),.dat (.list ys),m,Q=>∃ zs:List Bool,ys=zs.map .bool∧Q (.dat (.bool (decide (x∈zs)))) m
 | .dat (.bool x),.dat (.tuple ys),m,Q=>∃ zs:List Bool,ys=zs.map .bool∧Q (.dat (.bool (decide (x∈zs)))) m
 | .dat (.int x),.dat (.list ys),m,Q=>∃ zs:List Int,ys=zs.map .int∧Q (.dat (.bool (decide (x∈zs)))) m
 | .dat (.int x),.dat (.tuple ys),m,Q=>∃ zs:List Int,ys=zs.map .int∧Q (.dat (.bool (decide (x∈zs)))) m
 | _,_,_,_=>False
theorem zS9 (x:Str):∀ zs:List Str,inV (.str x) (zs.map V.str)=decide (x∈zs)
 | []=>rfl
 | z :: zs=>by
  have ih:=zS9 x zs
  unfold inV at ih ⊢
  rw [List.map_cons,List.any_cons,ih]
  show (z == x || decide (x∈zs))=decide (x∈z :: zs)
  rw [Bool.eq_iff_iff]
  simp only [Bool.or_eq_true,beq_iff_eq,decide_eq_true_eq,List.mem_cons]
  exact ⟨fun h=>h.imp Eq.symm id,fun h=>h.imp Eq.symm id⟩
theorem zU9 (zs:List Str):(zs.map V.str).all zO7=true:=by
 rw [List.all_eq_true]
 intro v hv
 obtain ⟨z,_,rfl⟩:=List.mem_map.mp hv
 rfl
theorem zT4 (x:Bool):∀ zs:List Bool,inV (.bl x) (zs.map V.bl)=decide (x∈zs)
 | []=>rfl
 | z :: zs=>by
  have ih:=zT4 x zs
  unfold inV at ih ⊢
  rw [List.map_cons,List.any_cons,ih]
  show (z == x || decide (x∈zs))=decide (x∈z :: zs)
  rw [Bool.eq_iff_iff]
  simp only [Bool.or_eq_true,beq_iff_eq,decide_eq_true_eq,List.mem_cons]
  exact ⟨fun h=>h.imp Eq.symm id,fun h=>h.imp Eq.symm id⟩
theorem zZ0 (zs:List Bool):(zs.map V.bl).all zO7=true:=by
 rw [List.all_eq_true]
 intro v hv
 obtain ⟨z,_,rfl⟩:=List.mem_map.mp hv
 rfl
theorem zO5 {K:PySem.W.Frag} {Z:Addr→Prop} {m:Mu} {H:Hp}:∀ {zs:List Bool} {vs:List V},RPs K Z m H (zs.map PyData.bool) vs→vs=zs.map V.bl
 | [],vs,h=>by simpa [RPs] using h
 | z :: zs,vs,h=>by
  simp only [List.map_cons,RPs] at h
  obtain ⟨v,r,rfl,h1,h2⟩:=h
  simp only [RP] at h1
  subst h1
  rw [zO5 h2]
  rfl
theorem zad5 (x:Int):∀ zs:List Int,inV (.int x) (zs.map V.int)=decide (x∈zs)
 | []=>rfl
 | z :: zs=>by
  have ih:=zad5 x zs
  unfold inV at ih ⊢
  rw [List.map_cons,List.any_cons,ih]
  show (z == x || decide (x∈zs))=decide (x∈z :: zs)
  rw [Bool.eq_iff_iff]
  simp only [Bool.or_eq_true,beq_iff_eq,decide_eq_true_eq,List.mem_cons]
  exact ⟨fun h=>h.imp Eq.symm id,fun h=>h.imp Eq.symm id⟩
theorem zag3 (zs:List Int):(zs.map V.int).all zO7=true:=by
 rw [List.all_eq_true]
 intro v hv
 obtain ⟨z,_,rfl⟩:=List.mem_map.mp hv
 rfl
theorem zW0 {K:PySem.W.Frag} {Z:Addr→Prop} {m:Mu} {H:Hp}:∀ {zs:List Int} {vs:List V},RPs K Z m H (zs.map PyData.int) vs→vs=zs.map V.int
 | [],vs,h=>by simpa [RPs] using h
 | z :: zs,vs,h=>by
  simp only [List.map_cons,RPs] at h
  obtain ⟨v,r,rfl,h1,h2⟩:=h
  simp only [RP] at h1
  subst h1
  rw [zW0 h2]
  rfl
theorem zba7:OpD X (compareOp .In) aIn:=by
 intro pins s σ H Z m x y dx dy v u R Q I ok rx ry r1 r2 h k
 unfold aIn at h
 split at h
 ·obtain ⟨zs,rfl,q⟩:=h
  cases r1.str
  simp only [RD,RP] at r2
  obtain ⟨a,vs,rfl,_,h1,h2⟩:=r2
  cases zp9 h2
  refine zt4 pins s σ H _ _ v u Q I rx ry ⟨a,_,rfl,.inl h1,rfl,zU9 zs,?_⟩
  rw [if_neg Bool.false_ne_true,zS9]
  exact k _ m _ H q Ext.refl ok .ofBl
 ·obtain ⟨zs,rfl,q⟩:=h
  cases r1.str
  simp only [RD,RP] at r2
  obtain ⟨a,vs,rfl,h1,h2⟩:=r2
  cases zp9 h2
  refine zt4 pins s σ H _ _ v u Q I rx ry ⟨a,_,rfl,.inr h1,rfl,zU9 zs,?_⟩
  rw [if_neg Bool.false_ne_true,zS9]
  exact k _ m _ H q Ext.refl ok .ofBl
 ·obtain ⟨zs,rfl,q⟩:=h
  cases r1.bl
  simp only [RD,RP] at r2
  obtain ⟨a,vs,rfl,_,h1,h2⟩:=r2
  cases zO5 h2
  refine zt4 pins s σ H _ _ v u Q I rx ry ⟨a,_,rfl,.inl h1,rfl,zZ0 zs,?_⟩
  rw [if_neg Bool.false_ne_true,zT4]
  exact k _ m _ H q Ext.refl ok .ofBl
 ·obtain ⟨zs,rfl,q⟩:=h
  cases r1.bl
  simp only [RD,RP] at r2
  obtain ⟨a,vs,rfl,h1,h2⟩:=r2
  cases zO5 h2
  refine zt4 pins s σ H _ _ v u Q I rx ry ⟨a,_,rfl,.inr h1,rfl,zZ0 zs,?_⟩
  rw [if_neg Bool.false_ne_true,zT4]
  exact k _ m _ H q Ext.refl ok .ofBl
 ·obtain ⟨zs,rfl,q⟩:=h
  cases r1.int
  simp only [RD,RP] at r2
  obtain ⟨a,vs,rfl,_,h1,h2⟩:=r2
  cases zW0 h2
  refine zt4 pins s σ H _ _ v u Q I rx ry ⟨a,_,rfl,.inl h1,rfl,zag3 zs,?_⟩
  rw [if_neg Bool.false_ne_true,zad5]
  exact k _ m _ H q Ext.refl ok .ofBl
 ·obtain ⟨zs,rfl,q⟩:=h
  cases r1.int
  simp only [RD,RP] at r2
  obtain ⟨a,vs,rfl,h1,h2⟩:=r2
  cases zW0 h2
  refine zt4 pins s σ H _ _ v u Q I rx ry ⟨a,_,rfl,.inr h1,rfl,zag3 zs,?_⟩
  rw [if_neg Bool.false_ne_true,zad5]
  exact k _ m _ H q Ext.refl ok .ofBl
 ·exact h.elim
@[simp] def zU7:DC
 | [.dat (.tuple xs)],m,Q=>Q (.dat (.tuple xs)) m
 | [.dat (.list xs)],m,Q=>Q (.dat (.tuple xs)) m
 | [.cel c],m,Q=>∃ xs,m c=some (.l xs)∧Q (.dat (.tuple xs)) m
 | _,_,_=>False
theorem zK6:CallD X (.type "tuple") zU7:=by
 intro pins s σ H Z m xs ds us R Q I ok rv rd h k
 unfold zU7 at h
 split at h
 ·obtain ⟨v,rfl,r1⟩:=rd.one
  have r0:=r1
  simp only [RD,RP] at r1
  obtain ⟨a,vs,rfl,h1,h2⟩:=r1
  exact zy8 pins s σ H _ us Q I rv ⟨a,vs,rfl,.inr ⟨h1,k _ m _ H h Ext.refl ok r0⟩⟩
 ·obtain ⟨v,rfl,r1⟩:=rd.one
  simp only [RD,RP] at r1
  obtain ⟨a,vs,rfl,_,h1,h2⟩:=r1
  refine zy8 pins s σ H _ us Q I rv ⟨a,vs,rfl,.inl ⟨h1,fun l hl=>?_⟩⟩
  have sm:Same H (upd H l (.tup vs)):=zc6 hl
  refine k _ m _ _ h (ok.ext sm) (ok.grow sm) ?_
  simp only [RD,RP]
  exact ⟨l,vs,rfl,.inl (.inl zc5),RPs.ext (ok.ext sm) _ _ h2⟩
 ·obtain ⟨v,rfl,r1⟩:=rd.one
  obtain ⟨rfl,_⟩:=r1
  obtain ⟨ys,hm,q⟩:=h
  obtain ⟨vs,h1,h2⟩:=ok.l hm
  refine zy8 pins s σ H _ us Q I rv ⟨_,vs,rfl,.inl ⟨.inl (.inl h1),fun l hl=>?_⟩⟩
  have sm:Same H (upd H l (.tup vs)):=zc6 hl
  refine k _ m _ _ q (ok.ext sm) (ok.grow sm) ?_
  simp only [RD,RP]
  exact ⟨l,vs,rfl,.inl (.inl zc5),RPs.ext (ok.ext sm) _ _ h2⟩
 ·exact h.elim
end
end DL
namespace DL
open PySem PySem.Spec PyProof.Rows L2
def chkB (scope:Scope) (env:Env):Bool:=scope.names.all fun y=>(decide (y.2≠.cell)) && (!decide (y.2=.local) || decide (scope.names.lookup y.1=some .local)) && (!decide (y.2=.free) || decide (env.kindOf y.1=some .cell) || decide (env.kindOf y.1=some .free))
def chkS (N:List Str) (scope:Scope) (env:Env):List Str→List (Option Nat)→Bool
 | [],[]=>true
 | x :: xs,o :: os=>(match o with | none=>true | some j=>decide (N[j]?=some x) && decide ((x,NameKind.free)∈scope.names) && (decide ((relabel scope env).names.lookup x=some .cell) || decide ((relabel scope env).names.lookup x=some .free))) && chkS N scope env xs os
 | _,_=>false
theorem chkB.ok {scope:Scope} {env:Env} (h:chkB scope env=true):(∀ y∈scope.names,y.2≠.cell)∧(∀ y∈scope.names,y.2=.local→scope.names.lookup y.1=some .local)∧∀ x,(x,NameKind.free)∈scope.names→env.kindOf x=some .cell∨env.kindOf x=some .free:=by
 unfold chkB at h
 rw [List.all_eq_true] at h
 have q:∀ y∈scope.names,y.2≠.cell∧(y.2=.local→scope.names.lookup y.1=some .local)∧(y.2=.free→env.kindOf y.1=some .cell∨env.kindOf y.1=some .free):=fun y hy=>by
  have:=h y hy
  simp only [Bool.and_eq_true,Bool.or_eq_true,Bool.not_eq_true',decide_eq_true_eq,decide_eq_false_iff_not] at this
  obtain ⟨⟨a,b⟩,c⟩:=this
  refine ⟨a,fun e=>b.resolve_left (fun n=>n e),fun e=>?_⟩
  rcases c with (c | c) | c
  ·exact absurd e c
  ·exact .inl c
  ·exact .inr c
 exact ⟨fun y hy=>(q y hy).1,fun y hy=>(q y hy).2.1,fun x hx=>(q _ hx).2.2 rfl⟩
theorem chkS.ok {X:Cx} {scope:Scope}:∀ {NC:List Str} {src:List (Option Nat)},chkS X.N scope X.env NC src=true→zW8 X scope NC src
 | [],[],_=>⟨rfl,fun i x j h=>by simp at h⟩
 | [],_ :: _,h=>by simp [chkS] at h
 | _ :: _,[],h=>by simp [chkS] at h
 | y :: ys,o :: os,h=>by
  simp only [chkS,Bool.and_eq_true] at h
  obtain ⟨h1,h2⟩:=h
  obtain ⟨q1,q2⟩:=chkS.ok h2
  refine ⟨by rw [List.length_cons,List.length_cons,q1],fun i x j e1 e2=>?_⟩
  cases i with
  | zero =>
   simp at e1 e2
   subst e1 e2
   simp only [Bool.and_eq_true,Bool.or_eq_true,decide_eq_true_eq] at h1
   exact ⟨h1.1.1,h1.1.2,h1.2⟩
  | succ i=>exact q2 i x j (by simpa using e1) (by simpa using e2)
section
variable {X:Cx} {tg iter elt:Expr} {ifs:List Expr} {scope:Scope} {fi:DI} {g:DG} {t:DT} {f:DE} {pos:Pos}
theorem zbd3 (NC:List Str) (src:List (Option Nat)) (hc:X.calm=true) (hi:PI X tg iter (LI X.K fi))
  (hg:∀ cl C s2 H2 pins fp,PG (cyOf X scope cl C NC s2 H2 pins fp) tg (LG X.K g)) (ht:∀ cl C s2 H2 pins fp,PF (cyOf X scope cl C NC s2 H2 pins fp) ifs (LT X.K t)) (he:∀ cl C s2 H2 pins fp,PE (cyOf X scope cl C NC s2 H2 pins fp) elt (LE X.K f))
  (hkind:scope.kind=.function:=by rfl) (hB:chkB scope X.env=true:=by rfl) (hS:chkS X.N scope X.env NC src=true:=by rfl)
  (hs:∀ x,foldedSetIterable iter X.env x=pure x:=by intro _; rfl):PE X (.ListComp elt [⟨tg,iter,ifs,0⟩] scope pos) (LE X.K (dLC src fi g t f)) :=
 zbh9 (NC:=NC) src hc hi hg ht he hkind (chkB.ok hB).1 (chkB.ok hB).2.1 (chkB.ok hB).2.2 (chkS.ok hS) hs
theorem zaV0 (NC:List Str) (src:List (Option Nat)) (hc:X.calm=true) (hi:PI X tg iter (LI X.K fi))
  (hg:∀ cl C s2 H2 pins fp,PG (cyOf X scope cl C NC s2 H2 pins fp) tg (LG X.K g)) (ht:∀ cl C s2 H2 pins fp,PF (cyOf X scope cl C NC s2 H2 pins fp) ifs (LT X.K t)) (he:∀ cl C s2 H2 pins fp,PE (cyOf X scope cl C NC s2 H2 pins fp) elt (LE X.K f))
  (hkind:scope.kind=.function:=by rfl) (hB:chkB scope X.env=true:=by rfl) (hS:chkS X.N scope X.env NC src=true:=by rfl)
  (hs:∀ x,foldedSetIterable iter X.env x=pure x:=by intro _; rfl):PE X (.ListComp elt [⟨tg,iter,ifs,0⟩] scope pos) (LE X.K (dLCC src fi g t f)) :=
 zbc2 (NC:=NC) src hc hi hg ht he hkind (chkB.ok hB).1 (chkB.ok hB).2.1 (chkB.ok hB).2.2 (chkS.ok hS) hs
theorem zbc7 (i:Nat) {y:Str} {py spos:Pos} (NC:List Str) (src:List (Option Nat)) (hc:X.calm=true) (hN:X.N.Nodup) (hi:PI X tg iter (LI X.K fi))
  (hg:∀ cl C s2 H2 pins fp,PG (cyOf X scope cl C NC s2 H2 pins fp) tg (LG X.K g)) (ht:∀ cl C s2 H2 pins fp,PF (cyOf X scope cl C NC s2 H2 pins fp) ifs (LT X.K t)) (he:∀ cl C s2 H2 pins fp,PE (cyOf X scope cl C NC s2 H2 pins fp) elt (LE X.K f))
  (hkind:scope.kind=.function:=by rfl) (hB:chkB scope X.env=true:=by rfl) (hS:chkS X.N scope X.env NC src=true:=by rfl)
  (hi2:X.N[i]?=some y:=by rfl) (hx:Loc X.env.scope y:=by first | exact Or.inl rfl | exact Or.inr rfl) (hf:X.fn y=true∨X.env.scope.names.lookup y=some .local:=by first | exact .inl rfl | exact .inr rfl)
  (hsw:swapsWith (.ListComp elt [⟨tg,iter,ifs,0⟩] scope pos) (some (.Name y py)) spos.line X.env=pure true:=by rfl)
  (hs:∀ x,foldedSetIterable iter X.env x=pure x:=by intro _; rfl):PS X (.Assign [.Name y py] (.ListComp elt [⟨tg,iter,ifs,0⟩] scope pos) spos) (LS X.K (dSet i (dLC src fi g t f))) :=
 zbj9 (NC:=NC) i src hc hi hg ht he hkind (chkB.ok hB).1 (chkB.ok hB).2.1 (chkB.ok hB).2.2 (chkS.ok hS) hN hi2 hx hf hsw hs
end
end DL
namespace DL
open PySem PySem.Spec PyProof.Rows L2
section
variable {prog:Program} {w:World} {A:Around} {R:Result→Shared→Prop} {s:Shared}
theorem zac1 (elt tg iter tg2 iter2:Expr) (ifs ifs2:List Expr) (scope:Scope) (pos:Pos) (it acc:Value) (env:Env) :
  compTurn (.ListComp elt [⟨tg,iter,ifs,0⟩,⟨tg2,iter2,ifs2,0⟩] scope pos) 0 it acc env=(do
   standAt iter.pos
   match ← pyNext it with
   | none=>pure (.done .next)
   | some v =>
    letOwnedTupleGo tg it v
    assign tg env v
    let mut ok:=true
    for c in ifs do
     if ok then ok ← isTrue c env (eval c env)
    if ok then
     let x ← eval iter2 env
     standAt iter2.pos
     let x ← foldedSetIterable iter2 env x
     let _ ← runOwn (.compStart (.ListComp elt [⟨tg,iter,ifs,0⟩,⟨tg2,iter2,ifs2,0⟩] scope pos) 1 (← holding [x] (pyIter x)) acc env) env
    again (.compLoop (.ListComp elt [⟨tg,iter,ifs,0⟩,⟨tg2,iter2,ifs2,0⟩] scope pos) 0 it acc env)):=by rfl
theorem zae6 (elt tg iter tg2 iter2:Expr) (ifs ifs2:List Expr) (scope:Scope) (pos:Pos) (it acc:Value) (env:Env) :
  compTurn (.ListComp elt [⟨tg,iter,ifs,0⟩,⟨tg2,iter2,ifs2,0⟩] scope pos) 1 it acc env=(do
   standAt iter2.pos
   match ← pyNext it with
   | none=>pure (.done .next)
   | some v =>
    letOwnedTupleGo tg2 it v
    assign tg2 env v
    let mut ok:=true
    for c in ifs2 do
     if ok then ok ← isTrue c env (eval c env)
    if ok then
     (do let _ ← call (.builtin "list.append") [acc,← eval elt env])
    again (.compLoop (.ListComp elt [⟨tg,iter,ifs,0⟩,⟨tg2,iter2,ifs2,0⟩] scope pos) 1 it acc env)):=by rfl
theorem zaz6 {elt tg iter tg2 iter2:Expr} {ifs ifs2:List Expr} {scope:Scope} {pos:Pos} {it acc:Value} {env:Env}
  (h0:codeAny (model prog w) A (.compLoop (.ListComp elt [⟨tg,iter,ifs,0⟩,⟨tg2,iter2,ifs2,0⟩] scope pos) 1 it acc env) R s)
  (h:wpAny (model prog w) A (pyIter it) (fun it' s'=>codeAny (model prog w) A (.compLoop (.ListComp elt [⟨tg,iter,ifs,0⟩,⟨tg2,iter2,ifs2,0⟩] scope pos) 1 it' acc env) R s')
   (notedBy (model prog w) A env fun x s'=>R (.error x) s') s) :
  codeAny (model prog w) A (.compStart (.ListComp elt [⟨tg,iter,ifs,0⟩,⟨tg2,iter2,ifs2,0⟩] scope pos) 1 it acc env) R s:=by
 refine codeAny_of_tree ?_
 show wpAny _ _ ((compStart (.ListComp elt [⟨tg,iter,ifs,0⟩,⟨tg2,iter2,ifs2,0⟩] scope pos) 1 it acc env).onRaise (fun x=>do noteFrame x env; standAt theWindowsPlace)) _ _ s
 refine wpAny_notedAt ?_
 unfold compStart
 show wpAny _ _ (ask>>=_) _ _ s
 refine wpAny_bind (wpAny_askSetting (wpAny_ite ?_))
 split
 ·first
   | exact wpAny_bind (wpAny_pure (wpAny_pure (And.intro rfl h0)))
   | exact wpAny_pure (And.intro rfl h0)
 ·first
   | exact wpAny_bind (wpAny_rule (wpAny_bind (wpAny_standAt (wpAny_bind (wpAny_mono h (fun it' s' h'=>wpAny_pure (And.intro rfl h')) fun _ _ x=>x)))))
   | (refine wpAny_bind (wpAny_rule ?_); show wpAny _ _ (standAt iter2.pos>>=_) _ _ s; exact wpAny_bind (wpAny_standAt (wpAny_bind (wpAny_mono h (fun it' s' h'=>wpAny_pure (And.intro rfl h')) fun _ _ x=>x))))
theorem zaB2 {elt tg iter tg2 iter2:Expr} {ifs ifs2:List Expr} {scope:Scope} {pos:Pos} {it acc:Value} {env:Env} (I:Nat→Shared→Prop) (hs:∀ x,foldedSetIterable iter2 env x=pure x)
  (turn:∀ n s,I n s→wpAny (model prog w) A (pyNext it) (fun r s₁=>match r with
   | none=>R (.ok .next) s₁
   | some v=>wpAny (model prog w) A (letOwnedTupleGo tg it v) (fun _ s₀=>wpAny (model prog w) A (assign tg env v) (fun _ s₂ =>
     wpAny (model prog w) A (forIn ifs true fun c r=>if r=true then do let ok ← isTrue c env (eval c env); pure (ForInStep.yield ok) else pure (ForInStep.yield r)) (fun ok s₃ =>
      if ok=true then wpAny (model prog w) A (eval iter2 env) (fun x s₄ =>
       wpAny (model prog w) A (pyIter x) (fun it2 s₅=>codeAny (model prog w) A (.compStart (.ListComp elt [⟨tg,iter,ifs,0⟩,⟨tg2,iter2,ifs2,0⟩] scope pos) 1 it2 acc env) (fun r s₆=>r=.ok .next∧∃ m,m < n∧I m s₆) s₅) (fun _ _=>False) s₄) (fun _ _=>False) s₃
      else ∃ m,m < n∧I m s₃) (fun _ _=>False) s₂) (fun _ _=>False) s₀) (fun _ _=>False) s₁) (fun _ _=>False) s)
  (n:Nat) (h:I n s) :
  codeAny (model prog w) A (.compLoop (.ListComp elt [⟨tg,iter,ifs,0⟩,⟨tg2,iter2,ifs2,0⟩] scope pos) 0 it acc env) R s:=by
 have ff:∀ {E:Value→Shared→Prop} (x:Value) (s:Shared),False→E x s:=fun _ _ z=>z.elim
 refine codeAny_loop rfl I (fun n s hI=>?_) n h
 show wpAny _ A ((compTurn (.ListComp elt [⟨tg,iter,ifs,0⟩,⟨tg2,iter2,ifs2,0⟩] scope pos) 0 it acc env).onRaise (fun x=>do noteFrame x env; theTreesLotGoes x)) _ _ s
 refine wpAny_noted ?_
 rw [zac1]
 refine wpAny_bind (wpAny_standAt (wpAny_bind (wpAny_mono (turn n s hI) (fun r s₁ h₁=>?_) ff)))
 cases r with
 | none=>exact wpAny_pure h₁
 | some v =>
  refine wpAny_bind (wpAny_mono h₁ (fun _ s₀ h₀=>?_) ff)
  refine wpAny_bind (wpAny_mono h₀ (fun _ s₂ h₂=>wpAny_bind (wpAny_mono h₂ (fun ok s₃ h₃=>?_) ff)) ff)
  cases ok with
  | true =>
   simp only [if_true] at h₃ ⊢
   refine wpAny_bind (wpAny_mono h₃ (fun x s₄ h₄=>?_) ff)
   refine wpAny_bind (wpAny_standAt (wpAny_bind (wpAny_of_eq (hs x) ?_)))
   refine wpAny_bind (wpAny_holding (wpAny_mono h₄ (fun it2 s₅ h₅=>?_) ff))
   refine wpAny_bind (wpAny_runOwn (codeAny_mono h₅ fun r s₆ ⟨hr,h₆⟩=>?_))
   subst hr
   exact wpAny_pure ⟨rfl,h₆⟩
  | false =>
   simp only [Bool.false_eq_true,if_false] at h₃ ⊢
   exact wpAny_pure ⟨rfl,h₃⟩
theorem zaB3 {elt tg iter tg2 iter2:Expr} {ifs ifs2:List Expr} {scope:Scope} {pos:Pos} {it acc:Value} {env:Env} {E:Value→Shared→Prop} (hE:∀ x s,E x s→False) (I:Nat→Shared→Prop)
  (turn:∀ n s,I n s→wpAny (model prog w) A (pyNext it) (fun r s₁=>match r with
   | none=>R (.ok .next) s₁
   | some v=>wpAny (model prog w) A (letOwnedTupleGo tg2 it v) (fun _ s₀=>wpAny (model prog w) A (assign tg2 env v) (fun _ s₂ =>
     wpAny (model prog w) A (forIn ifs2 true fun c r=>if r=true then do let ok ← isTrue c env (eval c env); pure (ForInStep.yield ok) else pure (ForInStep.yield r)) (fun ok s₃ =>
      if ok=true then wpAny (model prog w) A (eval elt env) (fun x s₄ =>
       wpAny (model prog w) A (call (.builtin "list.append") [acc,x]) (fun _ s₅=>∃ m,m < n∧I m s₅) E s₄) E s₃
      else ∃ m,m < n∧I m s₃) E s₂) E s₀) E s₁) E s)
  (n:Nat) (h:I n s) :
  codeAny (model prog w) A (.compLoop (.ListComp elt [⟨tg,iter,ifs,0⟩,⟨tg2,iter2,ifs2,0⟩] scope pos) 1 it acc env) R s:=by
 have ff:∀ {E':Value→Shared→Prop} (x:Value) (s:Shared),E x s→E' x s:=fun x s z=>(hE x s z).elim
 refine codeAny_loop rfl I (fun n s hI=>?_) n h
 show wpAny _ A ((compTurn (.ListComp elt [⟨tg,iter,ifs,0⟩,⟨tg2,iter2,ifs2,0⟩] scope pos) 1 it acc env).onRaise (fun x=>do noteFrame x env; theTreesLotGoes x)) _ _ s
 refine wpAny_noted ?_
 rw [zae6]
 refine wpAny_bind (wpAny_standAt (wpAny_bind (wpAny_mono (turn n s hI) (fun r s₁ h₁=>?_) ff)))
 cases r with
 | none=>exact wpAny_pure h₁
 | some v =>
  refine wpAny_bind (wpAny_mono h₁ (fun _ s₀ h₀=>?_) ff)
  refine wpAny_bind (wpAny_mono h₀ (fun _ s₂ h₂=>wpAny_bind (wpAny_mono h₂ (fun ok s₃ h₃=>?_) ff)) ff)
  cases ok with
  | true =>
   simp only [if_true] at h₃ ⊢
   refine wpAny_bind (wpAny_bind (wpAny_mono h₃ (fun x s₄ h₄=>wpAny_bind (wpAny_mono h₄ (fun _ s₅ h₅=>wpAny_pure (wpAny_pure ⟨rfl,h₅⟩)) ff)) ff))
  | false =>
   simp only [Bool.false_eq_true,if_false] at h₃ ⊢
   exact wpAny_pure ⟨rfl,h₃⟩
end
abbrev zaG9:=D→List PyData→St2→Mu→(List PyData→St2→Mu→Prop)→Prop
def zn3 (st:zaG9):List D→List PyData→St2→Mu→(List PyData→St2→Mu→Prop)→Prop
 | [],acc,d,m,Q=>Q acc d m
 | x :: xs,acc,d,m,Q=>st x acc d m fun acc' d' m'=>zn3 st xs acc' d' m' Q
def stepI (g:DG) (t:DT) (f:DE):zaG9:=fun x acc d m Q=>g x d m fun d1 m1=>t d1 m1 fun b m2=>if b=true then f d1 m2 fun y m3=>∃ p,y=.dat p∧acc.length < sizeLine∧Q (acc++[p]) d1 m3 else Q acc d1 m2
def zK7 (g:DG) (t:DT) (fi2:DI) (st:zaG9):zaG9:=fun x acc d m Q=>g x d m fun d1 m1=>t d1 m1 fun b m2=>if b=true then fi2 d1 m2 fun ys m3=>zn3 st ys acc d1 m3 Q else Q acc d1 m2
@[simp] def dLC2 (src:List (Option Nat)) (fi:DI) (g:DG) (t:DT) (fi2:DI) (g2:DG) (t2:DT) (f:DE):DE:=fun d m Q=>fi d m fun xs m1=>zn3 (zK7 g t fi2 (stepI g2 t2 f)) xs [] (zg9 src d) m1 fun ps _ m2=>Q (.dat (.list ps)) m2
structure ExtW (K:PySem.W.Frag) (Z:Addr→Prop) (D:Addr) (m:Mu) (H:Hp) (m':Mu) (H':Hp):Prop where
 t:∀ a vs,SqT K H a vs→SqT K H' a vs
 l:∀ a vs,(m a=none∧¬ rsv Z D a)→SqL K H a vs→m' a=none∧SqL K H' a vs
 z:∀ a,Z a→H' a=H a
 c:∀ a,(m a).isSome=true→(m' a).isSome=true
section
variable {K:PySem.W.Frag} {Z:Addr→Prop} {m m1 m' m2:Mu} {H H1 H' H2:Hp} {D:Addr} {ys zs:List V}
theorem ExtW.refl:ExtW K Z D m H m H:=⟨fun _ _ h=>h,fun _ _ h1 h2=>⟨h1.1,h2⟩,fun _ _=>rfl,fun _ h=>h⟩
theorem ExtW.y (e:ExtW K Z D m H m' H'):ExtY K (rsv Z D) m H m' H':=⟨e.t,e.l⟩
theorem ExtW.trans (a:ExtW K Z D m H m' H') (b:ExtW K Z D m' H' m2 H2):ExtW K Z D m H m2 H2 :=
 ⟨fun x vs h=>b.t x vs (a.t x vs h),fun x vs h1 h2=>let ⟨q1,q2⟩:=a.l x vs h1 h2; b.l x vs ⟨q1,h1.2⟩ q2,fun x h=>(b.z x h).trans (a.z x h),fun x h=>b.c x (a.c x h)⟩
theorem Ext.w (e:Ext K (rsv Z D) m H m' H'):ExtW K Z D m H m' H':=⟨e.t,e.l,fun a h=>e.z a (.inl h),e.c⟩
theorem ExtW.put (hz:¬ Z D) (hD:H D=some (.lst ys)):ExtW K Z D m H m (upd H D (.lst zs)) :=
 ⟨zF1 hD,fun a vs h1 h2=>⟨h1.1,zak6 (fun e=>h1.2 (.inr e)) h2⟩,fun a h=>by
  have ne:a≠D:=by rintro rfl; exact hz h
  rw [zc9 ne],fun _ h=>h⟩
theorem ExtW.rd {x:DL.D} {v:V} (e:ExtW K Z D m H m' H') (h:RD K (rsv Z D) m H x v):RD K (rsv Z D) m' H' x v:=by
 cases x with
 | dat p=>exact RP.tr e.t (fun a vs h1 h2=>let ⟨q1,q2⟩:=e.l a vs h1 h2; ⟨⟨q1,h1.2⟩,q2⟩) p v h
 | cel a=>exact ⟨h.1,e.c a h.2⟩
theorem zav5 (e:Ext K Z m1 H1 m H) (hD:H1 D=none) (hk:K.lookup D=none) (e2:ExtW K Z D m H m' H'):Ext K Z m1 H1 m' H' :=
 ⟨fun a vs h=>e2.t a vs (e.t a vs h),fun a vs h1 h2=>let ⟨q1,q2⟩:=e.l a vs h1 h2; e2.l a vs ⟨q1,fun z=>z.elim h1.2 (SqL.ne hD hk h2)⟩ q2,fun a h=>(e2.z a h).trans (e.z a h),fun a h=>e2.c a (e.c a h)⟩
end
section
variable {Y:Cx} {tg iter tg2 iter2 elt:Expr} {ifs ifs2:List Expr} {scope:Scope} {fi2:DI} {g2:DG} {t2:DT} {f:DE} {pos:Pos}
theorem zau7 (hc:Y.calm=true) (hx:∀ x s,Y.xe x s→False) (hi:PI Y tg2 iter2 (LI Y.K fi2)) (hg:PG Y tg2 (LG Y.K g2)) (ht:PF Y ifs2 (LT Y.K t2)) (he:PE Y elt (LE Y.K f))
  {pins:List (Addr×Obj)} {s:Shared} {σ:L2.St} {H:Hp} {Z:Addr→Prop} {D:Addr} {acc:List PyData} {ys:List V} {d:St2} {m:Mu} {Q:List PyData→St2→Mu→Prop}
  (I:Inv Y pins σ H s) (hz:¬ Z D) (hD:H D=some (.lst ys)) (racc:RPs Y.K (rsv Z D) m H acc ys) (ok:Ok Y.K (rsv Z D) m H) (rs:RS Y.K (rsv Z D) m H d σ) (h:fi2 d m fun xs m1=>zn3 (stepI g2 t2 f) xs acc d m1 Q) :
  wpAny (model Y.prog Y.w) Y.A (eval iter2 Y.env) (fun x s4=>wpAny (model Y.prog Y.w) Y.A (pyIter x) (fun it2 s5=>codeAny (model Y.prog Y.w) Y.A (.compStart (.ListComp elt [⟨tg,iter,ifs,0⟩,⟨tg2,iter2,ifs2,0⟩] scope pos) 1 it2 (.ref D) Y.env)
   (fun r s6=>r=.ok .next∧∃ σ' H' ys' acc' d' m',Inv Y pins σ' H' s6∧H' D=some (.lst ys')∧RPs Y.K (rsv Z D) m' H' acc' ys'∧ExtW Y.K Z D m H m' H'∧Ok Y.K (rsv Z D) m' H'∧RS Y.K (rsv Z D) m' H' d' σ'∧Q acc' d' m') s5) Y.xe s4) Y.xe s:=by
 refine thn (hi pins s σ H (fun J H1=>∃ xs m1,Ext Y.K (rsv Z D) m H m1 H1∧Ok Y.K (rsv Z D) m1 H1∧zY8 Y.K (rsv Z D) m1 H1 xs J∧zn3 (stepI g2 t2 f) xs acc d m1 Q) I
  ⟨rsv Z D,d,m,_,ok,rs,h,fun xs m1 H1 J q e1 ok1 y1=>⟨xs,m1,e1,ok1,y1,q⟩⟩) fun xv s₁ h₁=>thn h₁ fun itv s₂ h₂=>?_
 obtain ⟨it,fp,tn,J,H2,eit,I2,T,st2,f2,xs,m1,e1,ok1,yl,lp⟩:=h₂
 subst eit
 have hD2:H2 D=some (.lst ys):=(e1.z _ (.inr rfl)).trans hD
 have stat:∀ {H':Hp},(∀ b∈fp,H' b=none)→∀ b∈fp,FpOk Y pins H' b:=fun hn b hb=>⟨hn b hb,(f2 b hb).2⟩
 have loop:codeAny (model Y.prog Y.w) Y.A (.compLoop (.ListComp elt [⟨tg,iter,ifs,0⟩,⟨tg2,iter2,ifs2,0⟩] scope pos) 1 (.ref it) (.ref D) Y.env)
   (fun r s6=>r=.ok .next∧∃ σ' H' ys' acc' d' m',Inv Y pins σ' H' s6∧H' D=some (.lst ys')∧RPs Y.K (rsv Z D) m' H' acc' ys'∧ExtW Y.K Z D m H m' H'∧Ok Y.K (rsv Z D) m' H'∧RS Y.K (rsv Z D) m' H' d' σ'∧Q acc' d' m') s₂:=by
  refine zaB3 hx (fun n s'=>∃ (i:Nat) (ys:List V) (acc:List PyData) (d':St2) (m':Mu) (σ':L2.St) (H':Hp),n=xs.length - i∧i≤xs.length∧Inv Y pins σ' H' s'∧tn i s'.heap∧(∀ b∈fp,H' b=none) ∧
   H' D=some (.lst ys)∧RPs Y.K (rsv Z D) m' H' acc ys∧ExtW Y.K Z D m1 H2 m' H'∧Ok Y.K (rsv Z D) m' H'∧RS Y.K (rsv Z D) m' H' d' σ' ∧
   zn3 (stepI g2 t2 f) (xs.drop i) acc d' m' Q) ?_ xs.length ⟨0,ys,acc,d,m1,σ,H2,by simp,Nat.zero_le _,I2,st2,fun b hb=>(f2 b hb).1,hD2,RPs.ext e1 _ _ racc,ExtW.refl,ok1,rs.ext e1,by simpa using lp⟩
  rintro n s4 ⟨i,ys,acc,d',m',σ',H',rfl,hi',I5,st5,fr5,hDy,racc,eX,ok5,rs5,lp5⟩
  obtain ⟨y1,y2⟩:=yl m' H' eX.y
  by_cases hlt:i < xs.length
  ·rw [List.drop_eq_getElem_cons hlt] at lp5
   obtain ⟨go,yd⟩:=y1 i xs[i] (List.getElem?_eq_getElem hlt)
   refine thn (T.item Y rfl rfl rfl hc i pins s4 σ' H' Y.xe I5 (stat fr5) st5 go) fun r s5 hq0=>?_
   obtain ⟨u,hr,h5⟩:=hq0
   subst hr
   refine thn h5 fun _ s6 hq0=>?_
   obtain ⟨x,H6,I6,r6,yy,st6,fr6⟩:=hq0
   have yy':=yd x H6 yy
   have e56:Ext Y.K (rsv Z D) m' H' m' H6:=ok5.ext yy'.same
   have rv:=yy'.rd (fun d v h=>eX.rd h) ok5
   have hDy:=yy'.same _ _ hDy
   have racc:=RPs.ext e56 _ _ racc
   have eX:=eX.trans e56.w
   have rs5:=rs5.ext e56
   have ok5:=ok5.grow yy'.same
   have I6':=I6.pinned (stat fr6) (T.obj _ _ st6)
   have over:∀ {s7:Shared} {σ7:L2.St} {H7:Hp} {ys7:List V} {acc7:List PyData} {d7:St2} {m7:Mu},Inv Y (pins++zT6 fp s6.heap) σ7 H7 s7→H7 D=some (.lst ys7)→RPs Y.K (rsv Z D) m7 H7 acc7 ys7 →
     ExtW Y.K Z D m1 H2 m7 H7→Ok Y.K (rsv Z D) m7 H7→RS Y.K (rsv Z D) m7 H7 d7 σ7→(zn3 (stepI g2 t2 f) (xs.drop (i + 1)) acc7 d7 m7 Q) →
     ∃ n,n < xs.length - i∧∃ (i:Nat) (ys:List V) (acc:List PyData) (d':St2) (m':Mu) (σ':L2.St) (H':Hp),n=xs.length - i∧i≤xs.length∧Inv Y pins σ' H' s7∧tn i s7.heap∧(∀ b∈fp,H' b=none) ∧
      H' D=some (.lst ys)∧RPs Y.K (rsv Z D) m' H' acc ys∧ExtW Y.K Z D m1 H2 m' H'∧Ok Y.K (rsv Z D) m' H'∧RS Y.K (rsv Z D) m' H' d' σ' ∧
      zn3 (stepI g2 t2 f) (xs.drop i) acc d' m' Q:=by
    intro s7 σ7 H7 ys7 acc7 d7 m7 I7 a1 a2 a3 a4 a5 a6
    refine ⟨xs.length - (i + 1),by omega,i + 1,ys7,acc7,d7,m7,σ7,H7,rfl,hlt,I7.unpinned,T.keep _ _ _ st6 fun b hb o e=>(I7.pin (b,o) (List.mem_append_right _ (List.mem_append_right _ (zm5 hb e)))).1,fun b hb=>?_,a1,a2,a3,a4,a5,a6⟩
    obtain ⟨o,e,dd⟩:=T.obj _ _ st6 b hb
    exact (I7.pin (b,o) (List.mem_append_right _ (List.mem_append_right _ (zm5 hb e)))).2.1
   refine thn (hg _ s6 σ' _ x u (fun σ7 H7=>∃ d7 m7,Ext Y.K (rsv Z D) m' H6 m7 H7∧Ok Y.K (rsv Z D) m7 H7∧RS Y.K (rsv Z D) m7 H7 d7 σ7 ∧
    t2 d7 m7 fun b m2=>if b=true then f d7 m2 fun y m3=>∃ p,y=.dat p∧acc.length < sizeLine∧zn3 (stepI g2 t2 f) (xs.drop (i + 1)) (acc++[p]) d7 m3 Q else zn3 (stepI g2 t2 f) (xs.drop (i + 1)) acc d7 m2 Q) I6' r6
    ⟨_,xs[i],d',m',_,ok5,rs5,rv,lp5,fun d7 m7 σ7 H7 q7 e7 ok7 rs7=>⟨d7,m7,e7,ok7,rs7,q7⟩⟩) fun _ s7 hq0=>?_
   obtain ⟨σ7,H7,I7,d7,m7,e7,ok7,rs7,q7⟩:=hq0
   refine thn (ht _ s7 σ7 H7 (fun b H8=>∃ m8,Ext Y.K (rsv Z D) m7 H7 m8 H8∧Ok Y.K (rsv Z D) m8 H8 ∧
    if b=true then f d7 m8 fun y m3=>∃ p,y=.dat p∧acc.length < sizeLine∧zn3 (stepI g2 t2 f) (xs.drop (i + 1)) (acc++[p]) d7 m3 Q else zn3 (stepI g2 t2 f) (xs.drop (i + 1)) acc d7 m8 Q) I7
    ⟨_,d7,m7,_,ok7,rs7,q7,fun b m8 H8 q8 e8 ok8=>⟨m8,e8,ok8,q8⟩⟩) fun b s8 hq0=>?_
   obtain ⟨H8,I8,m8,e8,ok8,q8⟩:=hq0
   have e68:=e7.trans e8
   have hD8:H8 D=some (.lst ys):=(e68.z _ (.inr rfl)).trans hDy
   cases b with
   | false =>
    rw [if_neg Bool.false_ne_true] at q8
    exact over I8 hD8 (RPs.ext e68 _ _ racc) (eX.trans e68.w) ok8 (rs7.ext e8) q8
   | true =>
    rw [if_pos rfl] at q8
    refine thn (he _ s8 σ7 H8 (fun v H9=>∃ p m9,RP Y.K (rsv Z D) m9 H9 p v∧Ext Y.K (rsv Z D) m8 H8 m9 H9∧Ok Y.K (rsv Z D) m9 H9∧acc.length < sizeLine∧zn3 (stepI g2 t2 f) (xs.drop (i + 1)) (acc++[p]) d7 m9 Q) I8
     ⟨_,d7,m8,_,ok8,rs7.ext e8,q8,fun y m9 v H9 hq1 e9 ok9 r9=>by
      obtain ⟨p,ey,hz,q9⟩:=hq1
      subst ey
      exact ⟨p,m9,r9,e9,ok9,hz,q9⟩⟩) fun yv s9 hq0=>?_
    obtain ⟨y,H9,I9,ry,p,m9,rp9,e9,ok9,hz9,q9⟩:=hq0
    have e69:=e68.trans e9
    have hD9:H9 D=some (.lst ys):=(e69.z _ (.inr rfl)).trans hDy
    have racc9:=RPs.ext e69 _ _ racc
    have rs9:=(rs7.ext e8).ext e9
    refine thn (zT9 _ s9 σ7 H9 (.ref D) [y] (.ref D) [yv] (fun v H10=>H10=upd H9 D (.lst (ys++[y]))) I9 rfl (.cons ry .nil) ⟨_,ys,y,rfl,rfl,hD9,by rw [racc9.length]; exact hz9,rfl⟩) fun rv s10 hq0=>?_
    obtain ⟨v10,H10,I10,_,e10⟩:=hq0
    subst e10
    refine over I10 zc5 ?_ ((eX.trans e69.w).trans (ExtW.put hz hD9)) (zax5 ok9 hD9) ⟨rs9.1,fun j z hj=>?_⟩ q9
    ·exact RPs.tr (zF1 hD9) zT0 _ _ (racc9.append (by simp only [RPs]; exact ⟨y,[],rfl,rp9,rfl⟩))
    ·obtain ⟨v,a1,a2⟩:=rs9.2 j z hj
     exact ⟨v,a1,zaO1 hD9 a2⟩
  ·have e:i=xs.length:=by omega
   subst e
   rw [List.drop_length] at lp5
   refine thn (T.done Y rfl rfl rfl hc _ pins s4 σ' H' Y.xe I5 (stat fr5) st5 y2) fun r s5 hq0=>?_
   obtain ⟨hr,I6⟩:=hq0
   subst hr
   exact ⟨rfl,σ',H',ys,acc,d',m',I6,hDy,racc,(e1.w).trans eX,ok5,rs5,lp5⟩
 exact zaz6 loop (T.self _ 0 _ _ _ st2 loop)
end
end DL
namespace DL
open PySem PySem.Spec PyProof.Rows L2
section
variable {X:Cx} {tg iter tg2 iter2 elt:Expr} {ifs ifs2:List Expr} {scope:Scope} {NC:List Str} {fi fi2:DI} {g g2:DG} {t t2:DT} {f:DE} {pos:Pos}
theorem zaH6 (src:List (Option Nat)) (hc:X.calm=true) (hi:PI X tg iter (LI X.K fi))
  (hg:∀ cl C s2 H2 pins fp,PG (cyOf X scope cl C NC s2 H2 pins fp) tg (LG X.K g)) (ht:∀ cl C s2 H2 pins fp,PF (cyOf X scope cl C NC s2 H2 pins fp) ifs (LT X.K t)) (hi2:∀ cl C s2 H2 pins fp,PI (cyOf X scope cl C NC s2 H2 pins fp) tg2 iter2 (LI X.K fi2)) (hg2:∀ cl C s2 H2 pins fp,PG (cyOf X scope cl C NC s2 H2 pins fp) tg2 (LG X.K g2)) (ht2:∀ cl C s2 H2 pins fp,PF (cyOf X scope cl C NC s2 H2 pins fp) ifs2 (LT X.K t2))
  (he:∀ cl C s2 H2 pins fp,PE (cyOf X scope cl C NC s2 H2 pins fp) elt (LE X.K f)) (hs2:∀ cl C x,foldedSetIterable iter2 (compEnvC scope cl C X.env) x=pure x)
  (hkind:scope.kind=.function) (hcell:∀ y∈scope.names,y.2≠.cell) (hnames:∀ y∈scope.names,y.2=.local→scope.names.lookup y.1=some .local)
  (hfree:∀ x,(x,NameKind.free)∈scope.names→X.env.kindOf x=some .cell∨X.env.kindOf x=some .free) (hsrc:zW8 X scope NC src)
  (hs:∀ x,foldedSetIterable iter X.env x=pure x) {use:Option (Value→Sem Unit)} {QQ:Value→Shared→Prop} {pos':Pos} {pins:List (Addr×Obj)} {s:Shared} {σ:L2.St} {H:Hp} {Z:Addr→Prop} {d:St2} {m:Mu} {RL:List PyData→Mu→Prop}
  (I:Inv X pins σ H s) (ok:Ok X.K Z m H) (rs:RS X.K Z m H d σ) (h:fi d m fun xs m1=>zn3 (zK7 g t fi2 (stepI g2 t2 f)) xs [] (zg9 src d) m1 (fun ps _ m2=>RL ps m2))
  (fin:∀ (s5:Shared) (C D:Addr) (H':Hp) (m':Mu) (ps:List PyData),RL ps m'→Ext X.K Z m H m' H'→Ok X.K Z m' H'→RD X.K Z m' H' (.dat (.list ps)) (.ref D)→(∃ mm,s5.heap.Ns C mm)→Inv X pins σ H' s5→Off X pins H' C →
   compPost (model X.prog X.w) X.A X.xe use QQ (.ref D) C (.ok .next) s5) :
  wpAny (model X.prog X.w) X.A (comprehension (.ListComp elt [⟨tg,iter,ifs,0⟩,⟨tg2,iter2,ifs2,0⟩] scope pos) scope X.env pos' (newList []) false (eval iter X.env) use) QQ X.xe s:=by
 obtain ⟨cl,hclos,hcl1,hcl2⟩:=zZ4 (scope:=scope) (env:=X.env) fun x hx=>I.ok.has x (hfree x hx)
 refine wpAny_comprehension_free (use:=use) rfl hs hclos hkind hnames ?_
 refine thn (hi pins s σ H (fun J H1=>∃ xs m1,Ext X.K Z m H m1 H1∧Ok X.K Z m1 H1∧zY8 X.K Z m1 H1 xs J∧zn3 (zK7 g t fi2 (stepI g2 t2 f)) xs [] (zg9 src d) m1 (fun ps _ m2=>RL ps m2)) I
  ⟨Z,d,m,_,ok,rs,h,fun xs m1 H1 J q e1 ok1 y1=>⟨xs,m1,e1,ok1,y1,q⟩⟩) fun xv s₁ h₁=>thn h₁ fun itv s₂ h₂=>?_
 obtain ⟨it,fp,tn,J,H2,eit,I2,T,st2,f2,xs,m1,e1,ok1,yl,lp⟩:=h₂
 subst eit
 refine wpAny_newObj_type (wpAny_newFunctionEnv hcell (by intro y hy; simp at hy) (fun h₁ hns₁ hsb₁=>?_) hkind)
 dsimp only at hns₁ hsb₁ ⊢
 generalize hH2:s₂.heap.push { cls:=.type "list",dict:=none,data:=.seq ([]:List Value).toArray }=HP at hns₁ hsb₁ ⊢
 have hC:HP.objs.size=s₂.heap.objs.size + 1:=by rw [← hH2,Heap.size_push]
 have leC:s₂.heap.objs.size≤HP.objs.size:=by rw [hC]; exact Nat.le_succ _
 have old:∀ b o,s₂.heap.get? b=some o→h₁.get? b=some o:=fun b o e=>hsb₁.extBut b o (Nat.ne_of_lt (Nat.lt_of_lt_of_le (Heap.lt_size e) leC)) (Heap.get?_push_of_some _ (hH2 ▸ Heap.get?_push_of_some _ e))
 have hacc:h₁.get? s₂.heap.objs.size=some { cls:=.type "list",data:=.seq ([]:List Value).toArray }:=hsb₁.extBut _ _ (by rw [hC]; exact Nat.ne_of_lt (Nat.lt_succ_self _)) (Heap.get?_push_of_some _ (hH2 ▸ Heap.get?_push_size _ rfl))
 have hD:H2 s₂.heap.objs.size=none:=I2.hok.fresh (Nat.le_refl _)
 have hkD:X.K.lookup s₂.heap.objs.size=none:=by
  cases e:X.K.lookup s₂.heap.objs.size with
  | none=>rfl
  | some o=>exact absurd (Heap.lt_size (I2.kIn _ o e)) (Nat.lt_irrefl _)
 have obf:∀ b∈fp,∃ o,s₂.heap.get? b=some o∧∀ v,o.data≠.cell v:=T.obj 0 _ st2
 have hσ:∀ (i:Nat) (x:Str) (v:V),NC[i]?=some x→(zg9 src σ)[i]?=some (some v)→Vis (relabel scope X.env) x→((relabel scope X.env).names.lookup x=some .cell∨(relabel scope X.env).names.lookup x=some .free)∧(X.env.kindOf x=some .cell∨X.env.kindOf x=some .free)∧∃ j:Nat,X.N[j]?=some x∧σ[j]?=some (some v):=fun i x v h1 h2 _=>by
  obtain ⟨j,q1,q2⟩:=zai7 h2
  obtain ⟨a1,a2,a3⟩:=hsrc.2 i x j h1 q1
  exact ⟨a3,hfree x a2,j,a1,q2⟩
 have I4:=fun tk=>zas9 (cl:=cl) (NC:=NC) (σ':=zg9 src σ) (tk:=tk) I2 f2 obf hkind hcell hcl1 hcl2 (by unfold zg9; rw [List.length_map]; exact hsrc.1.symm) hσ hC hns₁ old hacc
 have st4:tn 0 h₁:=T.keep 0 _ _ st2 fun b _ o e=>old b o e
 -- the loop
 have loop:∀ s₃:Shared,s₃={ s₂ with heap:=h₁,toks:=s₂.toks + ([]:List (Str×Value)).length } →
   codeAny (model X.prog X.w) X.A (.compLoop (.ListComp elt [⟨tg,iter,ifs,0⟩,⟨tg2,iter2,ifs2,0⟩] scope pos) 0 (.ref it) (.ref s₂.heap.objs.size) (compEnvC scope cl HP.objs.size X.env))
    (compPost (model X.prog X.w) X.A X.xe use QQ (.ref s₂.heap.objs.size) HP.objs.size) s₃:=by
  rintro s₃ rfl
  refine zaB2 (hs:=fun x=>hs2 _ _ x) (fun n s'=>∃ (i:Nat) (ys:List V) (acc:List PyData) (d':St2) (m':Mu) (σ':L2.St) (H':Hp),n=xs.length - i∧i≤xs.length∧Inv (cyOf X scope cl HP.objs.size NC s₂ H2 pins fp) [] σ' H' s'∧tn i s'.heap∧(∀ b∈fp,H' b=none) ∧
   H' s₂.heap.objs.size=some (.lst ys)∧RPs X.K (rsv Z s₂.heap.objs.size) m' H' acc ys∧Ext X.K Z m1 H2 m' H'∧Ok X.K (rsv Z s₂.heap.objs.size) m' H'∧RS X.K (rsv Z s₂.heap.objs.size) m' H' d' σ' ∧
   zn3 (zK7 g t fi2 (stepI g2 t2 f)) (xs.drop i) acc d' m' (fun ps _ m2=>RL ps m2)) ?_ xs.length ?_
  rotate_left
  ·have rs1:RS X.K Z m1 H2 (zg9 src d) (zg9 src σ):=zaM5 src (rs.ext e1)
   refine ⟨0,[],[],zg9 src d,m1,zg9 src σ,_,by simp,Nat.zero_le _,I4 _,st4,fun b hb=>?_,zc5,by simp [RPs],ok1.ext (zc6 hD),zaN4 ok1 hD hkD,⟨rs1.1,fun i x hx=>?_⟩,by simpa using lp⟩
   ·obtain ⟨o,ho,_⟩:=obf b hb
    rw [zc9 (Nat.ne_of_lt (Heap.lt_size ho))]
    exact (f2 b hb).1
   ·obtain ⟨v,q1,q2⟩:=rs1.2 i x hx
    exact ⟨v,q1,zaM8 hD hkD q2⟩
  rintro n s4 ⟨i,ys,acc,d',m',σ',H',rfl,hi',I5,st5,fr5,hDy,racc,eX,ok5,rs5,lp5⟩
  have stat:∀ b∈fp,FpOk (cyOf X scope cl HP.objs.size NC s₂ H2 pins fp) [] H' b:=fun b hb=>by
   obtain ⟨g0,g1,g2,g3,g4,g5⟩:=f2 b hb
   obtain ⟨o,ho,_⟩:=obf b hb
   refine ⟨fr5 b hb,Nat.ne_of_lt (Nat.lt_of_lt_of_le (Heap.lt_size ho) leC),fun z=>?_,.inl hb,fun x c e=>g4 x c (hcl1 (x,c) (zq7 e)),fun p hp=>?_⟩
   ·rcases List.mem_cons.mp (I2.stkSub b z) with q | q
    ·exact g1 q
    ·exact g2 q
   ·rcases List.mem_append.mp hp with q | q
    ·exact g5 p q
    ·cases q
  obtain ⟨y1,y2⟩:=yl m' H' eX.y
  by_cases hlt:i < xs.length
  ·rw [List.drop_eq_getElem_cons hlt] at lp5
   obtain ⟨go,yd⟩:=y1 i xs[i] (List.getElem?_eq_getElem hlt)
   refine thn (T.item (cyOf X scope cl HP.objs.size NC s₂ H2 pins fp) rfl rfl rfl hc i [] s4 σ' H' (fun _ _=>False) I5 stat st5 go) fun r s5 hq0=>?_
   obtain ⟨u,hr,h5⟩:=hq0
   subst hr
   refine thn h5 fun _ s6 hq0=>?_
   obtain ⟨x,H6,I6,r6,yy,st6,fr6⟩:=hq0
   have yy':=yd x H6 yy
   have e56:Ext X.K (rsv Z s₂.heap.objs.size) m' H' m' H6:=ok5.ext yy'.same
   have rv:=yy'.rd (fun d v h=>zaq3 hD hkD eX h) ok5
   have hDy:=yy'.same _ _ hDy
   have racc:=RPs.ext e56 _ _ racc
   have eX:=zx7 eX hD hkD e56
   have rs5:=rs5.ext e56
   have ok5:=ok5.grow yy'.same
   have stat:∀ b∈fp,FpOk (cyOf X scope cl HP.objs.size NC s₂ H2 pins fp) [] H6 b:=fun b hb=>⟨fr6 b hb,(stat b hb).2⟩
   have I6':=I6.pinned stat (T.obj _ _ st6)
   -- what stands when a turn is over
   have over:∀ {s7:Shared} {σ7:L2.St} {H7:Hp} {ys7:List V} {acc7:List PyData} {d7:St2} {m7:Mu},Inv (cyOf X scope cl HP.objs.size NC s₂ H2 pins fp) ([]++zT6 fp s6.heap) σ7 H7 s7→H7 s₂.heap.objs.size=some (.lst ys7)→RPs X.K (rsv Z s₂.heap.objs.size) m7 H7 acc7 ys7 →
     Ext X.K Z m1 H2 m7 H7→Ok X.K (rsv Z s₂.heap.objs.size) m7 H7→RS X.K (rsv Z s₂.heap.objs.size) m7 H7 d7 σ7→(zn3 (zK7 g t fi2 (stepI g2 t2 f)) (xs.drop (i + 1)) acc7 d7 m7 (fun ps _ m2=>RL ps m2)) →
     ∃ n,n < xs.length - i∧∃ (i:Nat) (ys:List V) (acc:List PyData) (d':St2) (m':Mu) (σ':L2.St) (H':Hp),n=xs.length - i∧i≤xs.length∧Inv (cyOf X scope cl HP.objs.size NC s₂ H2 pins fp) [] σ' H' s7∧tn i s7.heap∧(∀ b∈fp,H' b=none) ∧
      H' s₂.heap.objs.size=some (.lst ys)∧RPs X.K (rsv Z s₂.heap.objs.size) m' H' acc ys∧Ext X.K Z m1 H2 m' H'∧Ok X.K (rsv Z s₂.heap.objs.size) m' H'∧RS X.K (rsv Z s₂.heap.objs.size) m' H' d' σ' ∧
      zn3 (zK7 g t fi2 (stepI g2 t2 f)) (xs.drop i) acc d' m' (fun ps _ m2=>RL ps m2):=by
    intro s7 σ7 H7 ys7 acc7 d7 m7 I7 a1 a2 a3 a4 a5 a6
    refine ⟨xs.length - (i + 1),by omega,i + 1,ys7,acc7,d7,m7,σ7,H7,rfl,hlt,I7.unpinned,T.keep _ _ _ st6 fun b hb o e=>(I7.pin (b,o) (List.mem_append_right _ (List.mem_append_right _ (zm5 hb e)))).1,fun b hb=>?_,a1,a2,a3,a4,a5,a6⟩
    obtain ⟨o,e,dd⟩:=T.obj _ _ st6 b hb
    exact (I7.pin (b,o) (List.mem_append_right _ (List.mem_append_right _ (zm5 hb e)))).2.1
   refine thn (hg cl _ s₂ H2 pins fp _ s6 σ' _ x u (fun σ7 H7=>∃ d7 m7,Ext X.K (rsv Z s₂.heap.objs.size) m' H6 m7 H7∧Ok X.K (rsv Z s₂.heap.objs.size) m7 H7∧RS X.K (rsv Z s₂.heap.objs.size) m7 H7 d7 σ7 ∧
    t d7 m7 fun b m2=>if b=true then fi2 d7 m2 fun zs m3=>zn3 (stepI g2 t2 f) zs acc d7 m3 (fun acc' d' m'=>zn3 (zK7 g t fi2 (stepI g2 t2 f)) (xs.drop (i + 1)) acc' d' m' (fun ps _ m2=>RL ps m2)) else zn3 (zK7 g t fi2 (stepI g2 t2 f)) (xs.drop (i + 1)) acc d7 m2 (fun ps _ m2=>RL ps m2)) I6' r6
    ⟨_,xs[i],d',m',_,ok5,rs5,rv,lp5,fun d7 m7 σ7 H7 q7 e7 ok7 rs7=>⟨d7,m7,e7,ok7,rs7,q7⟩⟩) fun _ s7 hq0=>?_
   obtain ⟨σ7,H7,I7,d7,m7,e7,ok7,rs7,q7⟩:=hq0
   refine thn (ht cl _ s₂ H2 pins fp _ s7 σ7 H7 (fun b H8=>∃ m8,Ext X.K (rsv Z s₂.heap.objs.size) m7 H7 m8 H8∧Ok X.K (rsv Z s₂.heap.objs.size) m8 H8 ∧
    if b=true then fi2 d7 m8 fun zs m3=>zn3 (stepI g2 t2 f) zs acc d7 m3 (fun acc' d' m'=>zn3 (zK7 g t fi2 (stepI g2 t2 f)) (xs.drop (i + 1)) acc' d' m' (fun ps _ m2=>RL ps m2)) else zn3 (zK7 g t fi2 (stepI g2 t2 f)) (xs.drop (i + 1)) acc d7 m8 (fun ps _ m2=>RL ps m2)) I7
    ⟨_,d7,m7,_,ok7,rs7,q7,fun b m8 H8 q8 e8 ok8=>⟨m8,e8,ok8,q8⟩⟩) fun b s8 hq0=>?_
   obtain ⟨H8,I8,m8,e8,ok8,q8⟩:=hq0
   have e68:=e7.trans e8
   have hD8:H8 s₂.heap.objs.size=some (.lst ys):=(e68.z _ (.inr rfl)).trans hDy
   cases b with
   | false =>
    rw [if_neg Bool.false_ne_true] at q8
    exact over I8 hD8 (RPs.ext e68 _ _ racc) (zx7 eX hD hkD e68) ok8 (rs7.ext e8) q8
   | true =>
    rw [if_pos rfl] at q8
    rw [if_pos rfl]
    have nz:¬ Z s₂.heap.objs.size:=fun z=>(ok1.z _ z).2 hD
    have ic:=zau7 (Y:=cyOf X scope cl HP.objs.size NC s₂ H2 pins fp) (tg:=tg) (iter:=iter) (ifs:=ifs) (scope:=scope) (pos:=pos) hc (fun _ _ z=>z) (hi2 cl _ s₂ H2 pins fp) (hg2 cl _ s₂ H2 pins fp) (ht2 cl _ s₂ H2 pins fp) (he cl _ s₂ H2 pins fp) I8 nz hD8 (RPs.ext e68 _ _ racc) ok8 (rs7.ext e8) q8
    refine thn ic fun xv9 s9 h9=>thn h9 fun it9 s10 h10=>codeAny_mono h10 ?_
    rintro r s11 ⟨hr,σ',H',ys',acc',d',m',I11,hD11,racc11,e11,ok11,rs11,q11⟩
    exact ⟨hr,over I11 hD11 racc11 (zav5 (zx7 eX hD hkD e68) hD hkD e11) ok11 rs11 q11⟩
  ·have e:i=xs.length:=by omega
   subst e
   rw [List.drop_length] at lp5
   refine thn (T.done (cyOf X scope cl HP.objs.size NC s₂ H2 pins fp) rfl rfl rfl hc _ [] s4 σ' H' (fun _ _=>False) I5 stat st5 y2) fun r s5 hq0=>?_
   obtain ⟨hr,I6⟩:=hq0
   subst hr
   have IX:=zaM6 I2 f2 I6 leC (Heap.SameBut.refl _ _)
   have nz:¬ Z s₂.heap.objs.size:=fun z=>(ok1.z _ z).2 hD
   refine fin s5 HP.objs.size s₂.heap.objs.size H' m' acc lp5 (e1.trans eX) (zaN5 ok5) ?_ ⟨_,I6.loc.choose_spec.1⟩ IX ⟨I6.free,Nat.ne_of_gt (Nat.lt_of_lt_of_le I2.lt leC),Nat.le_trans I2.sz leC,fun x c e=>?_,fun p hp=>?_⟩
   ·simp only [RD,RP]
    exact ⟨_,ys,rfl,⟨(ok5.z _ (.inr rfl)).1,nz⟩,.inl (.inl hDy),RPs.tr (fun _ _ q=>q) (fun a vs q1 q2=>⟨⟨q1.1,fun z=>q1.2 (.inl z)⟩,q2⟩) _ _ racc⟩
   ·obtain ⟨v,q⟩:=I2.cell x c e
    exact Nat.ne_of_lt (Nat.lt_of_lt_of_le q.lt leC)
   ·exact Nat.ne_of_lt (Nat.lt_of_lt_of_le (Heap.lt_size (I2.pin p hp).1) leC)
 exact codeAny_compStart_list (loop _ rfl) (T.self _ 0 _ _ _ st4 (loop _ rfl))
theorem zbd2 (src:List (Option Nat)) (hc:X.calm=true) (hi:PI X tg iter (LI X.K fi))
  (hg:∀ cl C s2 H2 pins fp,PG (cyOf X scope cl C NC s2 H2 pins fp) tg (LG X.K g)) (ht:∀ cl C s2 H2 pins fp,PF (cyOf X scope cl C NC s2 H2 pins fp) ifs (LT X.K t)) (hi2:∀ cl C s2 H2 pins fp,PI (cyOf X scope cl C NC s2 H2 pins fp) tg2 iter2 (LI X.K fi2)) (hg2:∀ cl C s2 H2 pins fp,PG (cyOf X scope cl C NC s2 H2 pins fp) tg2 (LG X.K g2)) (ht2:∀ cl C s2 H2 pins fp,PF (cyOf X scope cl C NC s2 H2 pins fp) ifs2 (LT X.K t2))
  (he:∀ cl C s2 H2 pins fp,PE (cyOf X scope cl C NC s2 H2 pins fp) elt (LE X.K f)) (hs2:∀ cl C x,foldedSetIterable iter2 (compEnvC scope cl C X.env) x=pure x)
  (hkind:scope.kind=.function) (hcell:∀ y∈scope.names,y.2≠.cell) (hnames:∀ y∈scope.names,y.2=.local→scope.names.lookup y.1=some .local)
  (hfree:∀ x,(x,NameKind.free)∈scope.names→X.env.kindOf x=some .cell∨X.env.kindOf x=some .free) (hsrc:zW8 X scope NC src)
  (hs:∀ x,foldedSetIterable iter X.env x=pure x:=by intro _; rfl) :
  PE X (.ListComp elt [⟨tg,iter,ifs,0⟩,⟨tg2,iter2,ifs2,0⟩] scope pos) (LE X.K (dLC2 src fi g t fi2 g2 t2 f)):=by
 intro pins s σ H Q I h
 obtain ⟨Z,d,m,R,ok,rs,h,k⟩:=h
 rw [eval_ListComp]
 refine zaH6 src hc hi hg ht hi2 hg2 ht2 he hs2 hkind hcell hnames hfree hsrc hs (use:=none) (QQ:=EP X pins σ Q) (RL:=fun ps m2=>R (.dat (.list ps)) m2) I ok rs h ?_
 intro s5 C D H' m' ps q e ok' rd ⟨mm,hns⟩ I5 off
 exact ⟨mm,hns,fun h' hs'=>⟨.ref D,H',off.inv I5 hs',rfl,k _ m' _ H' q e ok' rd⟩⟩
theorem zaW9 (NC:List Str) (src:List (Option Nat)) (hc:X.calm=true) (hi:PI X tg iter (LI X.K fi))
  (hg:∀ cl C s2 H2 pins fp,PG (cyOf X scope cl C NC s2 H2 pins fp) tg (LG X.K g)) (ht:∀ cl C s2 H2 pins fp,PF (cyOf X scope cl C NC s2 H2 pins fp) ifs (LT X.K t))
  (hi2:∀ cl C s2 H2 pins fp,PI (cyOf X scope cl C NC s2 H2 pins fp) tg2 iter2 (LI X.K fi2)) (hg2:∀ cl C s2 H2 pins fp,PG (cyOf X scope cl C NC s2 H2 pins fp) tg2 (LG X.K g2)) (ht2:∀ cl C s2 H2 pins fp,PF (cyOf X scope cl C NC s2 H2 pins fp) ifs2 (LT X.K t2))
  (he:∀ cl C s2 H2 pins fp,PE (cyOf X scope cl C NC s2 H2 pins fp) elt (LE X.K f))
  (hkind:scope.kind=.function:=by rfl) (hB:chkB scope X.env=true:=by rfl) (hS:chkS X.N scope X.env NC src=true:=by rfl)
  (hs2:∀ cl C x,foldedSetIterable iter2 (compEnvC scope cl C X.env) x=pure x:=by intro _ _ _; rfl)
  (hs:∀ x,foldedSetIterable iter X.env x=pure x:=by intro _; rfl):PE X (.ListComp elt [⟨tg,iter,ifs,0⟩,⟨tg2,iter2,ifs2,0⟩] scope pos) (LE X.K (dLC2 src fi g t fi2 g2 t2 f)) :=
 zbd2 (NC:=NC) src hc hi hg ht hi2 hg2 ht2 he hs2 hkind (chkB.ok hB).1 (chkB.ok hB).2.1 (chkB.ok hB).2.2 (chkS.ok hS) hs
end
end DL
namespace DL
open PySem PySem.Spec PyProof.Rows L2
section
variable {prog:Program} {w:World} {A:Around} {E:Value→Shared→Prop} {s:Shared}
theorem zao5 {it tq:Addr} {i:Nat} {its:Array Value} {x:Value} {Q:Value→Shared→Prop} (hit:s.heap.IsTupleIter it tq i) (ht:s.heap.IsTuple tq its) (hx:its[i]?=some x)
  (hQ:∀ h',h'.IsTupleIter it tq (i + 1)→Heap.SameBut it s.heap h'→Q x { s with heap:=h' }):wpAny (model prog w) A (Builtin.SmallTypes.nextOf (.ref it)) Q E s:=by
 obtain ⟨o,ho,hc,hd⟩:=id hit; obtain ⟨ol,hol,_,nl,hdl⟩:=ht
 unfold Builtin.SmallTypes.nextOf
 refine wpAny_bind (wpAny_callSpecial?_slot (name:=Str.ofString "__next__") hit.typeIs F.slot_tuple_iterator_next (wpAny_call_entry F.slot_tuple_iterator_next hit.typeIs F.entry_tuple_iterator_next ?_ (F.args_tuple_iterator_next_1 _)))
 show wpAny _ _ (field (.ref it) 0>>=_) _ _ _; refine wpAny_bind (wpAny_field ho hd (x:=.ref tq) rfl ?_)
 show wpAny _ _ (if (Value.ref tq == Value.none)=true then _ else _) _ _ s
 rw [if_neg (show ¬ ((Value.ref tq == Value.none)=true) from Bool.false_ne_true)]
 show wpAny _ _ (field (.ref it) 1>>=_) _ _ _; refine wpAny_bind (wpAny_field ho hd (x:=.int i 0) rfl ?_)
 show wpAny _ _ (seqItems? (.ref tq)>>=_) _ _ s
 refine wpAny_bind (wpAny_seqItems hol hdl ?_); simp only [Int.toNat_natCast,hx]
 refine wpAny_bind (wpAny_setField ho hd (by simp) (wpAny_pure ⟨_,rfl,wpAny_pure (hQ _ ?_ (Heap.SameBut.update ..))⟩))
 refine ⟨_,Heap.get?_update_self _ ho (Obj.isFreed_of_fields (Obj.data_mapFields hd _)),(Obj.cls_mapFields ..).trans hc,?_⟩
 rw [Obj.data_mapFields hd] <;> simp [rawInt]
theorem zaM7 {it tq:Addr} {i:Nat} {its:Array Value} {Q:Value→Shared→Prop} (hh:A.handled=none) (hit:s.heap.IsTupleIter it tq i) (ht:s.heap.IsTuple tq its) (hx:its[i]?=none)
  (hE:∀ h' e,Heap.ExtBut it s.heap h'→(∃ o,h'.get? e=some o∧o.cls=.type "StopIteration")→E (.ref e) { s with heap:=h' }):wpAny (model prog w) A (Builtin.SmallTypes.nextOf (.ref it)) Q E s:=by
 obtain ⟨o,ho,hc,hd⟩:=id hit; obtain ⟨ol,hol,_,nl,hdl⟩:=ht
 unfold Builtin.SmallTypes.nextOf
 refine wpAny_bind (wpAny_callSpecial?_slot (name:=Str.ofString "__next__") hit.typeIs F.slot_tuple_iterator_next (wpAny_call_entry F.slot_tuple_iterator_next hit.typeIs F.entry_tuple_iterator_next ?_ (F.args_tuple_iterator_next_1 _)))
 show wpAny _ _ (field (.ref it) 0>>=_) _ _ _; refine wpAny_bind (wpAny_field ho hd (x:=.ref tq) rfl ?_)
 show wpAny _ _ (if (Value.ref tq == Value.none)=true then _ else _) _ _ s
 rw [if_neg (show ¬ ((Value.ref tq == Value.none)=true) from Bool.false_ne_true)]
 show wpAny _ _ (field (.ref it) 1>>=_) _ _ _; refine wpAny_bind (wpAny_field ho hd (x:=.int i 0) rfl ?_)
 show wpAny _ _ (seqItems? (.ref tq)>>=_) _ _ s
 refine wpAny_bind (wpAny_seqItems hol hdl ?_); simp only [Int.toNat_natCast,hx]
 refine wpAny_bind (wpAny_rule (wpAny_bind (wpAny_setField ho hd (by simp) ?_))); show wpAny _ _ (newExc (.type "StopIteration") []>>=_) _ _ _
 refine wpAny_bind ?_; simp only [newExc,newTuple]; refine wpAny_bind (wpAny_newObj_type ?_ (by size_fits))
 refine wpAny_bind (m:=firstArgMember _ _) (wpAny_of_eq (a:=Value.none) (by first | rfl | (simp only [firstArgMember]; rfl)) ?_); refine wpAny_newObj_type ?_ (by size_fits)
 simp only [raiseNew]; refine wpAny_bind (wpAny_handled ?_)
 (first | rw [show A.in1.handled=none from hh] | rw [hh]); refine wpAny_bind (wpAny_pure (wpAny_throw ?_))
 exact hE _ _ (((Heap.SameBut.update ..).extBut.push _).push _) ⟨_,Heap.get?_push_size _ rfl,rfl⟩
structure Zst (h:Heap) (z TI TO i1 i2 t1 t2:Addr) (f0:Value) (k:Nat):Prop where
 z:IsZip h z TI TO f0
 ti:IsPair h TI (.ref i1) (.ref i2)
 to:∃ a b,IsPair h TO a b
 a:h.IsTupleIter i1 t1 k
 b:h.IsTupleIter i2 t2 k
theorem zaU8 {z TI TO i1 i2 t1 t2:Addr} {k:Nat} {xs ys:Array Value} {x y:Value} {Q:Value→Shared→Prop} (D:ZipApart z TI TO i1 i2 t1 t2) (S:Zst s.heap z TI TO i1 i2 t1 t2 .none k)
  (g1:s.heap.IsTuple t1 xs) (g2:s.heap.IsTuple t2 ys) (hx:xs[k]?=some x) (hy:ys[k]?=some y)
  (hQ:∀ h',Zst h' z TI TO i1 i2 t1 t2 (rawInt s.heap.objs.size) (k + 1)→IsPair h' s.heap.objs.size x y →
   (∀ c o,c≠z→c≠TO→c≠i1→c≠i2→s.heap.get? c=some o→h'.get? c=some o)→Q (.ref s.heap.objs.size) { s with heap:=h' }) :
  wpAny (model prog w) A (Builtin.«zip.__next__» ⟨[.ref z],[]⟩) (fun fin s'=>∃ v,fin=.done (.ret v)∧Q v s') E s:=by
 obtain ⟨hz,hTI,⟨a,b,hTO⟩,h1,h2⟩:=S
 show wpAny _ _ (field (.ref z) 2>>=_) _ _ _; refine wpAny_bind (wpAny_field hz rfl (x:=.bool false) rfl ?_)
 show wpAny _ _ (field (.ref z) 3>>=_) _ _ _; refine wpAny_bind (wpAny_field hz rfl (x:=.ref TI) rfl (wpAny_bind (wpAny_seqItems hTI rfl ?_)))
 show wpAny _ _ (Builtin.SmallTypes.ownedTupleIsFree (.ref z)>>=_) _ _ _; refine wpAny_bind ?_
 unfold Builtin.SmallTypes.ownedTupleIsFree; refine wpAny_bind (wpAny_field hz rfl (x:=.none) rfl (wpAny_pure ?_))
 simp only [if_true]; refine wpAny_bind (wpAny_rule (wpAny_bind (wpAny_field hz rfl (x:=.ref TO) rfl ?_)))
 refine wpAny_bind (wpAny_setField_rec hz (by simp) fun n1 z1 c1=>?_); replace z1:IsZip n1 z TI TO .ellipsis:=z1
 refine wpAny_bind ?_; simp only [List.zipIdx_cons,List.zipIdx_nil,List.forIn_cons,List.forIn_nil]
 refine wpAny_bind (wpAny_bind (wpAny_onRaise ?_)); show wpAny _ _ (Builtin.SmallTypes.nextOf (.ref i1)>>=_) _ _ _
 refine wpAny_bind (zao5 (h1.at fun o e=>c1.extBut _ o D.i1z e) (g1.extBut c1.extBut D.l1z) hx fun n2 b2 c2=>wpAny_pure ?_)
 have p2:IsPair n2 TO a b:=c2.extBut _ _ D.TOi1 (c1.extBut _ _ D.TOz hTO)
 refine wpAny_bind (wpAny_seqItems p2 rfl (wpAny_bind (wpAny_updateSeq_pair p2 fun n3 p3 c3=>?_))); replace p3:IsPair n3 TO x b:=p3
 refine wpAny_bind (wpAny_letGo (wpAny_pure (wpAny_bind (wpAny_bind (wpAny_onRaise ?_))))); show wpAny _ _ (Builtin.SmallTypes.nextOf (.ref i2)>>=_) _ _ _
 have up3:∀ c o,c≠z→c≠TO→c≠i1→s.heap.get? c=some o→n3.get? c=some o:=fun c o q1 q2 q3 e=>c3.extBut _ _ q2 (c2.extBut _ _ q3 (c1.extBut _ _ q1 e))
 have g23:n3.IsTuple t2 ys:=by
  obtain ⟨o,ho,r⟩:=g2
  exact ⟨o,up3 _ _ D.l2z D.l2TO D.l2i1 ho,r⟩
 refine wpAny_bind (zao5 (h2.at fun o e=>up3 _ o D.i2z D.TOi2.symm D.i12.symm e) g23 hy fun n4 b4 c4=>wpAny_pure ?_)
 have p4:IsPair n4 TO x b:=c4.extBut _ _ D.TOi2 p3
 refine wpAny_bind (wpAny_seqItems p4 rfl (wpAny_bind (wpAny_updateSeq_pair p4 fun n5 p5 c5=>?_))); replace p5:IsPair n5 TO x y:=p5
 refine wpAny_bind (wpAny_letGo (wpAny_pure (wpAny_pure (wpAny_bind (wpAny_seqItems p5 rfl (wpAny_bind (wpAny_newTuple ?_)))))))
 have size5:n5.objs.size=s.heap.objs.size:=by rw [c5.1,c4.1,c3.1,c2.1,c1.1]
 have z5:IsZip n5 z TI TO .ellipsis:=c5.extBut _ _ D.TOz.symm (c4.extBut _ _ D.i2z.symm (c3.extBut _ _ D.TOz.symm (c2.extBut _ _ D.i1z.symm z1)))
 have up5:∀ c o,c≠z→c≠TO→c≠i1→c≠i2→s.heap.get? c=some o→n5.get? c=some o:=fun c o q1 q2 q3 q4 e=>c5.extBut _ _ q2 (c4.extBut _ _ q4 (up3 c o q1 q2 q3 e))
 have a5:n5.IsTupleIter i1 t1 (k + 1):=b2.at fun o e=>c5.extBut _ _ D.TOi1.symm (c4.extBut _ _ D.i12 (c3.extBut _ _ D.TOi1.symm e))
 have b5:n5.IsTupleIter i2 t2 (k + 1):=b4.at fun o e=>c5.extBut _ _ D.TOi2.symm e
 have zlt:z < n5.objs.size:=Heap.lt_size z5
 show wpAny _ _ (Builtin.SmallTypes.ownedTupleHandOut (.ref z) (.ref n5.objs.size)>>=_) _ _ _; refine wpAny_bind ?_
 unfold Builtin.SmallTypes.ownedTupleHandOut
 have z6:IsZip (n5.push { cls:=.type "tuple",data:=.seq #[x,y] }) z TI TO .ellipsis:=Heap.get?_push_of_some _ z5
 refine wpAny_bind (wpAny_setField_rec z6 (by simp) fun n7 z7 c7=>?_); replace z7:IsZip n7 z TI TO (rawInt n5.objs.size):=z7
 refine wpAny_setField_rec z7 (by simp) fun n8 z8 c8=>?_; replace z8:IsZip n8 z TI TO (rawInt n5.objs.size):=z8
 have up8:∀ c o,c≠z→n5.get? c=some o→n8.get? c=some o:=fun c o q e=>c8.extBut _ _ q (c7.extBut _ _ q (Heap.get?_push_of_some _ e))
 have new8:IsPair n8 n5.objs.size x y:=c8.extBut _ _ (Nat.ne_of_gt zlt) (c7.extBut _ _ (Nat.ne_of_gt zlt) (Heap.get?_push_size _ rfl))
 rw [size5] at z8 new8
 refine wpAny_pure ⟨_,rfl,?_⟩
 show Q (.ref n5.objs.size) _
 rw [size5]
 exact hQ n8 ⟨z8,up8 _ _ D.TIz (up5 _ _ D.TIz D.TITO D.TIi1 D.TIi2 hTI),⟨x,y,up8 _ _ D.TOz p5⟩,a5.at fun o e=>up8 _ o D.i1z e,b5.at fun o e=>up8 _ o D.i2z e⟩ new8 fun c o q1 q2 q3 q4 e=>up8 c o q1 (up5 c o q1 q2 q3 q4 e)
theorem zaZ3 {z TI TO i1 i2 t1 t2:Addr} {k:Nat} {xs ys:Array Value} {Q:Fin→Shared→Prop} (hh:A.handled=none) (D:ZipApart z TI TO i1 i2 t1 t2) (S:Zst s.heap z TI TO i1 i2 t1 t2 .none k)
  (g1:s.heap.IsTuple t1 xs) (g2:s.heap.IsTuple t2 ys) (hend:xs[k]?=none∨ys[k]?=none)
  (hE:∀ h' e,(∀ c o,c≠z→c≠TO→c≠i1→c≠i2→s.heap.get? c=some o→h'.get? c=some o)→(∃ o,h'.get? e=some o∧o.cls=.type "StopIteration")→E (.ref e) { s with heap:=h' }) :
  wpAny (model prog w) A (Builtin.«zip.__next__» ⟨[.ref z],[]⟩) Q E s:=by
 obtain ⟨hz,hTI,⟨a,b,hTO⟩,h1,h2⟩:=S
 show wpAny _ _ (field (.ref z) 2>>=_) _ _ _; refine wpAny_bind (wpAny_field hz rfl (x:=.bool false) rfl ?_)
 show wpAny _ _ (field (.ref z) 3>>=_) _ _ _; refine wpAny_bind (wpAny_field hz rfl (x:=.ref TI) rfl (wpAny_bind (wpAny_seqItems hTI rfl ?_)))
 show wpAny _ _ (Builtin.SmallTypes.ownedTupleIsFree (.ref z)>>=_) _ _ _; refine wpAny_bind ?_
 unfold Builtin.SmallTypes.ownedTupleIsFree; refine wpAny_bind (wpAny_field hz rfl (x:=.none) rfl (wpAny_pure ?_))
 simp only [if_true]; refine wpAny_bind (wpAny_rule (wpAny_bind (wpAny_field hz rfl (x:=.ref TO) rfl ?_)))
 refine wpAny_bind (wpAny_setField_rec hz (by simp) fun n1 z1 c1=>?_); replace z1:IsZip n1 z TI TO .ellipsis:=z1
 refine wpAny_bind ?_; simp only [List.zipIdx_cons,List.zipIdx_nil,List.forIn_cons,List.forIn_nil]
 refine wpAny_bind (wpAny_bind (wpAny_onRaise ?_)); show wpAny _ _ (Builtin.SmallTypes.nextOf (.ref i1)>>=_) _ _ _
 have apart:∀ (n:Heap) (e:Addr) (oe:Obj),IsZip n z TI TO .ellipsis→n.get? e=some oe→oe.cls=.type "StopIteration"→e≠z:=fun n e oe q q1 q2 q3=>by
  subst q3
  rw [q] at q1
  cases q1
  simp at q2
 cases hx:xs[k]? with
 | none =>
  refine wpAny_bind (zaM7 hh (h1.at fun o e=>c1.extBut _ o D.i1z e) (g1.extBut c1.extBut D.l1z) hx fun n2 e c2 he=>?_)
  obtain ⟨oe,q1,q2⟩:=he
  have z2:IsZip n2 z TI TO .ellipsis:=c2 _ _ D.i1z.symm z1
  exact wpAny_setField_rec z2 (by simp) fun n3 _ c3=>hE n3 e (fun c o r1 _ r3 _ q=>c3.extBut _ _ r1 (c2 _ _ r3 (c1.extBut _ _ r1 q))) ⟨oe,c3.extBut _ _ (apart _ _ _ z2 q1 q2) q1,q2⟩
 | some x =>
  have hy:ys[k]?=none:=by
   rcases hend with h | h
   ·rw [hx] at h; cases h
   ·exact h
  refine wpAny_bind (zao5 (h1.at fun o e=>c1.extBut _ o D.i1z e) (g1.extBut c1.extBut D.l1z) hx fun n2 b2 c2=>wpAny_pure ?_)
  have p2:IsPair n2 TO a b:=c2.extBut _ _ D.TOi1 (c1.extBut _ _ D.TOz hTO)
  refine wpAny_bind (wpAny_seqItems p2 rfl (wpAny_bind (wpAny_updateSeq_pair p2 fun n3 p3 c3=>?_)))
  refine wpAny_bind (wpAny_letGo (wpAny_pure (wpAny_bind (wpAny_bind (wpAny_onRaise ?_))))); show wpAny _ _ (Builtin.SmallTypes.nextOf (.ref i2)>>=_) _ _ _
  have up3:∀ c o,c≠z→c≠TO→c≠i1→s.heap.get? c=some o→n3.get? c=some o:=fun c o q1 q2 q3 e=>c3.extBut _ _ q2 (c2.extBut _ _ q3 (c1.extBut _ _ q1 e))
  have g23:n3.IsTuple t2 ys:=by
   obtain ⟨o,ho,r⟩:=g2
   exact ⟨o,up3 _ _ D.l2z D.l2TO D.l2i1 ho,r⟩
  refine wpAny_bind (zaM7 hh (h2.at fun o e=>up3 _ o D.i2z D.TOi2.symm D.i12.symm e) g23 hy fun n4 e c4 he=>?_)
  obtain ⟨oe,q1,q2⟩:=he
  have z4:IsZip n4 z TI TO .ellipsis:=c4 _ _ D.i2z.symm (c3.extBut _ _ D.TOz.symm (c2.extBut _ _ D.i1z.symm z1))
  exact wpAny_setField_rec z4 (by simp) fun n5 _ c5=>hE n5 e (fun c o r1 r2 r3 r4 q=>c5.extBut _ _ r1 (c4 _ _ r4 (up3 c o r1 r2 r3 q))) ⟨oe,c5.extBut _ _ (apart _ _ _ z4 q1 q2) q1,q2⟩
end
end DL
namespace DL
open PySem PySem.Spec PyProof.Rows L2
section
variable {X:Cx} {pins:List (Addr×Obj)} {σ:L2.St} {H:Hp} {s:Shared} {h':Heap}
theorem zaL5 {t':Nat} {ch:List Addr} (I:Inv X pins σ H s) (k:∀ b o,b ∉ ch→s.heap.get? b=some o→h'.get? b=some o) (hf:∀ b∈ch,FpOk X pins H b):Inv X pins σ H { s with heap:=h',toks:=t' }:=by
 have nit:∀ b u,H b=some u→b ∉ ch:=fun b u e z=>by rw [(hf b z).1] at e; cases e
 refine I.step (g':=s.gens) (d':=s.drawn) (ch:=ch) (fun b hb=>?_) (fun b o _ _ hc e _=>k b o hc e) (fun b o _ _ hc e _=>⟨o.slots,k b o hc e⟩) (fun _ _ _ _ n=>n) (fun b o hc e=>⟨o,k b o hc e⟩) (fun _ _ e=>e) (fun _ _ _ e=>e) (fun b ps e=>⟨#[],by rw [e]; simp⟩) (fun m hm=>?_) (fun b u e=>?_) I.bare
 ·obtain ⟨_,f1,_,f3,f4,f5⟩:=hf b hb
  exact ⟨f3,f1,f4,f5⟩
 ·obtain ⟨o,es,ep,ho,r⟩:=hm
  exact ⟨o,es,ep,k _ o (fun z=>(hf _ z).2.1 rfl) ho,r⟩
 ·refine (I.hok b u e).stay (fun c v hc q=>k c v ?_ q) (fun _ q=>q) fun _ _ q=>q
  rcases hc with z | z
  ·rw [z]; exact nit b u e
  ·exact nit c _ z
end
section
variable {prog:Program} {w:World} {A:Around} {E:Value→Shared→Prop} {s:Shared}
abbrev zq1 (h:Heap) (t1:Addr):Heap:=h.push { cls:=.type "tuple_iterator",data:=.fields #[.ref t1,.int 0 0] }
abbrev zq2 (h:Heap) (t1 t2:Addr):Heap:=(zq1 h t1).push { cls:=.type "tuple_iterator",data:=.fields #[.ref t2,.int 0 0] }
abbrev zq3 (h:Heap) (t1 t2:Addr):Heap:=(zq2 h t1 t2).push { cls:=.type "tuple",data:=.seq #[.ref h.objs.size,.ref (zq1 h t1).objs.size] }
abbrev zq4 (h:Heap) (t1 t2:Addr):Heap:=(zq3 h t1 t2).push { cls:=.type "tuple",data:=.seq #[.none,.none] }
abbrev zq5 (h:Heap) (t1 t2:Addr):Heap:=(zq4 h t1 t2).push { cls:=.type "zip",data:=.fields #[.none,.bool false,.bool false,.ref (zq2 h t1 t2).objs.size,.ref (zq3 h t1 t2).objs.size] }
theorem zaL6 {h:Heap} {t:Addr} {xs:Array Value} (g:h.IsTuple t xs) (o:Obj):(h.push o).IsTuple t xs:=by
 obtain ⟨u,hu,r⟩:=g
 exact ⟨u,Heap.get?_push_of_some _ hu,r⟩
theorem zbd0 (t1 t2:Addr) (xs ys:Array Value):Meets (Builtin.«zip.__new__» ⟨[.type "zip",.ref t1,.ref t2],[]⟩) (fun _ R s=>s.heap.IsTuple t1 xs∧s.heap.IsTuple t2 ys ∧
  R (.ok (.ret (.ref (zq4 s.heap t1 t2).objs.size))) { s with heap:=zq5 s.heap t1 t2 }):=.of_wp fun prog w A R s hs=>by
 obtain ⟨hp,g,d,tk,os⟩:=s; obtain ⟨hl1,hl2,h⟩:=hs
 have hsub:=sub_zip
 have u1:Heap.IsTuple (Shared.heap ⟨hp,g,d,tk,os⟩) t1 xs:=hl1
 have u2:Heap.IsTuple (Shared.heap ⟨hp.push { cls:=.type "tuple_iterator",data:=.fields #[.ref t1,.int 0 0] },g,d,tk,os⟩) t2 ys:=zaL6 hl2 _
 wp_walk using wpAny_pyIter_tuple u1,wpAny_pyIter_tuple u2
 exact ⟨_,rfl,h⟩
theorem zaW3 {t1 t2:Addr} {xs ys:Array Value} {Q:Value→Shared→Prop} (g1:s.heap.IsTuple t1 xs) (g2:s.heap.IsTuple t2 ys)
  (h:∀ h' n,n=s.heap.objs.size→Zst h' (n + 4) (n + 2) (n + 3) n (n + 1) t1 t2 .none 0→(∀ c o,s.heap.get? c=some o→h'.get? c=some o)→Q (.ref (n + 4)) { s with heap:=h' }):wpAny (model prog w) A (call (.type "zip") [.ref t1,.ref t2]) Q E s:=by
 refine callType_new F.called_zip (by decide) (F.typeCall_zip_2 _ _) (F.newCall_zip_2 _ _) (fun obj=>F.args_object_init_3 obj _ _) F.entry_zip_new (zbd0 t1 t2 xs ys) ⟨g1,g2,?_⟩
 have z1:(zq1 s.heap t1).objs.size=s.heap.objs.size + 1:=Heap.size_push ..
 have z2:(zq2 s.heap t1 t2).objs.size=s.heap.objs.size + 2:=by rw [Heap.size_push,z1]
 have z3:(zq3 s.heap t1 t2).objs.size=s.heap.objs.size + 3:=by rw [Heap.size_push,z2]
 have z4:(zq4 s.heap t1 t2).objs.size=s.heap.objs.size + 4:=by rw [Heap.size_push,z3]
 have a5:(zq5 s.heap t1 t2).get? (zq4 s.heap t1 t2).objs.size=some _:=Heap.get?_push_size _ rfl
 have a4:(zq5 s.heap t1 t2).get? (zq3 s.heap t1 t2).objs.size=some _:=Heap.get?_push_of_some _ (Heap.get?_push_size _ rfl)
 have a3:(zq5 s.heap t1 t2).get? (zq2 s.heap t1 t2).objs.size=some _:=Heap.get?_push_of_some _ (Heap.get?_push_of_some _ (Heap.get?_push_size _ rfl))
 have a2:(zq5 s.heap t1 t2).get? (zq1 s.heap t1).objs.size=some _:=Heap.get?_push_of_some _ (Heap.get?_push_of_some _ (Heap.get?_push_of_some _ (Heap.get?_push_size _ rfl)))
 have a1:(zq5 s.heap t1 t2).get? s.heap.objs.size=some _:=Heap.get?_push_of_some _ (Heap.get?_push_of_some _ (Heap.get?_push_of_some _ (Heap.get?_push_of_some _ (Heap.get?_push_size _ rfl))))
 show _∧_
 rw [z2,z3,z4] at a5
 rw [z1,z2] at a3
 rw [z3] at a4
 rw [z1] at a2
 rw [z4]
 exact ⟨⟨_,a5,rfl⟩,h _ _ rfl ⟨a5,a3,⟨_,_,a4⟩,⟨_,a1,rfl,rfl⟩,⟨_,a2,rfl,rfl⟩⟩ fun c o x=>Heap.get?_push_of_some _ (Heap.get?_push_of_some _ (Heap.get?_push_of_some _ (Heap.get?_push_of_some _ (Heap.get?_push_of_some _ x))))⟩
end
def Itz (K:PySem.W.Frag) (t1 t2:Addr) (n:Nat):It :=
 ⟨fun i H=>i < n∧∃ xs ys,SqT K H t1 xs∧SqT K H t2 ys∧n=min xs.length ys.length,fun i H v H'=>∃ p x y,v=.ref p∧H p=none∧H'=upd H p (.tup [x,y])∧∀ xs ys,SqT K H t1 xs→SqT K H t2 ys→xs[i]?=some x∧ys[i]?=some y,
  fun i H=>i=n∧∃ xs ys,SqT K H t1 xs∧SqT K H t2 ys∧n=min xs.length ys.length⟩
theorem zaJ1 {P:Program} {w:World} {K:PySem.W.Frag} {elts:List Expr} {j:Nat} {pos:Pos} {z TI TO i1 i2 t1 t2:Addr} {n:Nat} (D:ZipApart z TI TO i1 i2 t1 t2) :
  Turn P w K (.Tuple elts j pos) (Itz K t1 t2 n) [z,TI,TO,i1,i2] z (fun i h=>Zst h z TI TO i1 i2 t1 t2 .none i) where
 mem:=by simp
 obj:=fun i h st b hb=>by
  obtain ⟨h1,h2,⟨a,c,h3⟩,⟨o4,e4,_,d4⟩,⟨o5,e5,_,d5⟩⟩:=st
  simp only [List.mem_cons,List.not_mem_nil,or_false] at hb
  rcases hb with rfl | rfl | rfl | rfl | rfl
  ·exact ⟨_,h1,fun v q=>nomatch q⟩
  ·exact ⟨_,h2,fun v q=>nomatch q⟩
  ·exact ⟨_,h3,fun v q=>nomatch q⟩
  ·exact ⟨_,e4,fun v q=>by rw [d4] at q; cases q⟩
  ·exact ⟨_,e5,fun v q=>by rw [d5] at q; cases q⟩
 keep:=fun i h h' st k=>by
  obtain ⟨h1,h2,⟨a,c,h3⟩,h4,h5⟩:=st
  exact ⟨k z (by simp) _ h1,k TI (by simp) _ h2,⟨a,c,k TO (by simp) _ h3⟩,h4.at fun o e=>k i1 (by simp) o e,h5.at fun o e=>k i2 (by simp) o e⟩
 item:=by
  intro X hP hw hK hc i pins s σ H E I hf st hg
  subst hP hw hK
  obtain ⟨hi,xs,ys,q1,q2,hn⟩:=hg
  obtain ⟨its1,r1,p1,l1⟩:=I.tuple q1
  obtain ⟨its2,r2,p2,l2⟩:=I.tuple q2
  have e1:xs[i]?=some (xs[i]'(by omega)):=List.getElem?_eq_getElem (by omega)
  have e2:ys[i]?=some (ys[i]'(by omega)):=List.getElem?_eq_getElem (by omega)
  obtain ⟨u1,hu1,ru1⟩:=r1.get e1
  obtain ⟨u2,hu2,ru2⟩:=r2.get e2
  have hT:s.TypeIs (.ref z) "zip":=⟨_,st.z,rfl⟩
  have hp:H s.heap.objs.size=none:=I.hok.fresh (Nat.le_refl _)
  unfold pyNext
  refine wpAny_bind (wpAny_attempt (wpAny_callSpecial?_slot (name:=Str.ofString "__next__") hT F.slot_zip_next (wpAny_call_entry F.slot_zip_next hT F.entry_zip_next (zaU8 D st (show s.heap.IsTuple t1 its1.toArray from p1) (show s.heap.IsTuple t2 its2.toArray from p2) (by simpa using hu1) (by simpa using hu2) fun h' st' np k=>wpAny_pure ?_) (F.args_zip_next_1 _))))
  refine ⟨_,rfl,?_⟩
  refine wpAny_letOwnedTupleGo_zip (s:={ s with heap:=h' }) st'.z fun h2 z2 c2=>?_
  have I1:Inv X pins σ (upd H s.heap.objs.size (.tup [_,_])) { s with heap:=s.heap.push { cls:=.type "tuple",data:=.seq #[u1,u2] } } :=
   I.laid (t':=s.toks) (fun b o e=>Heap.get?_push_of_some _ e) (Nat.le_refl _) (show ObjOk X.prog X.w _ _ _ (.tup [_,_]) from ⟨⟨by show 2≤sizeLine; rw [sizeLine_eq]; decide,NoD.new _ _ _⟩,[u1,u2],.cons ru1 (.cons ru2 .nil),IsTup.new _ _⟩)
  have lt:∀ {c o},s.heap.get? c=some o→c≠s.heap.objs.size:=fun e=>Nat.ne_of_lt (Heap.lt_size e)
  have zne:s.heap.objs.size≠z:=fun e=>lt st.z e.symm
  have hf':∀ b∈[z,TI,TO,i1,i2],FpOk X pins (upd H s.heap.objs.size (.tup [xs[i]'(by omega),ys[i]'(by omega)])) b:=fun b hb=>by
   obtain ⟨f0,f1,f2,f3,f4,f5⟩:=hf b hb
   refine ⟨?_,f1,f2,f3,f4,f5⟩
   rw [zc9]
   ·exact f0
   ·obtain ⟨h1,h2,⟨a,c,h3⟩,⟨o4,e4,_⟩,⟨o5,e5,_⟩⟩:=st
    simp only [List.mem_cons,List.not_mem_nil,or_false] at hb
    rcases hb with rfl | rfl | rfl | rfl | rfl
    ·exact lt h1
    ·exact lt h2
    ·exact lt h3
    ·exact lt e4
    ·exact lt e5
  have kk:∀ b o,b ∉ [z,TI,TO,i1,i2]→(s.heap.push { cls:=.type "tuple",data:=.seq #[u1,u2] }).get? b=some o→h2.get? b=some o:=fun b o hb e=>by
   simp only [List.mem_cons,List.not_mem_nil,or_false,not_or] at hb
   obtain ⟨n1,n2,n3,n4,n5⟩:=hb
   refine c2.extBut _ _ n1 ?_
   rcases Heap.get?_push_cases e with ⟨rfl,rfl⟩ | e
   ·exact np
   ·exact k b o n1 n3 n4 n5 e
  have I2:=zaL5 (s:={ s with heap:=s.heap.push { cls:=.type "tuple",data:=.seq #[u1,u2] } }) (h':=h2) (t':=s.toks) (ch:=[z,TI,TO,i1,i2]) I1 kk hf'
  refine ⟨.ref s.heap.objs.size,upd H s.heap.objs.size (.tup [xs[i]'(by omega),ys[i]'(by omega)]),I2,rfl,⟨_,_,_,rfl,hp,rfl,fun xs' ys' g1 g2=>?_⟩,?_,fun b hb=>(hf' b hb).1⟩
  ·rw [I.tuple_inj g1 q1,I.tuple_inj g2 q2]
   exact ⟨e1,e2⟩
  ·obtain ⟨h1,h2',⟨a,c,h3⟩,h4,h5⟩:=st'
   exact ⟨z2,c2.extBut _ _ D.TIz h2',⟨a,c,c2.extBut _ _ D.TOz h3⟩,h4.at fun o e=>c2.extBut _ _ D.i1z e,h5.at fun o e=>c2.extBut _ _ D.i2z e⟩
 done:=by
  intro X hP hw hK hc i pins s σ H E I hf st hg
  subst hP hw hK
  obtain ⟨hi,xs,ys,q1,q2,hn⟩:=hg
  obtain ⟨its1,r1,p1,l1⟩:=I.tuple q1
  obtain ⟨its2,r2,p2,l2⟩:=I.tuple q2
  have m1:=r1.length
  have m2:=r2.length
  have hT:s.TypeIs (.ref z) "zip":=⟨_,st.z,rfl⟩
  unfold pyNext
  refine wpAny_bind (wpAny_attempt (wpAny_callSpecial?_slot (name:=Str.ofString "__next__") hT F.slot_zip_next (wpAny_call_entry F.slot_zip_next hT F.entry_zip_next (zaZ3 (I.ok.hd hc) D st (show s.heap.IsTuple t1 its1.toArray from p1) (show s.heap.IsTuple t2 its2.toArray from p2) ?_ fun h' e k he=>?_) (F.args_zip_next_1 _))))
  ·by_cases c:xs.length≤ys.length
   ·left
    simp
    omega
   ·right
    simp
    omega
  ·obtain ⟨o,ho,hce⟩:=he
   refine wpAny_bind (wpAny_isInstance (T:="StopIteration") (b:=true) ⟨o,ho,hce⟩ isSubtype_stop ?_)
   refine wpAny_pure ⟨rfl,zaL5 (t':=s.toks) (ch:=[z,TI,TO,i1,i2]) I (fun b o hb e=>?_) hf⟩
   simp only [List.mem_cons,List.not_mem_nil,or_false,not_or] at hb
   exact k b o hb.1 hb.2.2.1 hb.2.2.2.1 hb.2.2.2.2 e
 self:=fun _ _ _ _ _ st h=>wpAny_pyIter_zip st.z h
theorem zaM9 (n a1 a2:Nat) (h1:a1 < n) (h2:a2 < n):ZipApart (n + 4) (n + 2) (n + 3) n (n + 1) a1 a2:=by
 constructor <;> exact fun e=>absurd (show (_:Nat)=_ from e) (by omega)
theorem zai9:bootBuiltins "zip"=some (.type "zip"):=by decide +kernel
@[simp] def zaF8 (f g:DE):DI:=fun d m Q=>f d m fun x m1=>g d m1 fun y m2=>∃ ps qs,x=.dat (.tuple ps)∧y=.dat (.tuple qs)∧Q ((ps.zip qs).map fun z=>.dat (.tuple [z.1,z.2])) m2
section
variable {X:Cx} {a b:Expr} {elts:List Expr} {j:Nat} {f g:DE} {pos p p2:Pos}
theorem zbd6 (hg:Gl X "zip") (hm:X.mg "zip"=none) (ha:PE X a (LE X.K f)) (hb:PE X b (LE X.K g)) (hs:starEach [a,b] X.env=[(false,eval a X.env),(false,eval b X.env)]:=by rfl) (hs2:starEach [b] X.env=[(false,eval b X.env)]:=by rfl) :
  PI X (.Tuple elts j p2) (.Call (.Name "zip" p) [a,b] [] pos) (LI X.K (zaF8 f g)):=by
 intro pins s σ H R I h
 obtain ⟨Z,d,m,ZZ,ok,rs,h,k⟩:=h
 have hA:=zU0 (X:=X) ha (zU0 hb zaC1 (by rw [hs2]; rfl)) (by rw [hs,hs2]) pos pins s σ H (fun vs H1=>∃ a1 a2 xs ys ps qs m1,vs=[.ref a1,.ref a2]∧SqT X.K H1 a1 xs∧SqT X.K H1 a2 ys∧RPs X.K Z m1 H1 ps xs∧RPs X.K Z m1 H1 qs ys ∧
   ZZ ((ps.zip qs).map fun z=>.dat (.tuple [z.1,z.2])) m1∧Ext X.K Z m H m1 H1∧Ok X.K Z m1 H1) I ⟨Z,d,m,fun ds m1=>match ds with | [x,y]=>∃ ps qs,x=.dat (.tuple ps)∧y=.dat (.tuple qs)∧ZZ ((ps.zip qs).map fun z=>.dat (.tuple [z.1,z.2])) m1 | _=>False,ok,rs,h,fun xs m1 vs H1 q e1 ok1 rd=>?_⟩
 ·refine Call_ (zP2 I hg hm zai9 (PyProof.Rows.callWith_type1 (thn hA fun us s1 ⟨vs,H1,I1,r1,q1⟩=>?_) (by rw [hs,hs2]) (by rw [hs2]; rfl)))
  obtain ⟨a1,a2,xs,ys,ps,qs,m1,e,h1,h2,rp,rq,q,e1,ok1⟩:=q1
  subst e
  obtain ⟨u1,u2,rfl,ru1,ru2⟩:=zaS1 r1
  cases ru1
  cases ru2
  obtain ⟨its1,rv1,pt1,l1⟩:=I1.tuple h1
  obtain ⟨its2,rv2,pt2,l2⟩:=I1.tuple h2
  refine zaW3 (show s1.heap.IsTuple a1 its1.toArray from pt1) (show s1.heap.IsTuple a2 its2.toArray from pt2) fun h' n hn st kp=>?_
  have D:ZipApart (n + 4) (n + 2) (n + 3) n (n + 1) a1 a2:=zaM9 n a1 a2 (by obtain ⟨o,ho,_⟩:=pt1; rw [hn]; exact Heap.lt_size ho) (by obtain ⟨o,ho,_⟩:=pt2; rw [hn]; exact Heap.lt_size ho)
  refine wpAny_pyIter_zip (s:={ s1 with heap:=h' }) st.z ?_
  refine ⟨n + 4,[n + 4,n + 2,n + 3,n,n + 1],_,_,H1,rfl,I1.kept (t':=s1.toks) kp,zaJ1 (n:=min xs.length ys.length) D,st,fun c hc=>?_,k _ m1 H1 _ q e1 ok1 ?_⟩
  ·have hle:s1.heap.objs.size≤c:=by
    simp only [List.mem_cons,List.not_mem_nil,or_false] at hc
    subst hn
    rcases hc with rfl | rfl | rfl | rfl | rfl
    ·exact Nat.le_add_right _ 4
    ·exact Nat.le_add_right _ 2
    ·exact Nat.le_add_right _ 3
    ·exact Nat.le_refl _
    ·exact Nat.le_add_right _ 1
   exact I1.fpOk hle (I1.hok.fresh hle)
  ·intro m2 H2 e2
   have q1:=e2.t a1 xs h1
   have q2:=e2.t a2 ys h2
   have lp:=rp.length
   have lq:=rq.length
   refine ⟨fun i x hx=>?_,?_,xs,ys,q1,q2,rfl⟩
   ·rw [List.getElem?_map] at hx
    cases ez:(ps.zip qs)[i]? with
    | none=>rw [ez] at hx; cases hx
    | some z =>
     rw [ez] at hx
     cases hx
     obtain ⟨z1,z2⟩:=z
     obtain ⟨ea,eb⟩:=List.getElem?_zip_eq_some.mp ez
     obtain ⟨v1,hv1,rv1'⟩:=rp.get ea
     obtain ⟨v2,hv2,rv2'⟩:=rq.get eb
     have b1:=(List.getElem?_eq_some_iff.mp hv1).1
     have b2:=(List.getElem?_eq_some_iff.mp hv2).1
     refine ⟨⟨by omega,xs,ys,q1,q2,rfl⟩,fun v H3 ⟨pp,x',y',ev,hp,eH,al⟩=>?_⟩
     obtain ⟨w1,w2⟩:=al xs ys q1 q2
     rw [hv1] at w1
     rw [hv2] at w2
     cases w1
     cases w2
     refine .inr ⟨pp,[z1,z2],[_,_],rfl,ev,hp,eH,?_⟩
     simp only [RPs]
     exact ⟨_,_,rfl,rv1',_,_,rfl,rv2',rfl⟩
   ·show ((ps.zip qs).map _).length=min xs.length ys.length
    rw [List.length_map,List.length_zip,lp,lq]
 ·match xs,q,rd with
  | [],q,_=>exact q.elim
  | [_],q,_=>exact q.elim
  | _ :: _ :: _ :: _,q,_=>exact q.elim
  | [x,y],q,rd =>
  obtain ⟨ps,qs,rfl,rfl,q⟩:=q
  obtain ⟨v,w,rfl,g1,g2⟩:=rd.two
  simp only [RD,RP] at g1 g2
  obtain ⟨a1,xs,rfl,h1,h2⟩:=g1
  obtain ⟨a2,ys,rfl,h3,h4⟩:=g2
  exact ⟨a1,a2,xs,ys,ps,qs,m1,rfl,h1,h3,h2,h4,q,e1,ok1⟩
end
end DL
namespace DL
open PySem PySem.Spec PyProof.Rows L2
section
variable {X:Cx} {a e o:Expr} {es:List Expr} {f g:DE} {ga:DA} {pos p p1 p2:Pos}
theorem zaj7:∀ {zs:List Str} {us:List Value},Vals (zs.map V.str) us→StrsAre us zs
 | [],_,.nil=>.nil
 | z :: zs,_,.cons ⟨t,e⟩ r=>by
  rw [e]
  exact .cons z t (zaj7 r)
theorem zai4:∀ {zs:List Str} {us:List Value},StrsAre us zs→Vals (zs.map V.str) us
 | _,_,.nil=>.nil
 | _,_,.cons z t r=>.cons ⟨t,rfl⟩ (zai4 r)
theorem zak3:bootBuiltins "sorted"=some (.builtin "sorted"):=by decide +kernel
@[simp] def zal9:DC
 | [.dat (.list ps)],m,Q=>∃ zs:List Str,ps=zs.map .str∧zs.length < 64∧∀ ys:List Str,ys.Perm zs→PyProof.Rows.sortedS ys=true→Q (.dat (.list (ys.map .str))) m
 | _,_,_=>False
theorem zaC5:CallD X (.builtin "sorted") zal9:=by
 intro pins s σ H Z m xs ds us R Q I ok rv rd h k
 unfold zal9 at h
 split at h
 ·obtain ⟨v,rfl,r1⟩:=rd.one
  obtain ⟨zs,rfl,hl,hh⟩:=h
  simp only [RD,RP] at r1
  obtain ⟨a,vs,rfl,_,h1,h2⟩:=r1
  cases zp9 h2
  obtain ⟨u,rfl,ru⟩:=zS0 rv
  cases ru
  obtain ⟨its,r',pl,hz⟩:=I.list h1
  have hlen:=r'.length
  rw [List.length_map] at hlen
  refine sorted_strs pl.isList (zaj7 r') (by omega) fun out ys hS hp hs=>?_
  obtain ⟨e',he⟩:=sortedAll_at s.heap its out
  have hv:=zai4 hS
  have hvl:=hv.length
  have hpl:=hp.length_eq
  rw [List.length_map] at hvl
  have hle:s.heap.objs.size≤s.heap.objs.size + 1:=Nat.le_succ _
  have I2:=I.laid (t':=s.toks) (a:=s.heap.objs.size + 1) (o:=.lst (ys.map V.str)) (fun b u q=>sortedAll_old (out:=out) (vs:=its) q) hle ⟨by rw [List.length_map]; have:=zR2; rw [sizeLine_eq]; omega,out.toList,e',hv,he⟩
  have hf:H (s.heap.objs.size + 1)=none:=I.hok.fresh hle
  have sm:Same H (upd H (s.heap.objs.size + 1) (.lst (ys.map V.str))):=zc6 hf
  refine ⟨.ref _,_,I2,rfl,k _ m _ _ (hh ys hp hs) (ok.ext sm) (ok.grow sm) ?_⟩
  simp only [RD,RP]
  exact ⟨_,_,rfl,zn6 ok hf,.inl (.inl zc5),zS3 ys⟩
 ·exact h.elim
theorem zaG1 (x:Str) (l u:Option (Int×Tok)):(slicePicked x l u none).length≤x.length:=by
 unfold slicePicked Builtin.Str.strSliceIndices sliceRange
 simp only [List.length_map,List.length_range,Option.map_none,Option.getD_none]
 have h1:(1:Int) > 0:=by decide
 simp only [h1,if_true]
 cases l <;> cases u <;> simp only [Option.map_none,Option.map_some] <;> repeat' split <;> omega
theorem zaN2 {α β:Type} (f:α→Option β):∀ xs:List α,(xs.filterMap f).length≤xs.length
 | []=>Nat.le_refl _
 | x :: xs=>by
  rw [List.filterMap_cons]
  have:=zaN2 f xs
  cases f x with
  | none=>exact Nat.le_succ_of_le this
  | some y=>exact Nat.succ_le_succ this
def rSlS:V→Option Int→Option Int→Hp→VK→Prop:=fun x lo hi H Q=>∃ z:Str,x=.str z∧z.length≤sizeLine∧∀ y:Str,y.length≤z.length→Q (.str y) H
theorem zaD5 {v:Value} {lo:Option Int} (h:IsPart v lo):∃ l,v=partValue l:=by
 cases h with
 | none=>exact ⟨none,rfl⟩
 | int i t=>exact ⟨some (i,t),rfl⟩
theorem zbb6:SlR X rSlS:=by
 intro pins s σ H x v vl vu lo hi sl Q I rx hs pl pu h
 obtain ⟨z,rfl,hz,q⟩:=h
 obtain ⟨t,rfl⟩:=rx
 obtain ⟨l,rfl⟩:=zaD5 pl
 obtain ⟨u,rfl⟩:=zaD5 pu
 refine ⟨"str",_,PySem.F.slot_str_getitem.lookup,typeIs_str s z t,?_⟩
 refine wpAny_getItem_str_slice (l:=l) (u:=u) (st:=none) hs rfl ?_
 unfold sliceMade
 split
 ·exact ⟨.str z,H,I,⟨_,rfl⟩,q z (Nat.le_refl _)⟩
 ·have hl:(⟨((slicePicked z l u none).filterMap (z.cps[·]?)).toArray⟩:Str).length≤z.length:=by
   show ((slicePicked z l u none).filterMap (z.cps[·]?)).toArray.size≤z.length
   rw [List.size_toArray]
   exact Nat.le_trans (zaN2 _ _) (zaG1 z l u)
  exact ⟨Nat.le_trans hl hz,.str _,H,I.tok _,⟨_,rfl⟩,q _ hl⟩
@[simp] def dApp (fo g:DE):DE:=fun d m Q=>fo d m fun o m1=>∃ c,o=.cel c∧(∃ ys,m1 c=some (.l ys))∧g d m1 fun x m2=>∃ xs p,x=.dat p∧m2 c=some (.l xs)∧xs.length < sizeLine∧Q (.dat .none) (updM m2 c (.l (xs++[p])))
theorem zaX2 {apos cpos:Pos} (ho:PE X o (LE X.K f)) (he:PE X e (LE X.K g)) (hbase:attributeBase o "append" X.env (eval o X.env)=eval o X.env:=by rfl)
  (hfew:((backTo cpos (starEach [e] X.env)).all (fun x=>!x.1) && (backToKw cpos (keywordEach [] X.env)).all (fun x=>x.1.isSome) && decide ([e].length + ([]:List Keyword).length + (if ([]:List Keyword).isEmpty then 0 else 1) < 30))=true:=by rfl)
  (hline:(apos.endLine == cpos.line)=true:=by rfl) (hs:starEach [e] X.env=(false,eval e X.env) :: starEach [] X.env:=by rfl):PE X (.Call (.Attribute o "append" apos) [e] [] cpos) (LE X.K (dApp f g)) :=
 PE.imp (zaX8 (T:="list") (id:="list.append") (name:="append") PySem.F.plainAttrs_list PySem.F.slot_list_append PySem.F.type_list_append zT9 ho (zI1 he zZ3 hs) hbase hfew hline hs rfl) fun s H Q h=>by
  obtain ⟨Z,d,m,R,ok,rs,h,k⟩:=h
  refine ⟨Z,d,m,_,ok,rs,h,fun x m1 v H1 ⟨c,ex,⟨xs0,hx0⟩,q⟩ e1 ok1 rd=>?_⟩
  subst ex
  obtain ⟨rfl,hc⟩:=rd
  obtain ⟨vs0,g0,_⟩:=ok1.l hx0
  refine ⟨.inl ⟨rfl,vs0,.inl (.inl g0)⟩,Z,d,m1,_,ok1,rs.ext e1,q,fun y m2 w H2 ⟨xs,pp,ey,hm,hz,q2⟩ e2 ok2 rd2=>?_⟩
  subst ey
  obtain ⟨vs,g1,g2⟩:=ok2.l hm
  refine ⟨c,vs,w,rfl,rfl,g1,by rw [g2.length]; exact hz,?_⟩
  refine k _ _ _ _ q2 (e1.trans (e2.trans (Ext.put ok2 hm g1))) (ok2.put hm g1 (show RPs _ _ _ _ _ _ from g2.append ?_)) (by simp only [RD,RP])
  simp only [RPs]
  exact ⟨w,[],rfl,rd2,rfl⟩
@[simp] def dSlX (f:DE) (lo hi:DO):DE:=fun d m Q=>f d m fun x m1=>lo d m1 fun l m2=>hi d m2 fun u m3 =>
 (∃ xs,x=.dat (.tuple xs)∧Q (.dat (.tuple (cutP xs l u))) m3)∨(∃ xs,x=.dat (.list xs)∧Q (.dat (.list (cutP xs l u))) m3)∨(∃ z:Str,x=.dat (.str z)∧z.length≤sizeLine∧∀ y:Str,y.length≤z.length→Q (.dat (.str y)) m3)
theorem zbe2 {lo hi:Option Expr} {tl th:DO} (ha:PE X a (LE X.K f)) (hl:PO X lo (LO X.K tl)) (hu:PO X hi (LO X.K th)):PE X (.Subscript a (.Slice lo hi none p2) pos) (LE X.K (dSlX f tl th)) :=
 PE.imp (zaK0 (zba5.or (zaI8.or (zaS3.or zbb6))) ha hl hu) fun s H Q h=>by
  obtain ⟨Z,d,m,R,ok,rs,h,k⟩:=h
  refine ⟨Z,d,m,_,ok,rs,h,fun x m1 v H1 q e1 ok1 rx=>⟨Z,d,m1,_,ok1,rs.ext e1,q,fun l m2 H2 q2 e2 ok2=>⟨Z,d,m2,_,ok2,(rs.ext e1).ext e2,q2,fun u m3 H3 q3 e3 ok3=>?_⟩⟩⟩
  have e13:=e1.trans (e2.trans e3)
  have rx3:=rx.ext (e2.trans e3)
  rcases q3 with ⟨xs,rfl,q4⟩ | ⟨xs,rfl,q4⟩ | ⟨z,rfl,hz,q4⟩
  ·simp only [RD,RP] at rx3
   obtain ⟨a,vs,rfl,h1,h2⟩:=rx3
   by_cases hw:HT.sIx vs.length 0 l=0∧HT.sIx vs.length vs.length u=vs.length
   ·refine .inr (.inl ⟨a,vs,rfl,h1,hw,k _ m3 _ H3 q4 e13 ok3 ?_⟩)
    rw [h2.length] at hw
    rw [zag6 xs hw]
    simp only [RD,RP]
    exact ⟨a,vs,rfl,h1,h2⟩
   ·refine .inl ⟨a,vs,rfl,h1,hw,fun p hp=>?_⟩
    have sm:Same H3 (upd H3 p (.tup (cutV vs l u))):=zc6 hp
    refine k _ m3 _ _ q4 (e13.trans (ok3.ext sm)) (ok3.grow sm) ?_
    simp only [RD,RP]
    exact ⟨p,_,rfl,.inl (.inl zc5),RPs.ext (ok3.ext sm) _ _ h2.cut⟩
  ·simp only [RD,RP] at rx3
   obtain ⟨a,vs,rfl,h0,h1,h2⟩:=rx3
   refine .inr (.inr (.inl ⟨a,vs,rfl,h1,fun p hp=>?_⟩))
   have sm:Same H3 (upd H3 p (.lst (cutV vs l u))):=zc6 hp
   refine k _ m3 _ _ q4 (e13.trans (ok3.ext sm)) (ok3.grow sm) ?_
   simp only [RD,RP]
   exact ⟨p,_,rfl,zn6 ok3 hp,.inl (.inl zc5),RPs.ext (ok3.ext sm) _ _ h2.cut⟩
  ·cases rx3.str
   exact .inr (.inr (.inr ⟨z,rfl,hz,fun y hy=>k _ m3 _ H3 (q4 y hy) e13 ok3 .ofStr⟩))
end
end DL
namespace DL
open PySem PySem.Spec PyProof.Rows L2
def valP {κ:Type} [DecidableEq κ] (kvs:List (κ×PyData)) (k:κ):Option PyData:=(kvs.find? fun kv=>decide (kv.1=k)).map (·.2)
def putP {κ:Type} [DecidableEq κ] (kvs:List (κ×PyData)) (k:κ) (p:PyData):List (κ×PyData) :=
 if (kvs.any fun kv=>decide (kv.1=k))=true then kvs.map (fun kv=>if kv.1=k then (kv.1,p) else kv) else kvs++[(k,p)]
section
variable {κ:Type} [DecidableEq κ] {K:PySem.W.Frag} {Z:Addr→Prop} {m:Mu} {H:Hp}
theorem RKV.length:∀ {kvs:List (κ×PyData)} {vs:List (κ×V)},RKV K Z m H kvs vs→vs.length=kvs.length
 | [],_,h=>by cases (show _=[] from h); rfl
 | _ :: _,_,⟨v,r,h1,_,h3⟩=>by subst h1; rw [List.length_cons,List.length_cons,RKV.length h3]
theorem RKV.val {k:κ} {p:PyData}:∀ {kvs:List (κ×PyData)} {vs:List (κ×V)},RKV K Z m H kvs vs→valP kvs k=some p→∃ v,valV vs k=some v∧RP K Z m H p v
 | [],_,_,e=>by simp [valP] at e
 | (j,q) :: xs,_,⟨v,r,h1,h2,h3⟩,e=>by
  subst h1
  unfold valP at e
  unfold valV
  by_cases c:j=k
  ·simp [List.find?_cons,c] at e ⊢
   exact e ▸ h2
  ·simp [List.find?_cons,c] at e ⊢
   have:=RKV.val (k:=k) (p:=p) h3 (by unfold valP; simpa using e)
   unfold valV at this
   simpa using this
theorem RKV.any {k:κ}:∀ {kvs:List (κ×PyData)} {vs:List (κ×V)},RKV K Z m H kvs vs→(vs.any fun kv=>decide (kv.1=k))=(kvs.any fun kv=>decide (kv.1=k))
 | [],_,h=>by cases (show _=[] from h); rfl
 | _ :: _,_,⟨v,r,h1,_,h3⟩=>by subst h1; rw [List.any_cons,List.any_cons,RKV.any h3]
theorem RKV.repl {k:κ} {p:PyData} {v:V} (hp:RP K Z m H p v):∀ {kvs:List (κ×PyData)} {vs:List (κ×V)},RKV K Z m H kvs vs→RKV K Z m H (kvs.map fun kv=>if kv.1=k then (kv.1,p) else kv) (vs.map fun kv=>if kv.1=k then (kv.1,v) else kv)
 | [],_,h=>by cases (show _=[] from h); exact (rfl:([]:List (κ×V))=[])
 | (j,q) :: xs,_,⟨w,r,h1,h2,h3⟩=>by
  subst h1
  rw [List.map_cons,List.map_cons]
  by_cases c:j=k
  ·rw [if_pos c,if_pos c]
   exact ⟨v,_,rfl,hp,RKV.repl hp h3⟩
  ·rw [if_neg c,if_neg c]
   exact ⟨w,_,rfl,h2,RKV.repl hp h3⟩
theorem RKV.snoc {k:κ} {p:PyData} {v:V} (hp:RP K Z m H p v):∀ {kvs:List (κ×PyData)} {vs:List (κ×V)},RKV K Z m H kvs vs→RKV K Z m H (kvs++[(k,p)]) (vs++[(k,v)])
 | [],_,h=>by cases (show _=[] from h); exact ⟨v,[],rfl,hp,rfl⟩
 | _ :: _,_,⟨w,r,h1,h2,h3⟩=>by subst h1; exact ⟨w,_,rfl,h2,RKV.snoc hp h3⟩
theorem RKV.put {k:κ} {p:PyData} {v:V} {kvs:List (κ×PyData)} {vs:List (κ×V)} (h:RKV K Z m H kvs vs) (hp:RP K Z m H p v):RKV K Z m H (putP kvs k p) (putK vs k v):=by
 unfold putP putK
 rw [h.any]
 split
 ·exact h.repl hp
 ·exact h.snoc hp
end
@[simp] def keyD:D→Option Key
 | .dat (.str z)=>some (.inr z)
 | .dat (.int i)=>some (.inl i)
 | _=>none
theorem RD.key {K:PySem.W.Frag} {Z:Addr→Prop} {m:Mu} {H:Hp} {x:D} {v:V} {k:Key} (h:RD K Z m H x v) (e:keyD x=some k):v=kV k:=by
 unfold keyD at e
 split at e
 ·cases e; cases h.str; rfl
 ·cases e; cases h.int; rfl
 ·cases e
section
variable {X:Cx} {o i e:Expr} {fo fi f:DE} {pos tpos:Pos}
@[simp] def zaD3 (fo fi:DE):DE:=fun d m Q=>fo d m fun o m1=>fi d m1 fun y m2=>∃ c k kvs p,o=.cel c∧keyD y=some k∧m2 c=some (.d kvs)∧valP kvs k=some p∧Q (.dat p) m2
theorem zaQ4 (hu:X.A.units + 100 < cLine) (ho:PE X o (LE X.K fo)) (hi:PE X i (LE X.K fi)) (hs:NoSl i:=by exact fun _ _=>rfl):PE X (.Subscript o i pos) (LE X.K (zaD3 fo fi)) :=
 PE.imp (zaS7 (by omega) ho hi hs) fun s H Q h=>by
  obtain ⟨Z,d,m,R,ok,rs,h,k⟩:=h
  refine ⟨Z,d,m,_,ok,rs,h,fun o m1 v H1 q e1 ok1 r1=>⟨Z,d,m1,_,ok1,rs.ext e1,q,fun y m2 w H2 q2 e2 ok2 r2=>?_⟩⟩
  obtain ⟨c,ky,kvs,p,rfl,hk,hm,hv,q⟩:=q2
  cases r2.key hk
  obtain ⟨rfl,_⟩:=r1.ext e2
  obtain ⟨vs,g1,g2⟩:=ok2.d hm
  obtain ⟨v,hv',rv⟩:=g2.val hv
  exact ⟨c,v,rfl,.inl ⟨vs,ky,.inl g1,rfl,hv'.symm⟩,k _ m2 _ H2 q (e1.trans e2) ok2 rv⟩
end
end DL
namespace DL
open PySem PySem.Spec PyProof.Rows L2
open AutoSeq1 (wpAny_loadPart')
section
variable {prog:Program} {w:World} {A:Around} {E:Value→Shared→Prop} {s:Shared}
end
section
variable {X:Cx} {e:Expr} {f:DE} {pos p p2 pos2:Pos}
end
end DL
namespace DL
open PySem PySem.Spec PyProof.Rows L2
def KEnt (w:World):List DictEntry→List (Str×V)→Prop
 | [],[]=>True
 | e :: es,(z,v) :: kvs=>e.hash=PyData.keyHash w.params z∧(∃ t,e.key=.str z t)∧RelV v e.val∧KEnt w es kvs
 | _,_=>False
def KDt (K:PySem.W.Frag) (w:World) (a:Addr) (kvs:List (Str×V)):Prop :=
 ∃ (o:Obj) (es:Array DictEntry) (ep:Nat),K.lookup a=some o∧o.cls=.type "dict"∧o.dict=none∧o.slots=#[]∧o.data=.dict es ep∧KEnt w es.toList kvs∧(kvs.map (·.1)).Nodup∧(a == sysModules)=false
def KD (K:PySem.W.Frag) (w:World) (a:Addr) (kvs:List (Str×PyData)):Prop:=∃ vs:List (Str×V),KDt K w a vs∧∀ (Z:Addr→Prop) (m:Mu) (H:Hp),RKV K Z m H kvs vs
def inrs {α:Type} (kvs:List (Str×α)):List (Key×α):=kvs.map fun kv=>(.inr kv.1,kv.2)
theorem KEnt.out {P:Program} {w:World}:∀ {es:List DictEntry} {kvs:List (Str×V)},KEnt w es kvs→∃ vs:List (Str×Value),KV (inrs kvs) (inrs vs)∧Pairs (zd2 P w) es (inrs vs)∧(∀ e∈es,∃ k,(zd2 P w).is k e.key=true∧e.hash=(zd2 P w).hash k)∧vs.map (·.1)=kvs.map (·.1)
 | [],[],_=>⟨[],.nil,.nil,by simp,rfl⟩
 | e :: es,(z,v) :: kvs,⟨h1,⟨t,h2⟩,h3,h4⟩=>by
  obtain ⟨vs,q1,q2,q3,q4⟩:=KEnt.out (P:=P) h4
  have hk:(zd2 P w).is (.inr z) e.key=true:=by
   rw [h2]
   exact decide_eq_true (rfl:z=z)
  refine ⟨(z,e.val) :: vs,.cons ⟨rfl,h3⟩ q1,.cons hk rfl q2,fun x hx=>?_,by simp [q4]⟩
  rcases List.mem_cons.mp hx with rfl | hx
  ·exact ⟨_,hk,h1⟩
  ·exact q3 x hx
 | [],_ :: _,h=>h.elim
 | _ :: _,[],h=>h.elim
theorem KDt.dictOf {K:PySem.W.Frag} {P:Program} {w:World} {a:Addr} {kvs:List (Str×V)} {h:Heap} (q:KDt K w a kvs) (hK:K.In h):∃ vs:List (Key×Value),KV (inrs kvs) vs∧h.DictOf (zd2 P w) a vs:=by
 obtain ⟨o,es,ep,h1,h2,h3,h4,h5,h6,h7,_⟩:=q
 obtain ⟨vs,q1,q2,q3,q4⟩:=KEnt.out (P:=P) h6
 refine ⟨_,q1,o,es,ep,hK _ _ h1,⟨h2,h3,h4⟩,h5,fun e he=>q3 e (by simpa using he),q2,?_⟩
 have e:(inrs vs).map (·.1)=(kvs.map (·.1)).map Sum.inr:=by
  rw [← q4]
  simp [inrs,Function.comp_def]
 rw [e]
 exact List.Pairwise.map _ (fun a b hab h=>hab (Sum.inr.inj h)) h7
theorem zah2 {z:Str}:∀ kvs:List (Str×V),valV (inrs kvs) (.inr z)=valV kvs z
 | []=>rfl
 | (y,v) :: kvs=>by
  have ih:=zah2 (z:=z) kvs
  unfold valV inrs at *
  by_cases c:y=z
  ·simp [List.find?_cons,c]
  ·simp only [List.map_cons,List.find?_cons,c,decide_false,Sum.inr.injEq]
   exact ih
theorem RKV.val_none {κ:Type} [DecidableEq κ] {K:PySem.W.Frag} {Z:Addr→Prop} {m:Mu} {H:Hp} {k:κ}:∀ {kvs:List (κ×PyData)} {vs:List (κ×V)},RKV K Z m H kvs vs→valP kvs k=none→valV vs k=none
 | [],_,h,_=>by cases (show _=[] from h); rfl
 | (j,q) :: xs,_,⟨v,r,h1,h2,h3⟩,e=>by
  subst h1
  unfold valP at e
  unfold valV
  by_cases c:j=k
  ·simp [List.find?_cons,c] at e
  ·simp [List.find?_cons,c] at e ⊢
   have:=RKV.val_none (k:=k) h3 (by unfold valP; simpa using e)
   unfold valV at this
   simpa using this
theorem zp2 {K:PySem.W.Frag} {Z:Addr→Prop} {m:Mu} {H:Hp} {a:Addr} {is:List Int} (h:SqT K H a (is.map V.int)):RP K Z m H (.tuple (is.map PyData.int)) (.ref a):=by
 simp only [RP]
 exact ⟨a,_,rfl,h,zae1 is⟩
section
variable {X:Cx} {i e g:Expr} {fi f fg:DE} {p pos apos cpos:Pos}
@[simp] def zat2 (kvs:List (Str×PyData)) (fi:DE):DE:=fun d m Q=>fi d m fun y m1=>∃ (z:Str) (q:PyData),y=.dat (.str z)∧valP kvs z=some q∧Q (.dat q) m1
theorem zaK4 {x:Str} {c:Addr} {kvs:List (Str×PyData)} (hg:Gl X x) (hm:X.mg x=some (.ref c)) (hk:KD X.K X.w c kvs) (hi:PE X i (LE X.K fi)) (hd:(x == ("__debug__" : Str))=false:=by decide) (hs:NoSl i:=by exact fun _ _=>rfl) :
  PE X (.Subscript (.Name x p) i pos) (LE X.K (zat2 kvs fi)):=by
 intro pins s σ H Q I h
 obtain ⟨Z,d,m,R,ok,rs,h,k⟩:=h
 obtain ⟨vs,kd,rk⟩:=hk
 refine zam5 PySem.F.slot_dict_getitem.lookup hs (thn (zan2 (v:=.ref c) hg hm rfl hd pins s σ H (fun x H1=>x=.ref c∧H1=H) I ⟨rfl,rfl⟩) fun u s1 ⟨x,H1,I1,rx,ex,eH⟩=>?_)
 subst ex; subst eH
 obtain rfl:u=Value.ref c:=rx
 refine thn (hi pins s1 σ _ (fun v H2=>∃ (z:Str) (w:V),v=.str z∧valV vs z=some w∧Q w H2) I1 ⟨Z,d,m,_,ok,rs,h,fun y m1 v H1 ⟨z,q,ey,hv,hq⟩ e1 ok1 r1=>?_⟩) fun iv s2 ⟨y,H2,I2,ry,z,w,ey,hw,q2⟩=>?_
 ·subst ey
  cases r1.str
  obtain ⟨w,hw,rw'⟩:=(rk Z m1 H1).val hv
  exact ⟨z,w,rfl,hw,k _ m1 _ H1 hq e1 ok1 rw'⟩
 ·subst ey
  obtain ⟨ws,rel,dd⟩:=kd.dictOf (P:=X.prog) I2.kIn
  obtain ⟨w',hw',rw'⟩:=RelO.some_of (v:=w) (o:=valueAt ws (.inr z)) (by rw [← hw,← zah2]; exact rel.val _)
  exact ⟨dd.typeIs,wpAny_getItem_of (zap0 (k:=.inr z) ry) dd.mapOf hw' ⟨w,H2,I2.tok _,rw',q2⟩⟩
end
end DL
namespace DL
open PySem PySem.Spec PyProof.Rows L2
section
variable {X:Cx} {e g:Expr} {f fg:DE} {tg:Expr} {pos:Pos}
end
end DL
namespace DL
open PySem PySem.Spec PyProof.Rows L2
theorem zaS5:typeLookup (.type "tuple") "keys"=pure none:=by rw [typeLookup_type,builtinLookup_eq_fast]; kernel_rfl
theorem zS6:plainId "dict.update.loop"=true:=by decide +kernel
theorem zar9:entryFor table "dict.update.loop"=some Builtin.«dict.update.loop»:=entryFor_of_fast (by kernel_rfl)
section
variable {prog:Program} {w:World} {A:Around} {E:Value→Shared→Prop} {s:Shared}
theorem zaE3 {a:Addr} {o:Obj} {xs:Array Value} {k:Nat} {Q:Option Value→Shared→Prop}
  (hx:s.heap.get? a=some o) (hc:o.cls=.type "tuple") (hdat:o.data=.seq xs k) (hd:o.dict=none) (hA:A.handled=none)
  (h:∀ h' tk,(∀ b ob,s.heap.get? b=some ob→h'.get? b=some ob)→Q none { s with heap:=h',toks:=tk }) :
  wpAny (model prog w) A (getAttr? (.ref a) "keys") Q E s:=by
 obtain ⟨c,dct,dat,sl⟩:=o
 simp only at hc hdat hd
 subst hc hdat hd
 obtain ⟨hp,g,d,tk,os⟩:=s
 have hT:∀ tk',(⟨hp,g,d,tk',os⟩:Shared).TypeIs (.ref a) "tuple":=fun _=>⟨_,hx,rfl⟩
 have f1:=sub_AttributeError
 have f3:=F.slot_tuple_getattribute.lookup
 have f4:=F.slot_tuple_getattribute.bind (.ref a)
 have f5:=am_tuple_getattr_none
 have hsz:(Str.ofString "keys").length + 100≤sizeLine:=by rw [sizeLine_eq]; decide
 have hname:(["__module__","__name__","__qualname__","__doc__","__annotations__"]:List Str).contains (Str.ofString "keys")=false:=by decide
 unfold getAttr? getAttrBy? getAttrBy
 repeat (any_goals (first | assumption | exact hT _ | ((with_reducible show wpAny _ _ (call (Value.builtin "tuple.__getattribute__") _ _) _ _ _); refine call_meets F.slot_tuple_getattribute (hT _) am_entry_tuple_getattribute (F.args_tuple_getattribute_2 _ _) (meets_getattribute_miss_tuple a xs k sl (Str.ofString "keys") _ zaS5 hname hsz) ⟨hx,hA,fun h' tk' e hx'=>?_⟩) | wp_step))
 obtain ⟨t',u',he⟩:=hx'.there
 show wpAny _ _ (getattributeRaised _ _ _ _ _ _ _) _ _ _
 unfold getattributeRaised
 repeat (any_goals (first | assumption | wp_step))
 exact h h' tk' hx'.keeps
end
section
variable {prog:Program} {w:World} {κ:Type} [DecidableEq κ] {knd:KeyKind prog w κ} {A:Around} {E:Value→Shared→Prop} {s:Shared}
def zac2 (knd:KeyKind prog w κ) (h:Heap):List Value→List (κ×Value)→Prop
 | [],[]=>True
 | x :: xs,(k,v) :: r=>(∃ b key,x=.ref b∧h.IsTuple b #[key,v]∧knd.is k key=true)∧zac2 knd h xs r
 | _,_=>False
def zas5 (acc:List (κ×Value)) (r:List (κ×Value)):List (κ×Value):=r.foldl (fun acc kv=>stored acc kv.1 kv.2) acc
theorem zav7 (acc:List (κ×Value)) (k:κ) (v:Value):(stored acc k v).length≤acc.length + 1:=by
 unfold stored
 split
 ·simp
 ·simp
theorem zaj0 {R:Result→Shared→Prop} {hb:Heap} {d it tq:Addr} {items:Array Value} (hh:A.handled=none) (hd:hb.get? d=none) (hi:hb.get? it=none) (hne:d≠it) (ht:hb.IsTuple tq items) :
  ∀ (rest:List (κ×Value)) (i:Nat) (s:Shared) (acc:List (κ×Value)) (tk0:Tok),(∀ b o,hb.get? b=some o→s.heap.get? b=some o)→s.heap.IsTupleIter it tq i→s.heap.DictOf knd d acc→zac2 knd hb (items.toList.drop i) rest→acc.length + rest.length≤sizeLine →
  (∀ h' tk,(∀ b o,hb.get? b=some o→h'.get? b=some o)→h'.DictOf knd d (zas5 acc rest)→R (.ok (.ret .none)) { s with heap:=h',toks:=tk }) →
  codeAny (model prog w) A (.builtin "dict.update.loop" ⟨[.ref d,.ref it,.int i tk0,.none],[]⟩) R s
 | [],i,s,acc,tk0,keeps,hit,hdo,hp,hsz,hR=>by
  have hx:items[i]?=none:=by
   cases e:items.toList.drop i with
   | nil =>
    have:=List.drop_eq_nil_iff.mp e
    rw [Array.getElem?_eq_none_iff]
    simpa using this
   | cons x xs=>rw [e] at hp; exact hp.elim
  have ht':s.heap.IsTuple tq items:=by
   obtain ⟨o,ho,r⟩:=ht
   exact ⟨o,keeps _ _ ho,r⟩
  refine codeAny_builtin zar9 ?_
  rw [Around.under_plainId zS6 _]
  show wpAny _ A.in1 (pyNext (.ref it)>>=_) _ _ s
  refine wpAny_bind (wpAny_pyNext_tuple_end hh hit ht' hx fun h' hs=>?_)
  show wpAny _ A.in1 (Builtin.Dict.addKeywords d []>>=_) _ _ _
  refine wpAny_bind (wpAny_pure (wpAny_pure ?_))
  refine hR h' s.toks (fun b o e=>hs b o (fun q=>by rw [q,hi] at e; cases e) (keeps b o e)) (hdo.extBut hs hne)
 | (k,v) :: rest,i,s,acc,tk0,keeps,hit,hdo,hp,hsz,hR=>by
  cases e:items.toList.drop i with
  | nil=>rw [e] at hp; exact hp.elim
  | cons x xs =>
   rw [e] at hp
   obtain ⟨⟨b,key,rfl,hb2,hk⟩,hp2⟩:=hp
   have hx:items[i]?=some (.ref b):=by
    have:=congrArg List.head? e
    rw [List.head?_drop] at this
    simpa using this
   have e2:items.toList.drop (i + 1)=xs:=by
    have:=congrArg List.tail e
    rw [List.tail_drop] at this
    simpa using this
   have ht':s.heap.IsTuple tq items:=by
    obtain ⟨o,ho,r⟩:=ht
    exact ⟨o,keeps _ _ ho,r⟩
   refine codeAny_builtin zar9 ?_
   rw [Around.under_plainId zS6 _]
   show wpAny _ A.in1 (pyNext (.ref it)>>=_) _ _ s
   refine wpAny_bind (wpAny_pyNext_tuple_item hit ht' hx fun h1 hit1 hs1=>?_)
   have k1:∀ b o,hb.get? b=some o→h1.get? b=some o:=fun b o e=>hs1.extBut b o (fun q=>by rw [q,hi] at e; cases e) (keeps b o e)
   have ht1:({ s with heap:=h1 }:Shared).heap.IsTuple b #[key,v]:=by
    obtain ⟨o,ho,r⟩:=hb2
    exact ⟨o,k1 _ _ ho,r⟩
   have hdo1:({ s with heap:=h1 }:Shared).heap.DictOf knd d acc:=hdo.sameBut hs1 hne
   obtain ⟨o,ho,hoc,no,hod⟩:=id ht1
   refine wpAny_bind (wpAny_holding (wpAny_bind (wpAny_tryCatch ?_)))
   unfold Builtin.Dict.pairItems
   refine wpAny_bind (wpAny_typeOf ht1.typeIs ?_)
   rw [if_pos (by decide)]
   refine wpAny_bind (wpAny_seqItems ho hod (wpAny_pure ?_))
   show wpAny _ A.in1 (holding [key,v] (dictSet d key v)) _ _ _
   refine wpAny_holding (wpAny_dictSet_pairs (hsz:=by simp at hsz; omega) hk hdo1 fun h2 hdo2 hs2=>?_)
   refine wpAny_pure ⟨plainId_quiet zS6 _,?_⟩
   have ih:=zaj0 (R:=R) hh hd hi hne ht rest (i + 1) { s with heap:=h2,toks:=s.toks + 1 } (stored acc k v) 0
    (fun b o e=>hs2.extBut b o (fun q=>by rw [q,hd] at e; cases e) (k1 b o e)) (hit1.extBut hs2.extBut (Ne.symm hne)) hdo2 (by rw [e2]; exact hp2)
    (by have:=zav7 acc k v; simp at hsz; omega) (fun h' tk q1 q2=>hR h' tk q1 q2)
   exact ih
theorem zW3 {Q:Value→Shared→Prop} {tq:Addr} {o:Obj} {items:Array Value} {n:Nat} {kvs:List (κ×Value)} (hh:A.handled=none) (ho:s.heap.get? tq=some o) (hc:o.cls=.type "tuple") (hdn:o.dict=none) (hdat:o.data=.seq items n)
  (hp:zac2 knd s.heap items.toList kvs) (hsz:kvs.length≤sizeLine)
  (hQ:∀ h' tk,(∀ b o,s.heap.get? b=some o→h'.get? b=some o)→h'.DictOf knd s.heap.objs.size (zas5 [] kvs)→Q (.ref s.heap.objs.size) { s with heap:=h',toks:=tk }) :
  wpAny (model prog w) A (call (.type "dict") [.ref tq]) Q E s:=by
 refine callType_codes (Q₁:=fun obj s₁=>obj=.ref s.heap.objs.size∧s₁={ s with heap:=s.heap.push { cls:=.type "dict",data:=.dict #[] } }) F.kt_called_dict (F.kt_typeCall_dict_1 _) F.entry_dict_init (kt_code_dict_new _ ⟨rfl,rfl⟩) ?_
 rintro obj s₁ ⟨rfl,rfl⟩
 have hnew:(s.heap.push { cls:=.type "dict",data:=.dict #[] }).DictOf knd s.heap.objs.size []:=Heap.DictOf.new s.heap
 refine ⟨hnew.typeIs,F.args_dict_init_2 _ _,?_⟩
 unfold Builtin.«dict.__init__»
 refine wpAny_bind ?_
 unfold Builtin.Dict.selfAndRest
 refine wpAny_bind (wpAny_notOrdered_dict hnew.typeIs ?_)
 show wpAny _ _ (pure (s.heap.objs.size,[Value.ref tq])) _ _ _
 refine wpAny_pure ?_
 show wpAny _ _ (Builtin.Dict.updateFrom "dict.__init__" s.heap.objs.size (.ref tq) [] .none) _ _ _
 unfold Builtin.Dict.updateFrom
 have ho1:(s.heap.push { cls:=.type "dict",data:=.dict #[] }).get? tq=some o:=Heap.get?_push_of_some _ ho
 refine wpAny_bind (wpAny_typeOf (T:="tuple") ⟨_,ho1,hc⟩ ?_)
 rw [if_pos (by decide)]
 refine wpAny_bind (zaE3 ho1 hc hdat hdn hh fun h1 tk1 k1=>?_)
 rw [if_pos (show (none:Option Value).isNone=true from rfl)]
 have g0:s.heap.get? s.heap.objs.size=none:=by
  cases e:s.heap.get? s.heap.objs.size with
  | none=>rfl
  | some ob=>exact absurd (Heap.lt_size e) (Nat.lt_irrefl _)
 have g1:s.heap.get? h1.objs.size=none:=by
  cases e:s.heap.get? h1.objs.size with
  | none=>rfl
  | some ob=>exact absurd (Heap.lt_size (k1 _ _ (Heap.get?_push_of_some _ e))) (Nat.lt_irrefl _)
 have hd1:h1.DictOf knd s.heap.objs.size []:=by
  obtain ⟨ob,es,ep,q,r⟩:=hnew
  exact ⟨ob,es,ep,k1 _ _ q,r⟩
 have hne:s.heap.objs.size≠h1.objs.size:=by
  obtain ⟨ob,es,ep,q,r⟩:=hd1
  exact Nat.ne_of_lt (Heap.lt_size q)
 have ht:s.heap.IsTuple tq items:=⟨o,ho,hc,n,hdat⟩
 refine wpAny_bind (wpAny_rule (wpAny_bind (wpAny_pyIter_tuple (t:=tq) (items:=items) ⟨o,k1 _ _ ho1,hc,n,hdat⟩ ?_)))
 refine wpAny_pure ⟨plainId_quiet zS6 _,?_⟩
 refine zaj0 (A:=A.in1) (knd:=knd) (hb:=s.heap) (show A.in1.handled=none from hh) g0 g1 hne ht kvs 0 { s with heap:=h1.push { cls:=.type "tuple_iterator",data:=.fields #[.ref tq,.int 0 0] },toks:=tk1 } [] 0 (fun b ob e=>Heap.get?_push_of_some _ (k1 _ _ (Heap.get?_push_of_some _ e))) ⟨_,Heap.get?_push_size _ rfl,rfl,rfl⟩ (hd1.push _) (by simpa using hp) (by simpa using hsz) fun h' tk q1 q2=>?_
 exact ⟨rfl,hQ h' tk q1 q2⟩
end
end DL
namespace DL
open PySem PySem.Spec PyProof.Rows L2
@[simp] def zak4:List D→Option (List Key)
 | []=>some []
 | x :: xs=>match keyD x,zak4 xs with
  | some k,some ks=>some (k :: ks)
  | _,_=>none
theorem RDs.keys {K:PySem.W.Frag} {Z:Addr→Prop} {m:Mu} {H:Hp}:∀ {xs:List D} {vs:List V} {ks:List Key},RDs K Z m H xs vs→zak4 xs=some ks→vs=ks.map kV
 | [],vs,ks,h,e=>by
  cases e
  exact h
 | x :: xs,vs,ks,h,e=>by
  obtain ⟨v,r,rfl,h1,h2⟩:=h
  unfold zak4 at e
  cases e1:keyD x with
  | none=>rw [e1] at e; cases e
  | some k =>
   cases e2:zak4 xs with
   | none=>rw [e1,e2] at e; cases e
   | some ks' =>
    rw [e1,e2] at e
    cases e
    rw [h1.key e1,RDs.keys h2 e2]
    rfl
section
variable {X:Cx} {o i e:Expr} {es:List Expr} {fo f:DE} {fa:DA} {pos tpos ipos:Pos} {j:Nat}
@[simp] def zaW2:DE:=fun _ m Q=>∀ a,m a=none→Q (.cel a) (updM m a (.t []))
theorem zaR3:PE X (.Dict [] [] pos) (LE X.K zaW2):=by
 intro pins s σ H Q I h
 obtain ⟨Z,d,m,R,ok,rs,h,k⟩:=h
 have hp:H s.heap.objs.size=none:=I.hok.fresh (Nat.le_refl _)
 have hk:X.K.lookup s.heap.objs.size=none:=by
  cases e:X.K.lookup s.heap.objs.size with
  | none=>rfl
  | some o=>exact absurd (Heap.lt_size (I.kIn _ o e)) (Nat.lt_irrefl _)
 refine wpAny_Dict_empty ⟨.ref s.heap.objs.size,_,I.laid (a:=s.heap.objs.size) (o:=.dT []) (t':=s.toks) (fun _ _ q=>Heap.get?_push_of_some _ q) (Nat.le_refl _) (zaF9 s.heap I.big),rfl,?_⟩
 exact k _ _ _ _ (h _ (zn6 ok hp).1) (Ext.cell ok hp hk) (ok.cell hp hk (show RKV _ _ _ _ _ _ from rfl)) ⟨rfl,by rw [zb1]; rfl⟩
@[simp] def zaR7 (fo:DE) (fa:DA) (f:DE):DS:=fun E d m=>f d m fun x m1=>fo d m1 fun o m2=>fa d m2 fun ys m3=>∃ c ks kvs p,o=.cel c∧zak4 ys=some ks∧x=.dat p∧m3 c=some (.t kvs)∧kvs.length < sizeLine∧ks.length≤sizeLine∧E.nx d (updM m3 c (.t (putP kvs ks p)))
theorem zaP5 (hu:X.A.units + 100 < cLine) (he:PE X e (LE X.K f)) (ho:PE X o (LE X.K fo)) (ha:PA X es (LA X.K fa)) (hs:swapsWith e (some (.Subscript o (.Tuple es j ipos) tpos)) pos.line X.env=pure false:=by rfl) :
  PS X (.Assign [.Subscript o (.Tuple es j ipos) tpos] e pos) (LS X.K (zaR7 fo fa f)):=PS.imp (zaS6 (by omega) ho (zaN3 ha) he hs) fun E s H h=>by
 obtain ⟨Z,d,m,R,ok,rs,h,k,_⟩:=h
 refine ⟨Z,d,m,_,ok,rs,h,fun x m1 v H1 q e1 ok1 r1=>⟨Z,d,m1,_,ok1,rs.ext e1,q,fun o m2 w H2 q2 e2 ok2 r2=>⟨Z,d,m2,_,ok2,(rs.ext e1).ext e2,q2,fun ys m3 zs H3 q3 e3 ok3 r3=>?_⟩⟩⟩
 obtain ⟨c,ks,kvs,p,rfl,hk,rfl,hm,hl,hz,q⟩:=q3
 cases r3.keys hk
 refine ⟨by simpa using hz,fun b hb=>?_⟩
 have sm:Same H3 (upd H3 b (.tup (ks.map kV))):=zc6 hb
 have e4:=ok3.ext sm
 have ok4:=ok3.grow sm
 obtain ⟨rfl,_⟩:=r2.ext e3
 obtain ⟨vs,g1,g2⟩:=ok4.t hm
 have r1':=r1.ext (e2.trans (e3.trans e4))
 refine ⟨c,_,rfl,.inr ⟨vs,ks,b,g1,rfl,zc5,by rw [g2.length]; exact hl,rfl⟩,?_⟩
 have e5:Ext X.K Z m3 (upd H3 b (.tup (ks.map kV))) (updM m3 c (.t (putP kvs ks p))) (upd (upd H3 b (.tup (ks.map kV))) c (.dT (putK vs ks v))):=Ext.put ok4 hm g1
 exact k d _ s _ q (e1.trans (e2.trans (e3.trans (e4.trans e5)))) (ok4.put hm g1 (show RKV _ _ _ _ _ _ from g2.put r1')) ((rs.ext e1).ext (e2.trans (e3.trans (e4.trans e5))))
end
end DL
namespace DL
open PySem PySem.Spec PyProof.Rows L2
def keyP:Key→PyData
 | .inl i=>.int i
 | .inr z=>.str z
theorem Inv.noD {X:Cx} {pins:List (Addr×Obj)} {σ:L2.St} {H:Hp} {s:Shared} {a:Addr} {xs:List V} (I:Inv X pins σ H s) (h:SqT X.K H a xs):NoD s.heap a:=by
 rcases h with h | ⟨o,its,n,hk,hc,hs,hz,r⟩
 ·obtain ⟨z,its,r,p⟩:=h.ok I.hok
  exact z.2
 ·exact ⟨o,I.kIn a o hk,hc.2⟩
theorem zat5 {X:Cx} {pins:List (Addr×Obj)} {σ:L2.St} {H:Hp} {s:Shared} {Z:Addr→Prop} {m:Mu} (I:Inv X pins σ H s):∀ {kvs:List (Key×PyData)} {vs:List V} {us:List Value},RPs X.K Z m H (kvs.map fun kv=>PyData.tuple [keyP kv.1,kv.2]) vs→Vals vs us →
  ∃ ws:List (Key×V),∃ xs:List (Key×Value),RKV X.K Z m H kvs ws∧KV ws xs∧zac2 (zd2 X.prog X.w) s.heap us xs∧xs.length=kvs.length
 | [],vs,us,h,r=>by
  simp only [List.map_nil,RPs] at h
  subst h
  cases r
  exact ⟨[],[],rfl,.nil,trivial,rfl⟩
 | (k,p) :: kvs,vs,us,h,r=>by
  simp only [List.map_cons,RPs] at h
  obtain ⟨v,vs',rfl,h1,h2⟩:=h
  cases r with
  | cons r1 r2 =>
   obtain ⟨ws,xs,q1,q2,q3,q4⟩:=zat5 I h2 r2
   simp only [RP] at h1
   obtain ⟨a,ps,rfl,hs,hp⟩:=h1
   obtain ⟨its,rv,it,_⟩:=I.tuple hs
   simp only [RPs] at hp
   obtain ⟨v1,r',rfl,g1,v2,r'',rfl,g2,rfl⟩:=hp
   cases rv with
   | cons w1 rv =>
    cases rv with
    | cons w2 rv =>
     cases rv
     have ev:v1=kV k:=by
      cases k with
      | inl i =>
       simp only [keyP,RP] at g1
       exact g1
      | inr z =>
       simp only [keyP,RP] at g1
       exact g1
     subst ev
     refine ⟨(k,v2) :: ws,(k,_) :: xs,⟨_,_,rfl,g2,q1⟩,.cons ⟨rfl,w2⟩ q2,⟨⟨a,_,r1,it,zap0 w1⟩,q3⟩,by simp [q4]⟩
def zw6 (acc:List (Key×PyData)) (r:List (Key×PyData)):List (Key×PyData):=r.foldl (fun acc kv=>putP acc kv.1 kv.2) acc
def zau9 (acc:List (Key×V)) (r:List (Key×V)):List (Key×V):=r.foldl (fun acc kv=>putK acc kv.1 kv.2) acc
theorem RKV.puts {K:PySem.W.Frag} {Z:Addr→Prop} {m:Mu} {H:Hp}:∀ {r:List (Key×PyData)} {ws:List (Key×V)} {acc:List (Key×PyData)} {aw:List (Key×V)},RKV K Z m H acc aw→RKV K Z m H r ws→RKV K Z m H (zw6 acc r) (zau9 aw ws)
 | [],ws,acc,aw,ha,hr=>by
  cases (show ws=[] from hr)
  exact ha
 | (k,p) :: r,vs,acc,aw,ha,h=>by
  obtain ⟨v,ws,rfl,h1,h2⟩:=h
  exact RKV.puts (r:=r) (ws:=ws) (acc:=putP acc k p) (aw:=putK aw k v) (ha.put h1) h2
theorem KV.puts {ws:List (Key×V)} {xs:List (Key×Value)} (t:KV ws xs):∀ {aw:List (Key×V)} {ax:List (Key×Value)},KV aw ax→KV (zau9 aw ws) (zas5 ax xs):=by
 unfold KV at t
 induction t with
 | nil=>exact fun ha=>ha
 | @cons p q ps qs h t ih =>
  intro aw ax ha
  obtain ⟨e,h⟩:=h
  have:=ih (KV.put ha p.1 h)
  show KV (zau9 (putK aw p.1 p.2) ps) (zas5 (stored ax q.1 q.2) qs)
  rw [← e]
  exact this
theorem zK1:∀ (r acc:List (Key×PyData)),(zw6 acc r).length≤acc.length + r.length
 | [],acc=>by simp [zw6]
 | kv :: r,acc=>by
  have:=zK1 r (putP acc kv.1 kv.2)
  have h2:(putP acc kv.1 kv.2).length≤acc.length + 1:=by
   unfold putP
   split
   ·rw [List.length_map]; omega
   ·simp
  unfold zw6 at *
  simp only [List.foldl_cons,List.length_cons]
  omega
section
variable {X:Cx} {e:Expr} {f:DE} {pos p:Pos}
@[simp] def zar8 (f:DE):DE:=fun d m Q=>f d m fun x m1=>∃ kvs:List (Key×PyData),x=.dat (.tuple (kvs.map fun kv=>.tuple [keyP kv.1,kv.2]))∧kvs.length≤sizeLine∧∀ a,m1 a=none→Q (.cel a) (updM m1 a (.d (zw6 [] kvs)))
theorem zaJ2 (hc:X.calm=true) (hg:Gl X "dict") (hm:X.mg "dict"=none) (he:PE X e (LE X.K f)) (hs:starEach [e] X.env=[(false,eval e X.env)]:=by rfl):PE X (.Call (.Name "dict" p) [e] [] pos) (LE X.K (zar8 f)):=by
 intro pins s σ H Q I h
 obtain ⟨Z,d,m,R,ok,rs,h,k⟩:=h
 have hA:=zI1 (X:=X) he zZ3 (by rw [hs]; rfl) pos pins s σ H (fun vs H1=>∃ (v:V) (kvs:List (Key×PyData)) (m1:Mu),vs=[v]∧RD X.K Z m1 H1 (.dat (.tuple (kvs.map fun kv=>.tuple [keyP kv.1,kv.2]))) v∧kvs.length≤sizeLine∧(∀ a,m1 a=none→R (.cel a) (updM m1 a (.d (zw6 [] kvs))))∧Ext X.K Z m H m1 H1∧Ok X.K Z m1 H1) I ⟨Z,d,m,_,ok,rs,h,fun x m1 v H1 ⟨kvs,ex,hn,q⟩ e1 ok1 rd=>by
  subst ex
  exact ⟨v,kvs,m1,rfl,rd,hn,q,e1,ok1⟩⟩
 refine Call_ (zP2 I hg hm boot_dict (PyProof.Rows.callWith_type1 (thn hA fun us s1 ⟨vs,H1,I1,r1,q1⟩=>?_) hs rfl))
 obtain ⟨v,kvs,m1,ev,rd,hn,q,e1,ok1⟩:=q1
 subst ev
 simp only [RD,RP] at rd
 obtain ⟨a,ps,rfl,hsq,hp⟩:=rd
 obtain ⟨u,rfl,hu⟩:=zS0 r1
 cases (show u=Value.ref a from hu)
 obtain ⟨its,rv,⟨o,ho,hoc,n,hod⟩,_⟩:=I1.tuple hsq
 obtain ⟨o',ho',hdn⟩:=Inv.noD I1 hsq
 rw [ho] at ho'
 cases ho'
 obtain ⟨ws,xs,q1,q2,q3,q4⟩:=zat5 (Z:=Z) (m:=m1) I1 hp rv
 have hp0:H1 s1.heap.objs.size=none:=I1.hok.fresh (Nat.le_refl _)
 have hk0:X.K.lookup s1.heap.objs.size=none:=by
  cases e:X.K.lookup s1.heap.objs.size with
  | none=>rfl
  | some o=>exact absurd (Heap.lt_size (I1.kIn _ o e)) (Nat.lt_irrefl _)
 refine zW3 (knd:=zd2 X.prog X.w) (I1.ok.hd hc) ho hoc hdn hod (by simpa using q3) (by rw [q4]; exact hn) fun h' tk kp dd=>?_
 have rk:RKV X.K Z m1 H1 (zw6 [] kvs) (zau9 [] ws):=RKV.puts (show RKV _ _ _ _ _ _ from rfl) q1
 have ob:ObjOk X.prog X.w (upd H1 s1.heap.objs.size (.dK (zau9 [] ws))) h' s1.heap.objs.size (.dK (zau9 [] ws)):=by
  refine ⟨?_,beq_eq_false_iff_ne.mpr (Ne.symm (Nat.ne_of_lt I1.big)),_,KV.puts q2 .nil,dd⟩
  rw [rk.length]
  exact Nat.le_trans (zK1 kvs []) (by simpa using hn)
 exact ⟨.ref s1.heap.objs.size,_,I1.laid (t':=tk) kp (Nat.le_refl _) ob,rfl,k _ _ _ _ (q _ (zn6 ok1 hp0).1) (e1.trans (Ext.cell ok1 hp0 hk0)) (ok1.cell hp0 hk0 (show RKV _ _ _ _ _ _ from rk)) ⟨rfl,by rw [zb1]; rfl⟩⟩
end
end DL
namespace DL
open PySem PySem.Spec PyProof.Rows L2
def KTEnt (K:PySem.W.Frag) (w:World):List DictEntry→List (List Str×Addr×V)→Prop
 | [],[]=>True
 | e :: es,(zs,a,v) :: xs=>e.hash=reduceHash (Builtin.Tuple.tupleHashOf (zs.map (PyData.keyHash w.params)))∧e.key=.ref a∧RelV v e.val∧KT K a zs∧KTEnt K w es xs
 | _,_=>False
def KTDt (K:PySem.W.Frag) (w:World) (c:Addr) (xs:List (List Str×Addr×V)):Prop :=
 ∃ (o:Obj) (es:Array DictEntry) (ep:Nat),K.lookup c=some o∧o.cls=.type "dict"∧o.dict=none∧o.slots=#[]∧o.data=.dict es ep∧KTEnt K w es.toList xs∧(xs.map (·.1)).Nodup∧(c == sysModules)=false
def KTD (K:PySem.W.Frag) (w:World) (c:Addr) (kvs:List (List Str×PyData)):Prop:=∃ xs:List (List Str×Addr×V),KTDt K w c xs∧∀ (Z:Addr→Prop) (m:Mu) (H:Hp),RKV K Z m H kvs (xs.map fun x=>(x.1,x.2.2))
theorem zaW0 (zs:List Str):(zs.map (Sum.inr:Str→Key)).map kV=zs.map V.str:=by
 rw [List.map_map]
 rfl
section
variable {X:Cx} {pins:List (Addr×Obj)} {σ:L2.St} {H:Hp} {s:Shared}
theorem zaN8 {a:Addr} {zs:List Str} (I:Inv X pins σ H s) (h:SqT X.K H a (zs.map V.str)):(tupleKind (zd2 X.prog X.w)).is s.heap (zs.map Sum.inr) a:=by
 obtain ⟨its,r,⟨o,h1,h2,n,h3⟩,_⟩:=I.tuple h
 rw [← zaW0] at r
 exact ⟨o,its.toArray,n,h1,h2,h3,by simpa using zJ8 r⟩
theorem KTEnt.out (I:Inv X pins σ H s):∀ {es:List DictEntry} {xs:List (List Str×Addr×V)},KTEnt X.K X.w es xs→∃ ys:List (List Key×Addr×Value),es=ys.map (entryOfKey (tupleKind (zd2 X.prog X.w)))∧(∀ y∈ys,(tupleKind (zd2 X.prog X.w)).is s.heap y.1 y.2.1)∧ys.map (·.1)=xs.map (fun x=>x.1.map Sum.inr) ∧
  ∀ zs:List Str,RelO (valV (xs.map fun x=>(x.1,x.2.2)) zs) ((atKey ys (zs.map Sum.inr)).map (·.2))
 | [],[],_=>⟨[],rfl,by simp,rfl,fun _=>True.intro⟩
 | e :: es,(zs,a,v) :: xs,⟨h1,h2,h3,h4,h5⟩=>by
  obtain ⟨ys,q1,q2,q3,q4⟩:=KTEnt.out I h5
  refine ⟨(zs.map Sum.inr,a,e.val) :: ys,?_,fun y hy=>?_,by simp [q3],fun z=>?_⟩
  ·rw [List.map_cons,← q1]
   congr 1
   obtain ⟨eh,ek,ev⟩:=e
   simp only at h1 h2
   subst h1 h2
   unfold entryOfKey
   congr 1
   show _=reduceHash (Builtin.Tuple.tupleHashOf ((zs.map Sum.inr).map (zd2 X.prog X.w).hash))
   rw [List.map_map]
   rfl
  ·rcases List.mem_cons.mp hy with rfl | hy
   ·exact zaN8 I h4.sq
   ·exact q2 y hy
  ·by_cases c:zs=z
   ·subst c
    unfold valV atKey
    simp only [List.map_cons,List.find?_cons,decide_true,Option.map_some]
    exact h3
   ·have c':¬ zs.map (Sum.inr:Str→Key)=z.map Sum.inr:=fun h=>c ((List.map_inj_right (fun _ _ q=>Sum.inr.inj q)).mp h)
    have:=q4 z
    unfold valV atKey at this ⊢
    simp only [List.map_cons,List.find?_cons,decide_eq_false c,decide_eq_false c']
    exact this
 | [],_ :: _,h=>h.elim
 | _ :: _,[],h=>h.elim
theorem KTDt.out {c:Addr} {xs:List (List Str×Addr×V)} (I:Inv X pins σ H s) (q:KTDt X.K X.w c xs):(c == sysModules)=false∧∃ ys:List (List Key×Addr×Value),s.heap.DictOfH (tupleKind (zd2 X.prog X.w)) c ys ∧
  ∀ zs:List Str,RelO (valV (xs.map fun x=>(x.1,x.2.2)) zs) ((atKey ys (zs.map Sum.inr)).map (·.2)):=by
 obtain ⟨o,es,ep,h1,h2,h3,h4,h5,h6,h7,h8⟩:=q
 obtain ⟨ys,q1,q2,q3,q4⟩:=KTEnt.out I h6
 refine ⟨h8,ys,⟨o,es,ep,I.kIn _ _ h1,⟨h2,h3,h4⟩,h5,q1,q2,?_⟩,q4⟩
 rw [q3]
 have e:xs.map (fun x=>x.1.map (Sum.inr:Str→Key))=(xs.map (·.1)).map (fun z=>z.map Sum.inr):=by simp
 rw [e]
 exact List.Pairwise.map _ (fun a b hab h=>hab ((List.map_inj_right (fun _ _ q=>Sum.inr.inj q)).mp h)) h7
end
theorem KT.rp {K:PySem.W.Frag} {a:Addr} {zs:List Str} {Z:Addr→Prop} {m:Mu} {H:Hp} (h:KT K a zs):RP K Z m H (.tuple (zs.map PyData.str)) (.ref a):=by
 simp only [RP]
 exact ⟨a,_,rfl,h.sq,zS3 zs⟩
section
variable {X:Cx} {e g:Expr} {fi fg:DE} {p apos cpos:Pos}
@[simp] def zaf3 (kvs:List (List Str×PyData)) (fi fg:DE):DE:=fun d m Q=>fi d m fun y m1=>∃ zs:List Str,y=.dat (.tuple (zs.map .str))∧fg d m1 fun x m2=>Q (match valP kvs zs with | some q=>.dat q | none=>x) m2
theorem zaD0 {x:Str} {c:Addr} {kvs:List (List Str×PyData)} (hu:X.A.units + 100 < cLine) (hg:Gl X x) (hm:X.mg x=some (.ref c)) (hk:KTD X.K X.w c kvs) (he:PE X e (LE X.K fi)) (hf:PE X g (LE X.K fg)) (hd:(x == ("__debug__" : Str))=false:=by decide)
  (hbase:attributeBase (.Name x p) "get" X.env (eval (.Name x p) X.env)=eval (.Name x p) X.env:=by rfl)
  (hfew:((backTo cpos (starEach [e,g] X.env)).all (fun x=>!x.1) && (backToKw cpos (keywordEach [] X.env)).all (fun x=>x.1.isSome) && decide (([e,g]:List Expr).length + ([]:List Keyword).length + (if ([]:List Keyword).isEmpty then 0 else 1) < 30))=true:=by rfl)
  (hline:(apos.endLine == cpos.line)=true:=by rfl) (hs:backTo cpos (starEach [e,g] X.env)=[(false,eval e X.env),(false,eval g X.env)]:=by rfl) :
  PE X (.Call (.Attribute (.Name x p) "get" apos) [e,g] [] cpos) (LE X.K (zaf3 kvs fi fg)):=by
 intro pins s σ H Q I h
 obtain ⟨Z,d,m,R,ok,rs,h,k⟩:=h
 obtain ⟨xs,kd,rk⟩:=hk
 refine wpAny_Call_method hbase hfew hline PySem.F.plainAttrs_dict PySem.F.slot_dict_get PySem.F.type_dict_get (thn (zan2 (v:=.ref c) hg hm rfl hd pins s σ H (fun x H1=>x=.ref c∧H1=H) I ⟨rfl,rfl⟩) fun u s1 ⟨x,H1,I1,rx,ex,eH⟩=>?_)
 subst ex; subst eH
 obtain rfl:u=Value.ref c:=rx
 obtain ⟨_,ws1,dd1,_⟩:=kd.out I1
 refine ⟨dd1.typeIs,fun b q=>?_,?_⟩
 ·cases q
  obtain ⟨ob,_,_,h1,h2,_⟩:=dd1
  exact ⟨ob,h1,h2.2.1⟩
 rw [hs]
 refine Calls.callWith_builtin rfl (Calls.evalArgs_plain (Calls.spliced_cons (thn (he pins s1 σ _ (fun v H2=>∃ (zs:List Str) (b:Addr),v=.ref b∧LE X.K fg σ H2 fun v2 H3=>SqT X.K H3 b (zs.map V.str)∧Q ((valV (xs.map fun x=>(x.1,x.2.2)) zs).getD v2) H3) I1 ⟨Z,d,m,_,ok,rs,h,fun y m1 v H1 ⟨zs,ey,hq⟩ e1 ok1 r1=>?_⟩) fun iv s2 ⟨y,H2,I2,ry,zs,b,ey,q2⟩ =>
  Calls.spliced_cons (thn (hf pins s2 σ H2 _ I2 q2) fun fv s3 ⟨v2,H3,I3,rz,sq,q3⟩=>Calls.spliced_nil ?_))))
 ·subst ey
  have r1':=r1
  simp only [RD,RP] at r1'
  obtain ⟨b,vs,rfl,_,_⟩:=r1'
  refine ⟨zs,b,rfl,Z,d,m1,_,ok1,rs.ext e1,hq,fun x m2 v2 H2 hq2 e2 ok2 r2=>⟨?_,?_⟩⟩
  ·have r3:=r1.ext e2
   simp only [RD,RP] at r3
   obtain ⟨b',vs',e',h1,h2⟩:=r3
   cases e'
   cases zp9 h2
   exact h1
  ·cases hv:valP kvs zs with
   | none =>
    rw [hv] at hq2
    rw [(rk Z m2 H2).val_none hv]
    exact k _ m2 _ H2 hq2 (e1.trans e2) ok2 r2
   | some q =>
    rw [hv] at hq2
    obtain ⟨w,hw,rw'⟩:=(rk Z m2 H2).val hv
    rw [hw]
    exact k _ m2 _ H2 hq2 (e1.trans e2) ok2 rw'
 ·subst ey
  cases (show iv=Value.ref b from ry)
  obtain ⟨sy,ys,dd,rel⟩:=kd.out I3
  exact call_meetsIn PySem.F.slot_dict_get dd.typeIs PySem.F.entry_dict_get (PySem.F.args_dict_get_3 _ _ _) (meetsH_dict_get_default (tupleKind (zd2 X.prog X.w)) c b sy fv) ⟨tupleKind_room_in1 (by omega),zs.map Sum.inr,ys,zaN8 I3 sq,dd,⟨_,H3,I3.tok _,(rel zs).getD rz,q3⟩⟩
end
end DL
namespace DL
open PySem PySem.Spec PyProof.Rows L2
section
variable {X:Cx} {o e:Expr} {f g:DE} {apos cpos:Pos}
def zbl1 (K:PySem.W.Frag):V→List V→Hp→VK→Prop:=fun x xs H Q=>∃ (a:Addr) (y:Str) (zs:List Str),x=.ref a∧xs=[.str y]∧SqL K H a (zs.map V.str)∧y∈zs∧Q (.int (zs.idxOf y:Nat)) H
theorem zaT9:MtR X "list.index" (zbl1 X.K):=by
 intro pins s σ H x xs v us Q I rx rs ⟨a,y,zs,e1,e2,hq,hk,q⟩
 subst e1 e2
 cases rx
 obtain ⟨u,rfl,ru⟩:=zS0 rs
 obtain ⟨tk,rfl⟩:=id ru
 obtain ⟨its,rv,p,hz⟩:=I.list hq
 have hl:=rv.length
 rw [List.length_map] at hl hz
 have hj:zs.idxOf y < zs.length:=List.idxOf_lt_length_iff.mpr hk
 have hsz:(zs.length:Int)≤1000000000:=by
  rw [sizeLine_eq] at hz
  omega
 have hit:∀ m (hm:m < its.toArray.size) (hm2:m < zs.length),eqU (.str y) its.toArray[m]=(zs[m] == y):=fun m hm hm2=>by
  obtain ⟨t,e⟩:=zW7 rv m (by simpa using hm) hm2
  have e':its.toArray[m]=.str zs[m] t:=by simpa using e
  rw [e']
  rfl
 have hfl:(zs.map V.str).all zO7=true:=by
  rw [List.all_eq_true]
  intro v hv
  obtain ⟨z,_,rfl⟩:=List.mem_map.mp hv
  rfl
 obtain ⟨⟨cl,dd,dt,sl⟩,n,p1,p2,p3,p4⟩:=id p
 simp only at p2 p4
 subst p2 p4
 refine call_meets PySem.F.slot_list_index p.isList.typeIs PySem.F.entry_list_index (PySem.F.args_list_index_2 _ _) (SeqAt.list_indexAt a its.toArray n dd sl (.str y tk) (eqU (.str y)) (zs.idxOf y) (by rw [List.size_toArray]; omega) (by omega) ?_ ?_) ⟨p1,?_,?_⟩
 ·rw [hit _ _ hj,List.getElem_idxOf hj]
  simp
 ·intro m hm hlt
  have hm2:m < zs.length:=by omega
  rw [hit m hm hm2]
  simp only [beq_eq_false_iff_ne]
  exact zax0 _ _ hm2 hlt
 ·exact fun w hw=>zM3 (x:=.str y) ⟨tk,rfl⟩ rfl rv hfl w (by simpa using hw)
 ·exact ⟨.int _,H,I.tok _,⟨_,rfl⟩,q⟩
def SqX (t:Bool) (K:PySem.W.Frag) (H:Hp) (a:Addr) (zs:List Str):Prop:=if t then SqT K H a (zs.map V.str) else SqL K H a (zs.map V.str)
@[simp] def zaJ6 (f g:DE):DE:=fun d m Q=>f d m fun x m1=>∃ zs:List Str,(x=.dat (.tuple (zs.map .str))∨x=.dat (.list (zs.map .str)))∧g d m1 fun y m2=>∃ z:Str,y=.dat (.str z)∧z∈zs∧Q (.dat (.int (zs.idxOf z:Nat))) m2
theorem zaT5 (ho:PE X o (LE X.K f)) (he:PE X e (LE X.K g)) (hbase:attributeBase o "index" X.env (eval o X.env)=eval o X.env:=by rfl)
  (hfew:((backTo cpos (starEach [e] X.env)).all (fun x=>!x.1) && (backToKw cpos (keywordEach [] X.env)).all (fun x=>x.1.isSome) && decide ([e].length + ([]:List Keyword).length + (if ([]:List Keyword).isEmpty then 0 else 1) < 30))=true:=by rfl)
  (hline:(apos.endLine == cpos.line)=true:=by rfl) (hs:backTo cpos (starEach [e] X.env)=[(false,eval e X.env)]:=by rfl):PE X (.Call (.Attribute o "index" apos) [e] [] cpos) (LE X.K (zaJ6 f g)):=by
 intro pins s σ H Q I h
 obtain ⟨Z,d,m,R,ok,rs,h,k⟩:=h
 refine wpAny_Call_method_late hbase hfew hline rfl (thn (ho pins s σ H (fun v H1=>∃ (t:Bool) (a:Addr) (zs:List Str),v=.ref a∧SqX t X.K H1 a zs∧LE X.K g σ H1 fun v2 H2=>∃ z:Str,v2=.str z∧z∈zs∧SqX t X.K H2 a zs∧Q (.int (zs.idxOf z:Nat)) H2) I ⟨Z,d,m,_,ok,rs,h,fun x m1 v H1 ⟨zs,ex,hq⟩ e1 ok1 r1=>?_⟩) fun v s1 ⟨x,H1,I1,rx,t,a,zs,ex,sq,q1⟩=>?_)
 ·rcases ex with rfl | rfl
  ·have r1':=r1
   simp only [RD,RP] at r1'
   obtain ⟨a,vs,rfl,h1,h2⟩:=r1'
   cases zp9 h2
   refine ⟨true,a,zs,rfl,h1,Z,d,m1,_,ok1,rs.ext e1,hq,fun y m2 v2 H2 ⟨z,ey,hz,q⟩ e2 ok2 r2=>?_⟩
   subst ey
   cases r2.str
   have r3:=r1.ext e2
   simp only [RD,RP] at r3
   obtain ⟨a',vs',e',h1',h2'⟩:=r3
   cases e'
   cases zp9 h2'
   exact ⟨z,rfl,hz,h1',k _ m2 _ H2 q (e1.trans e2) ok2 .ofInt⟩
  ·have r1':=r1
   simp only [RD,RP] at r1'
   obtain ⟨a,vs,rfl,_,h1,h2⟩:=r1'
   cases zp9 h2
   refine ⟨false,a,zs,rfl,h1,Z,d,m1,_,ok1,rs.ext e1,hq,fun y m2 v2 H2 ⟨z,ey,hz,q⟩ e2 ok2 r2=>?_⟩
   subst ey
   cases r2.str
   have r3:=r1.ext e2
   simp only [RD,RP] at r3
   obtain ⟨a',vs',e',_,h1',h2'⟩:=r3
   cases e'
   cases zp9 h2'
   exact ⟨z,rfl,hz,h1',k _ m2 _ H2 q (e1.trans e2) ok2 .ofInt⟩
 ·subst ex
  obtain rfl:v=Value.ref a:=rx
  cases t with
  | true =>
   obtain ⟨its,_,p,_⟩:=I1.tuple (show SqT _ _ _ _ from sq)
   refine ⟨"tuple","tuple.index",PySem.F.plainAttrs_tuple,PySem.F.slot_tuple_index,PySem.F.type_tuple_index,p.typeIs,fun b e=>by cases e; exact Inv.noD I1 (show SqT _ _ _ _ from sq),?_⟩
   rw [hs]
   refine Calls.callWith_builtin rfl (Calls.evalArgs_plain (Calls.spliced_cons (thn (he pins s1 σ H1 _ I1 q1) fun iv s2 ⟨v2,H2,I2,ry,z,ez,hz,sq2,q2⟩=>Calls.spliced_nil ?_)))
   subst ez
   exact zaP2 pins s2 σ H2 (.ref a) [.str z] _ [iv] Q I2 rfl (.cons ry .nil) ⟨a,z,zs,rfl,rfl,sq2,hz,q2⟩
  | false =>
   obtain ⟨its,_,p,_⟩:=I1.list (show SqL _ _ _ _ from sq)
   refine ⟨"list","list.index",PySem.F.plainAttrs_list,PySem.F.slot_list_index,PySem.F.type_list_index,p.isList.typeIs,fun b e=>by cases e; obtain ⟨ob,n,e,c,hd,_⟩:=p; exact ⟨ob,e,hd⟩,?_⟩
   rw [hs]
   refine Calls.callWith_builtin rfl (Calls.evalArgs_plain (Calls.spliced_cons (thn (he pins s1 σ H1 _ I1 q1) fun iv s2 ⟨v2,H2,I2,ry,z,ez,hz,sq2,q2⟩=>Calls.spliced_nil ?_)))
   subst ez
   exact zaT9 pins s2 σ H2 (.ref a) [.str z] _ [iv] Q I2 rfl (.cons ry .nil) ⟨a,z,zs,rfl,rfl,sq2,hz,q2⟩
end
end DL
namespace DL
open PySem PySem.Spec PyProof.Rows L2
section
variable {X:Cx} {a:Expr} {f:DE} {pos p2:Pos}
end
end DL
namespace DL
open PySem PySem.Spec PyProof.Rows L2
section
variable {X:Cx} {a:Expr} {elts:List Expr} {j:Nat} {f:DE} {pos p p2:Pos}
end
end DL
namespace DL
open PySem PySem.Spec PyProof.Rows L2
section
variable {prog:Program} {w:World} {A:Around} {E:Value→Shared→Prop} {s:Shared}
end
section
variable {X:Cx} {a:Expr} {elts:List Expr} {j:Nat} {f:DE} {pos p p2:Pos}
end
end DL
namespace DL
open PySem PySem.Spec PyProof.Rows L2
section
variable {prog:Program} {w:World} {A:Around} {E:Value→Shared→Prop} {s:Shared}
end
def Itl (K:PySem.W.Frag) (t1 t2:Addr) (n:Nat):It :=
 ⟨fun i H=>i < n∧∃ xs ys,SqL K H t1 xs∧SqT K H t2 ys∧n=min xs.length ys.length,fun i H v H'=>∃ p x y,v=.ref p∧H p=none∧H'=upd H p (.tup [x,y])∧∀ xs ys,SqL K H t1 xs→SqT K H t2 ys→xs[i]?=some x∧ys[i]?=some y,
  fun i H=>i=n∧∃ xs ys,SqL K H t1 xs∧SqT K H t2 ys∧n=min xs.length ys.length⟩
section
variable {X:Cx} {a b:Expr} {elts:List Expr} {j:Nat} {f g:DE} {pos p p2:Pos}
end
end DL
namespace DL
open PySem PySem.Spec PyProof.Rows L2
section
variable {K:PySem.W.Frag} {Z:Addr→Prop} {m m':Mu} {H:Hp}
def offM (m:Mu) (a:Addr):Mu:=fun b=>if b=a then none else m b
theorem zS4 {a b:Addr} (h:m b=none):offM m a b=none:=by unfold offM; split <;> first | rfl | exact h
theorem zaK8 {a:Addr} {xs:List PyData} {v:V} (ok:Ok K Z m H) (hm:m a=some (.l xs)) (r:RD K Z m H (.cel a) v):RP K Z (offM m a) H (.list xs) v:=by
 obtain ⟨rfl,_⟩:=r
 obtain ⟨vs,h1,h2⟩:=ok.l hm
 simp only [RP]
 refine ⟨a,vs,rfl,⟨by unfold offM; rw [if_pos rfl],fun z=>by have:=(ok.z a z).1; rw [hm] at this; cases this⟩,.inl (.inl h1),RPs.tr (fun _ _ q=>q) (fun b ws q1 q2=>⟨⟨zS4 q1.1,q1.2⟩,q2⟩) _ _ h2⟩
end
section
variable {X:Cx} {a:Expr} {f:DE} {pos p2:Pos}
end
end DL
namespace DL
open PySem PySem.Spec PyProof.Rows L2
section
variable {prog:Program} {w:World} {A:Around} {E:Value→Shared→Prop} {s:Shared}
end
section
variable {prog:Program} {w:World} {κ:Type} [DecidableEq κ] {knd:KeyKind prog w κ} {A:Around} {E:Value→Shared→Prop} {s:Shared}
end
section
variable {X:Cx} {e:Expr} {f:DE} {pos p:Pos}
end
end DL
namespace DL
open PySem PySem.Spec PyProof.Rows L2
theorem zau3:typeLookup (.type "zip") (Str.ofString "__len__")=pure none:=by rw [typeLookup_type,builtinLookup_eq_fast]; kernel_rfl
theorem zam8:typeLookup (.type "zip") (Str.ofString "__length_hint__")=pure none:=by rw [typeLookup_type,builtinLookup_eq_fast]; kernel_rfl
section
variable {prog:Program} {w:World} {A:Around} {E:Value→Shared→Prop} {s:Shared}
theorem zP4 {x:Value} {T:String} {name:Str} {Q:Option Value→Shared→Prop} (hT:s.TypeIs x T) (hl:typeLookup (.type T) name=pure none) (h:Q none s):wpAny (model prog w) A (specialOf x name) Q E s:=by
 unfold specialOf
 refine wpAny_bind (wpAny_typeOf hT ?_)
 rw [hl]
 exact wpAny_pure h
theorem zaI9 {z:Addr} {Q:Bool→Shared→Prop} (hT:s.TypeIs (.ref z) "zip") (h:Q true s):wpAny (model prog w) A (Builtin.List.listLengthHint (.ref z)) Q E s:=by
 unfold Builtin.List.listLengthHint
 refine wpAny_bind (zP4 hT zau3 ?_)
 have e:∀ o:Option Value,o=none→(if o.isSome=true then False else True):=fun o h=>by subst h; trivial
 show wpAny _ _ (specialOf (.ref z) (Str.ofString "__length_hint__")>>=_) _ _ _
 refine wpAny_bind (zP4 hT zam8 ?_)
 exact wpAny_pure h
theorem zan9 {a:Addr} {o:Obj} {Q:Option Obj→Shared→Prop} (ho:s.heap.get? a=some o) (h:Q (some o) s):wpAny (model prog w) A (loadIfAlive a) Q E s:=by
 intro Γ p hin
 unfold loadIfAlive
 rw [Sem.wp_loadIfAlive]
 simp only [ho]
 exact wpAny_pure h Γ p hin
abbrev ZH (h:Heap) (z TI TO:Addr) (T:Nat) (b:Bool):Prop:=h.get? z=some { cls:=.type "zip",data:=.fields #[rawInt T,.bool b,.bool false,.ref TI,.ref TO] }
theorem zaF4 {z TI TO:Addr} {T:Nat} {b:Bool} {Q:Bool→Shared→Prop} (hz:ZH s.heap z TI TO T b) (ht:∃ o,s.heap.get? T=some o) (h:∀ h',ZH h' z TI TO T true→Heap.SameBut z s.heap h'→Q false { s with heap:=h' }) :
  wpAny (model prog w) A (Builtin.SmallTypes.ownedTupleIsFree (.ref z)) Q E s:=by
 obtain ⟨o,ho⟩:=ht
 unfold Builtin.SmallTypes.ownedTupleIsFree
 refine wpAny_bind (wpAny_field hz rfl (x:=rawInt T) rfl ?_)
 show wpAny _ _ (loadIfAlive ((T:Int).toNat)>>=_) _ _ _
 rw [Int.toNat_natCast]
 refine wpAny_bind (zan9 ho ?_)
 show wpAny _ _ (field (.ref z) 1>>=_) _ _ _
 refine wpAny_bind (wpAny_field hz rfl (x:=.bool b) rfl ?_)
 cases b with
 | true=>exact wpAny_pure (h s.heap hz (Heap.SameBut.refl _ _))
 | false =>
  show wpAny _ _ (setField (.ref z) 1 (.bool true)>>=_) _ _ _
  exact wpAny_bind (wpAny_setField_rec hz (by simp) fun h' e c=>wpAny_pure (h h' e c))
theorem zaT0 {z TI TO i1 i2 l1 l2:Addr} {T k:Nat} {b:Bool} {xs ys:Array Value} {x y:Value} {Q:Value→Shared→Prop} (D:ZipApart z TI TO i1 i2 l1 l2) (hz:ZH s.heap z TI TO T b) (ht:∃ o,s.heap.get? T=some o)
  (hTI:IsPair s.heap TI (.ref i1) (.ref i2)) (h1:s.heap.IsListIter i1 l1 k) (h2:s.heap.IsListIter i2 l2 k) (g1:s.heap.IsList l1 xs) (g2:s.heap.IsList l2 ys) (hx:xs[k]?=some x) (hy:ys[k]?=some y)
  (hQ:∀ h',ZH h' z TI TO T true→IsPair h' TI (.ref i1) (.ref i2)→h'.IsListIter i1 l1 (k + 1)→h'.IsListIter i2 l2 (k + 1)→IsPair h' s.heap.objs.size x y →
   (∀ c o,c≠z→c≠i1→c≠i2→s.heap.get? c=some o→h'.get? c=some o)→Q (.ref s.heap.objs.size) { s with heap:=h' }) :
  wpAny (model prog w) A (Builtin.«zip.__next__» ⟨[.ref z],[]⟩) (fun fin s'=>∃ v,fin=.done (.ret v)∧Q v s') E s:=by
 show wpAny _ _ (field (.ref z) 2>>=_) _ _ _; refine wpAny_bind (wpAny_field hz rfl (x:=.bool false) rfl ?_)
 show wpAny _ _ (field (.ref z) 3>>=_) _ _ _; refine wpAny_bind (wpAny_field hz rfl (x:=.ref TI) rfl (wpAny_bind (wpAny_seqItems hTI rfl ?_)))
 show wpAny _ _ (Builtin.SmallTypes.ownedTupleIsFree (.ref z)>>=_) _ _ _
 refine wpAny_bind (zaF4 hz ht fun n1 z1 c1=>?_)
 rw [if_neg Bool.false_ne_true]
 simp only [List.forIn_toArray,List.forIn_cons,List.forIn_nil]
 refine wpAny_bind (wpAny_bind (wpAny_bind (wpAny_holding ?_)))
 show wpAny _ _ (Builtin.SmallTypes.nextOf (.ref i1)>>=_) _ _ _
 refine wpAny_bind (wpAny_nextOf_list_item (h1.at fun o e=>c1.extBut _ o D.i1z e) (g1.extBut c1.extBut D.l1z) hx fun n2 b2 c2=>wpAny_pure ?_)
 refine wpAny_pure ?_
 refine wpAny_bind (wpAny_bind (wpAny_holding ?_))
 show wpAny _ _ (Builtin.SmallTypes.nextOf (.ref i2)>>=_) _ _ _
 have up2:∀ c o,c≠z→c≠i1→s.heap.get? c=some o→n2.get? c=some o:=fun c o q1 q3 e=>c2.extBut _ _ q3 (c1.extBut _ _ q1 e)
 have g22:n2.IsList l2 ys:=by
  obtain ⟨o,ho,r⟩:=g2
  exact ⟨o,up2 _ _ D.l2z D.l2i1 ho,r⟩
 refine wpAny_bind (wpAny_nextOf_list_item (h2.at fun o e=>up2 _ o D.i2z D.i12.symm e) g22 hy fun n3 b3 c3=>wpAny_pure ?_)
 refine wpAny_pure (wpAny_pure ?_)
 show wpAny _ _ (newTuple [x,y]>>=_) _ _ _
 refine wpAny_bind (wpAny_newTuple ?_)
 have size3:n3.objs.size=s.heap.objs.size:=by rw [c3.1,c2.1,c1.1]
 have up3:∀ c o,c≠z→c≠i1→c≠i2→s.heap.get? c=some o→n3.get? c=some o:=fun c o q1 q3 q4 e=>c3.extBut _ _ q4 (up2 c o q1 q3 e)
 have z3:ZH n3 z TI TO T true:=c3.extBut _ _ D.i2z.symm (c2.extBut _ _ D.i1z.symm z1)
 refine wpAny_pure ⟨_,rfl,?_⟩
 show Q (.ref n3.objs.size) _
 rw [size3]
 have new:IsPair (n3.push { cls:=.type "tuple",data:=.seq #[x,y] }) n3.objs.size x y:=Heap.get?_push_size _ rfl
 rw [size3] at new
 exact hQ _ (Heap.get?_push_of_some _ z3) (Heap.get?_push_of_some _ (up3 _ _ D.TIz D.TIi1 D.TIi2 hTI)) (b2.at fun o e=>Heap.get?_push_of_some _ (c3.extBut _ _ D.i12 e)) (b3.at fun o e=>Heap.get?_push_of_some _ e) new fun c o q1 q2 q3 e=>Heap.get?_push_of_some _ (up3 c o q1 q2 q3 e)
theorem zbf0 {z TI TO i1 i2 l1 l2:Addr} {T k:Nat} {b:Bool} {xs ys:Array Value} {Q:Fin→Shared→Prop} (hh:A.handled=none) (D:ZipApart z TI TO i1 i2 l1 l2) (hz:ZH s.heap z TI TO T b) (ht:∃ o,s.heap.get? T=some o)
  (hTI:IsPair s.heap TI (.ref i1) (.ref i2)) (h1:s.heap.IsListIter i1 l1 k) (g1:s.heap.IsList l1 xs) (hx:xs[k]?=none)
  (hE:∀ h' e,(∀ c o,c≠z→c≠i1→c≠i2→s.heap.get? c=some o→h'.get? c=some o)→(∃ o,h'.get? e=some o∧o.cls=.type "StopIteration")→E (.ref e) { s with heap:=h' }) :
  wpAny (model prog w) A (Builtin.«zip.__next__» ⟨[.ref z],[]⟩) Q E s:=by
 show wpAny _ _ (field (.ref z) 2>>=_) _ _ _; refine wpAny_bind (wpAny_field hz rfl (x:=.bool false) rfl ?_)
 show wpAny _ _ (field (.ref z) 3>>=_) _ _ _; refine wpAny_bind (wpAny_field hz rfl (x:=.ref TI) rfl (wpAny_bind (wpAny_seqItems hTI rfl ?_)))
 show wpAny _ _ (Builtin.SmallTypes.ownedTupleIsFree (.ref z)>>=_) _ _ _
 refine wpAny_bind (zaF4 hz ht fun n1 z1 c1=>?_)
 rw [if_neg Bool.false_ne_true]
 simp only [List.forIn_toArray,List.forIn_cons,List.forIn_nil]
 refine wpAny_bind (wpAny_bind (wpAny_bind (wpAny_holding ?_)))
 show wpAny _ _ (Builtin.SmallTypes.nextOf (.ref i1)>>=_) _ _ _
 refine wpAny_bind (wpAny_nextOf_list_end hh (h1.at fun o e=>c1.extBut _ o D.i1z e) (g1.extBut c1.extBut D.l1z) hx fun n2 e c2 he=>?_)
 exact hE n2 e (fun c o q1 q2 q3 q=>c2 _ _ q2 (c1.extBut _ _ q1 q)) he
end
end DL
namespace DL
open PySem PySem.Spec PyProof.Rows L2
section
variable {prog:Program} {w:World} {A:Around} {E:Value→Shared→Prop} {s:Shared}
theorem zah3 {z TI TO i1 i2 l1 l2:Addr} {T k:Nat} {b:Bool} {xs ys:Array Value} {x y:Value} {Q:Option Value→Shared→Prop} (D:ZipApart z TI TO i1 i2 l1 l2) (hz:ZH s.heap z TI TO T b) (ht:∃ o,s.heap.get? T=some o)
  (hTI:IsPair s.heap TI (.ref i1) (.ref i2)) (h1:s.heap.IsListIter i1 l1 k) (h2:s.heap.IsListIter i2 l2 k) (g1:s.heap.IsList l1 xs) (g2:s.heap.IsList l2 ys) (hx:xs[k]?=some x) (hy:ys[k]?=some y)
  (hQ:∀ h',ZH h' z TI TO T true→IsPair h' TI (.ref i1) (.ref i2)→h'.IsListIter i1 l1 (k + 1)→h'.IsListIter i2 l2 (k + 1)→IsPair h' s.heap.objs.size x y →
   (∀ c o,c≠z→c≠i1→c≠i2→s.heap.get? c=some o→h'.get? c=some o)→Q (some (.ref s.heap.objs.size)) { s with heap:=h' }) :
  wpAny (model prog w) A (pyNext (.ref z)) Q E s:=by
 have hT:s.TypeIs (.ref z) "zip":=⟨_,hz,rfl⟩
 unfold pyNext
 exact wpAny_bind (wpAny_attempt (wpAny_callSpecial?_slot (name:=Str.ofString "__next__") hT F.slot_zip_next (wpAny_call_entry F.slot_zip_next hT F.entry_zip_next (zaT0 D hz ht hTI h1 h2 g1 g2 hx hy fun h' a1 a2 a3 a4 a5 a6=>wpAny_pure (hQ h' a1 a2 a3 a4 a5 a6)) (F.args_zip_next_1 _))))
theorem zal2 {z TI TO i1 i2 l1 l2:Addr} {T k:Nat} {b:Bool} {xs:Array Value} {Q:Option Value→Shared→Prop} (hh:A.handled=none) (D:ZipApart z TI TO i1 i2 l1 l2) (hz:ZH s.heap z TI TO T b) (ht:∃ o,s.heap.get? T=some o)
  (hTI:IsPair s.heap TI (.ref i1) (.ref i2)) (h1:s.heap.IsListIter i1 l1 k) (g1:s.heap.IsList l1 xs) (hx:xs[k]?=none)
  (hQ:∀ h',(∀ c o,c≠z→c≠i1→c≠i2→s.heap.get? c=some o→h'.get? c=some o)→Q none { s with heap:=h' }) :
  wpAny (model prog w) A (pyNext (.ref z)) Q E s:=by
 have hT:s.TypeIs (.ref z) "zip":=⟨_,hz,rfl⟩
 unfold pyNext
 refine wpAny_bind (wpAny_attempt (wpAny_callSpecial?_slot (name:=Str.ofString "__next__") hT F.slot_zip_next (wpAny_call_entry F.slot_zip_next hT F.entry_zip_next (zbf0 (l2:=l2) (ys:=#[]) hh D hz ht hTI h1 g1 hx fun h' e k he=>?_) (F.args_zip_next_1 _))))
 obtain ⟨o,ho,hce⟩:=he
 refine wpAny_bind (wpAny_isInstance (T:="StopIteration") (b:=true) ⟨o,ho,hce⟩ isSubtype_stop ?_)
 exact wpAny_pure (hQ h' k)
end
section
variable {X:Cx} {pins:List (Addr×Obj)} {σ:L2.St}
theorem zaj2 {H:Hp} {s:Shared} {h':Heap} {ch:List Addr} {x y:V} {u1 u2:Value} {t':Nat} (I:Inv X pins σ H s) (hf:∀ b∈ch,FpOk X pins H b) (hin:∀ b∈ch,∃ o,s.heap.get? b=some o) (rx:RelV x u1) (ry:RelV y u2)
  (np:IsPair h' s.heap.objs.size u1 u2) (k:∀ b o,b ∉ ch→s.heap.get? b=some o→h'.get? b=some o) :
  Inv X pins σ (upd H s.heap.objs.size (.tup [x,y])) { s with heap:=h',toks:=t' }∧∀ b∈ch,FpOk X pins (upd H s.heap.objs.size (.tup [x,y])) b:=by
 have I1:Inv X pins σ (upd H s.heap.objs.size (.tup [x,y])) { s with heap:=s.heap.push { cls:=.type "tuple",data:=.seq #[u1,u2] } } :=
  I.laid (t':=s.toks) (fun b o e=>Heap.get?_push_of_some _ e) (Nat.le_refl _) (show ObjOk X.prog X.w _ _ _ (.tup [x,y]) from ⟨⟨by show 2≤sizeLine; rw [sizeLine_eq]; decide,NoD.new _ _ _⟩,[u1,u2],.cons rx (.cons ry .nil),IsTup.new _ _⟩)
 have hf':∀ b∈ch,FpOk X pins (upd H s.heap.objs.size (.tup [x,y])) b:=fun b hb=>by
  obtain ⟨f0,f1,f2,f3,f4,f5⟩:=hf b hb
  obtain ⟨o,ho⟩:=hin b hb
  exact ⟨by rw [zc9 (Nat.ne_of_lt (Heap.lt_size ho))]; exact f0,f1,f2,f3,f4,f5⟩
 refine ⟨zaL5 (s:={ s with heap:=s.heap.push { cls:=.type "tuple",data:=.seq #[u1,u2] } }) (h':=h') (t':=t') (ch:=ch) I1 (fun b o hb e=>?_) hf',hf'⟩
 rcases Heap.get?_push_cases e with ⟨rfl,rfl⟩ | e
 ·exact np
 ·exact k b o hb e
def PairsH (H:Hp) (xs ys:List V) (ps:List Addr):Prop:=∀ (j:Nat) (p:Addr),ps[j]?=some p→∃ x y,xs[j]?=some x∧ys[j]?=some y∧H p=some (.tup [x,y])
theorem PairsH.same {H H':Hp} {xs ys:List V} {ps:List Addr} (h:PairsH H xs ys ps) (e:Same H H'):PairsH H' xs ys ps:=fun j p q=>let ⟨x,y,h1,h2,h3⟩:=h j p q; ⟨x,y,h1,h2,e _ _ h3⟩
theorem PairsH.snoc {H:Hp} {xs ys:List V} {ps:List Addr} {a:Addr} {x y:V} (h:PairsH H xs ys ps) (hx:xs[ps.length]?=some x) (hy:ys[ps.length]?=some y) (ha:H a=some (.tup [x,y])):PairsH H xs ys (ps++[a]):=fun j p q=>by
 rcases Nat.lt_or_ge j ps.length with c | c
 ·rw [List.getElem?_append_left c] at q
  exact h j p q
 ·rw [List.getElem?_append_right c] at q
  have:j - ps.length=0:=by
   rcases Nat.eq_zero_or_pos (j - ps.length) with z | z
   ·exact z
   ·rw [List.getElem?_eq_none (by simp; omega)] at q; cases q
  rw [this] at q
  cases q
  have e:j=ps.length:=by omega
  subst e
  exact ⟨x,y,hx,hy,ha⟩
theorem zas3 {prog:Program} {w:World} {A:Around} {R:Result→Shared→Prop} {z TI TO i1 i2 l1 l2 S:Addr} {res:Value} {xs ys:List V} (hh:A.handled=none) (D:ZipApart z TI TO i1 i2 l1 l2) (Sz:S≠z) (S1:S≠i1) (S2:S≠i2) (S3:S≠TI) (S4:S≠TO) (hl:ys.length=xs.length) (hsz:xs.length≤1000) :
  ∀ (n k:Nat) (s:Shared) (H:Hp) (acc:Array Value) (c:Nat) (ps:List Addr) (T:Nat) (b:Bool),n + k=xs.length→Inv X pins σ H s→(∀ b∈[z,TI,TO,i1,i2,S],FpOk X pins H b)→(∀ b∈[z,TI,TO,i1,i2,S],∃ o,s.heap.get? b=some o) →
   ZH s.heap z TI TO T b→(∃ o,s.heap.get? T=some o)→T≠z→T≠i1→T≠i2→T≠S→IsPair s.heap TI (.ref i1) (.ref i2)→s.heap.IsListIter i1 l1 k→s.heap.IsListIter i2 l2 k→SqL X.K H l1 xs→SqL X.K H l2 ys →
   s.heap.get? S=some { cls:=.type "list",data:=.seq acc c }→acc.toList=ps.map .ref→ps.length=k→PairsH H xs ys ps →
   (∀ s' H' acc' c' ps',Inv X pins σ H' s'→Same H H'→s'.heap.get? S=some { cls:=.type "list",data:=.seq acc' c' }→acc'.toList=ps'.map .ref→ps'.length=xs.length→PairsH H' xs ys ps'→R (.ok (.ret res)) s') →
   codeAny (model prog w) A (.builtin "list.extend.loop" ⟨[.ref S,.ref z,res],[]⟩) R s
 | 0,k,s,H,acc,c,ps,T,b,hn,I,hf,hin,hz,ht,tz,t1,t2,tS,hTI,h1,h2,g1,g2,hS,ha,hk,hp,hR=>by
  obtain ⟨its1,r1,p1,_⟩:=I.list g1
  have m1:=r1.length
  refine codeAny_builtin F.entry_extend_loop ?_
  rw [Around.under_plainId F.plain_extend_loop _]
  show wpAny _ A.in1 (pyNext (.ref z)>>=_) _ _ s
  refine wpAny_bind (zal2 (xs:=its1.toArray) hh D hz ht hTI h1 p1.isList (by simp; omega) fun h' kp=>?_)
  refine wpAny_pure ?_
  have I2:Inv X pins σ H { s with heap:=h' }:=zaL5 (t':=s.toks) (ch:=[z,TI,TO,i1,i2,S]) I (fun b o hb e=>by
   simp only [List.mem_cons,List.not_mem_nil,or_false,not_or] at hb
   exact kp b o hb.1 hb.2.2.2.1 hb.2.2.2.2.1 e) hf
  exact hR _ H acc c ps I2 (fun _ _ e=>e) (kp _ _ Sz S1 S2 hS) ha (by omega) hp
 | n + 1,k,s,H,acc,c,ps,T,b,hn,I,hf,hin,hz,ht,tz,t1,t2,tS,hTI,h1,h2,g1,g2,hS,ha,hk,hp,hR=>by
  obtain ⟨its1,r1,p1,_⟩:=I.list g1
  obtain ⟨its2,r2,p2,_⟩:=I.list g2
  have e1:xs[k]?=some (xs[k]'(by omega)):=List.getElem?_eq_getElem (by omega)
  have e2:ys[k]?=some (ys[k]'(by omega)):=List.getElem?_eq_getElem (by omega)
  obtain ⟨u1,hu1,ru1⟩:=r1.get e1
  obtain ⟨u2,hu2,ru2⟩:=r2.get e2
  refine codeAny_builtin F.entry_extend_loop ?_
  rw [Around.under_plainId F.plain_extend_loop _]
  show wpAny _ A.in1 (pyNext (.ref z)>>=_) _ _ s
  refine wpAny_bind (zah3 D hz ht hTI h1 h2 p1.isList p2.isList (by simpa using hu1) (by simpa using hu2) fun h' b1 b2 b3 b4 np kp=>?_)
  have hS':=kp _ _ Sz S1 S2 hS
  have asz:acc.size=k:=by
   have:=congrArg List.length ha
   rw [List.length_map] at this
   simpa [hk] using this
  refine wpAny_bind (listUpdate_at hS' rfl ?_ (by rw [asz,sizeLine_eq]; omega) (by simp; rw [asz,sizeLine_eq]; omega))
  refine wpAny_pure ⟨plainId_quiet F.plain_extend_loop _,?_⟩
  -- behind the update
  obtain ⟨h2',eh2⟩:∃ h2',h2'=h'.update S (Obj.mapSeq fun x=>x.push (.ref s.heap.objs.size)):=⟨_,rfl⟩
  have hS2:h2'.get? S=some { cls:=.type "list",data:=.seq (acc.push (.ref s.heap.objs.size)) (c + 1) }:=by
   rw [eh2,Heap.get?_update_self _ hS' rfl]
   simp [Obj.mapSeq]
  have sb:Heap.SameBut S h' h2':=by rw [eh2]; exact Heap.SameBut.update ..
  rw [← eh2]
  have lt:∀ b∈[z,TI,TO,i1,i2,S],b≠s.heap.objs.size:=fun b hb=>by
   obtain ⟨o,ho⟩:=hin b hb
   exact Nat.ne_of_lt (Heap.lt_size ho)
  have nz:=lt z (by simp)
  have nS:=lt S (by simp)
  have kp2:∀ b o,b ∉ [z,TI,TO,i1,i2,S]→s.heap.get? b=some o→h2'.get? b=some o:=fun b o hb e=>by
   simp only [List.mem_cons,List.not_mem_nil,or_false,not_or] at hb
   exact sb.extBut _ _ hb.2.2.2.2.2 (kp b o hb.1 hb.2.2.2.1 hb.2.2.2.2.1 e)
  obtain ⟨I2,hf2⟩:=zaj2 (t':=s.toks) I hf hin ru1 ru2 (sb.extBut _ _ (Ne.symm nS) np) kp2
  have sm:Same H (upd H s.heap.objs.size (.tup [xs[k]'(by omega),ys[k]'(by omega)])):=zc6 (I.hok.fresh (Nat.le_refl _))
  refine zas3 hh D Sz S1 S2 S3 S4 hl hsz n (k + 1) { s with heap:=h2' } _ (acc.push (.ref s.heap.objs.size)) (c + 1) (ps++[s.heap.objs.size]) T true (by omega) I2 hf2 (fun b hb=>?_) ?_ ?_ tz t1 t2 tS ?_ ?_ ?_ (sm.seq g1) (sm.seq g2) hS2 ?_ (by simp [hk]) ((hp.same sm).snoc (by rw [hk]; exact e1) (by rw [hk]; exact e2) zc5) fun s' H' acc' c' ps' a1 a2 a3 a4 a5 a6=>hR s' H' acc' c' ps' a1 (fun b o e=>a2 _ _ (sm b o e)) a3 a4 a5 a6
  ·simp only [List.mem_cons,List.not_mem_nil,or_false] at hb
   rcases hb with rfl | rfl | rfl | rfl | rfl | rfl
   ·exact ⟨_,sb.extBut _ _ (Ne.symm Sz) b1⟩
   ·exact ⟨_,sb.extBut _ _ (Ne.symm S3) b2⟩
   ·obtain ⟨o,ho⟩:=hin b (by simp)
    exact ⟨o,sb.extBut _ _ (Ne.symm S4) (kp _ _ D.TOz D.TOi1 D.TOi2 ho)⟩
   ·obtain ⟨o,ho,_⟩:=b3
    exact ⟨o,sb.extBut _ _ (Ne.symm S1) ho⟩
   ·obtain ⟨o,ho,_⟩:=b4
    exact ⟨o,sb.extBut _ _ (Ne.symm S2) ho⟩
   ·exact ⟨_,hS2⟩
  ·exact sb.extBut _ _ (Ne.symm Sz) b1
  ·obtain ⟨o,ho⟩:=ht
   exact ⟨o,sb.extBut _ _ tS (kp _ _ tz t1 t2 ho)⟩
  ·exact sb.extBut _ _ (Ne.symm S3) b2
  ·exact b3.at fun o e=>sb.extBut _ _ (Ne.symm S1) e
  ·exact b4.at fun o e=>sb.extBut _ _ (Ne.symm S2) e
  ·simp [ha]
end
end DL
namespace DL
open PySem PySem.Spec PyProof.Rows L2
open AutoSeq1 (wpAny_loadPart')
section
variable {X:Cx} {pins:List (Addr×Obj)} {σ:L2.St}
theorem zaE0 {prog:Program} {w:World} {A:Around} {R:Result→Shared→Prop} {z TI TO i1 i2 l1 l2 S:Addr} {res:Value} {xs ys:List V} (hh:A.handled=none) (D:ZipApart z TI TO i1 i2 l1 l2) (Sz:S≠z) (S1:S≠i1) (S2:S≠i2) (S3:S≠TI) (S4:S≠TO) (hl:ys.length=xs.length) (hsz:xs.length≤1000) (h0:0 < xs.length)
  {s:Shared} {H:Hp} {c:Nat} (I:Inv X pins σ H s) (hf:∀ b∈[z,TI,TO,i1,i2,S],FpOk X pins H b)
  (hz:IsZip s.heap z TI TO .none) (hTI:IsPair s.heap TI (.ref i1) (.ref i2)) (hTO:IsPair s.heap TO .none .none) (h1:s.heap.IsListIter i1 l1 0) (h2:s.heap.IsListIter i2 l2 0) (g1:SqL X.K H l1 xs) (g2:SqL X.K H l2 ys)
  (hS:s.heap.get? S=some { cls:=.type "list",data:=.seq #[] c })
  (hR:∀ s' H' acc' c' ps',Inv X pins σ H' s'→Same H H'→s'.heap.get? S=some { cls:=.type "list",data:=.seq acc' c' }→acc'.toList=ps'.map .ref→ps'.length=xs.length→PairsH H' xs ys ps'→R (.ok (.ret res)) s') :
  codeAny (model prog w) A (.builtin "list.extend.loop" ⟨[.ref S,.ref z,res],[]⟩) R s:=by
 have hin:∀ b∈[z,TI,TO,i1,i2,S],∃ o,s.heap.get? b=some o:=fun b hb=>by
  obtain ⟨o4,e4,_⟩:=h1
  obtain ⟨o5,e5,_⟩:=h2
  simp only [List.mem_cons,List.not_mem_nil,or_false] at hb
  rcases hb with rfl | rfl | rfl | rfl | rfl | rfl
  ·exact ⟨_,hz⟩
  ·exact ⟨_,hTI⟩
  ·exact ⟨_,hTO⟩
  ·exact ⟨_,e4⟩
  ·exact ⟨_,e5⟩
  ·exact ⟨_,hS⟩
 obtain ⟨its1,r1,p1,_⟩:=I.list g1
 obtain ⟨its2,r2,p2,_⟩:=I.list g2
 have e1:xs[0]?=some (xs[0]'(by omega)):=List.getElem?_eq_getElem (by omega)
 have e2:ys[0]?=some (ys[0]'(by omega)):=List.getElem?_eq_getElem (by omega)
 obtain ⟨u1,hu1,ru1⟩:=r1.get e1
 obtain ⟨u2,hu2,ru2⟩:=r2.get e2
 refine codeAny_builtin F.entry_extend_loop ?_
 rw [Around.under_plainId F.plain_extend_loop _]
 show wpAny _ A.in1 (pyNext (.ref z)>>=_) _ _ s
 refine wpAny_bind (wpAny_pyNext_zip_item D hz hTI hTO h1 h2 p1.isList p2.isList (by simpa using hu1) (by simpa using hu2) fun h' b1 bTO b3 b4 np hsize kp=>?_)
 have hS':=kp _ _ Sz S4 S1 S2 hS
 refine wpAny_bind (listUpdate_at hS' rfl ?_ (by simp) (by simp))
 refine wpAny_pure ⟨plainId_quiet F.plain_extend_loop _,?_⟩
 obtain ⟨h2',eh2⟩:∃ h2',h2'=h'.update S (Obj.mapSeq fun x=>x.push (.ref s.heap.objs.size)):=⟨_,rfl⟩
 have hS2:h2'.get? S=some { cls:=.type "list",data:=.seq #[.ref s.heap.objs.size] (c + 1) }:=by
  rw [eh2,Heap.get?_update_self _ hS' rfl]
  simp [Obj.mapSeq]
 have sb:Heap.SameBut S h' h2':=by rw [eh2]; exact Heap.SameBut.update ..
 rw [← eh2]
 have lt:∀ b∈[z,TI,TO,i1,i2,S],b≠s.heap.objs.size:=fun b hb=>by
  obtain ⟨o,ho⟩:=hin b hb
  exact Nat.ne_of_lt (Heap.lt_size ho)
 have nS:=lt S (by simp)
 have kp2:∀ b o,b ∉ [z,TI,TO,i1,i2,S]→s.heap.get? b=some o→h2'.get? b=some o:=fun b o hb e=>by
  simp only [List.mem_cons,List.not_mem_nil,or_false,not_or] at hb
  exact sb.extBut _ _ hb.2.2.2.2.2 (kp b o hb.1 hb.2.2.1 hb.2.2.2.1 hb.2.2.2.2.1 e)
 have np2:=sb.extBut _ _ (Ne.symm nS) np
 obtain ⟨I2,hf2⟩:=zaj2 (t':=s.toks) I hf hin ru1 ru2 np2 kp2
 have sm:Same H (upd H s.heap.objs.size (.tup [xs[0]'(by omega),ys[0]'(by omega)])):=zc6 (I.hok.fresh (Nat.le_refl _))
 have bz:ZH h2' z TI TO s.heap.objs.size false:=sb.extBut _ _ (Ne.symm Sz) b1
 have bTI:=sb.extBut _ _ (Ne.symm S3) (kp _ _ D.TIz D.TITO D.TIi1 D.TIi2 hTI)
 refine zas3 hh D Sz S1 S2 S3 S4 hl hsz (xs.length - 1) 1 { s with heap:=h2' } _ #[.ref s.heap.objs.size] (c + 1) [s.heap.objs.size] s.heap.objs.size false (by omega) I2 hf2 (fun b hb=>?_) bz ⟨_,np2⟩ (Ne.symm (lt z (by simp))) (Ne.symm (lt i1 (by simp))) (Ne.symm (lt i2 (by simp))) (Ne.symm nS) bTI (b3.at fun o e=>sb.extBut _ _ (Ne.symm S1) e) (b4.at fun o e=>sb.extBut _ _ (Ne.symm S2) e) (sm.seq g1) (sm.seq g2) hS2 rfl rfl ?_ fun s' H' acc' c' ps' a1 a2 a3 a4 a5 a6=>hR s' H' acc' c' ps' a1 (fun b o e=>a2 _ _ (sm b o e)) a3 a4 a5 a6
 ·simp only [List.mem_cons,List.not_mem_nil,or_false] at hb
  rcases hb with rfl | rfl | rfl | rfl | rfl | rfl
  ·exact ⟨_,bz⟩
  ·exact ⟨_,bTI⟩
  ·exact ⟨_,sb.extBut _ _ (Ne.symm S4) bTO⟩
  ·obtain ⟨o,ho,_⟩:=b3
   exact ⟨o,sb.extBut _ _ (Ne.symm S1) ho⟩
  ·obtain ⟨o,ho,_⟩:=b4
   exact ⟨o,sb.extBut _ _ (Ne.symm S2) ho⟩
  ·exact ⟨_,hS2⟩
 ·exact PairsH.snoc (ps:=[]) (fun j p q=>by simp at q) e1 e2 zc5
structure ZNew (X:Cx) (pins:List (Addr×Obj)) (σ:L2.St) (H:Hp) (s:Shared) (z TI TO i1 i2 l1 l2:Addr) (xs ys:List V):Prop where
 D:ZipApart z TI TO i1 i2 l1 l2
 hl:ys.length=xs.length
 hsz:xs.length≤1000
 h0:0 < xs.length
 I:Inv X pins σ H s
 hf:∀ b∈[z,TI,TO,i1,i2],FpOk X pins H b
 hz:IsZip s.heap z TI TO .none
 hTI:IsPair s.heap TI (.ref i1) (.ref i2)
 hTO:IsPair s.heap TO .none .none
 h1:s.heap.IsListIter i1 l1 0
 h2:s.heap.IsListIter i2 l2 0
 g1:SqL X.K H l1 xs
 g2:SqL X.K H l2 ys
theorem zao2 {prog:Program} {w:World} {A:Around} {E:Value→Shared→Prop} {Q:List Value→Shared→Prop} {H:Hp} {s:Shared} {z TI TO i1 i2 l1 l2:Addr} {xs ys:List V} (hh:A.handled=none) (N:ZNew X pins σ H s z TI TO i1 i2 l1 l2 xs ys)
  (hQ:∀ s' H' (acc:Array Value) ps',Inv X pins σ H' s'→Same H H'→acc.toList=ps'.map .ref→ps'.length=xs.length→PairsH H' xs ys ps'→Q acc.toList s'):wpAny (model prog w) A (collect (.ref z)) Q E s:=by
 obtain ⟨D,hl,hsz,h0,I,hf,hz,hTI,hTO,h1,hb2,g1,g2⟩:=N
 unfold collect
 refine wpAny_bind (wpAny_runValue (codeAny_builtin F.entry_proto_collect ?_)); rw [Around.under_plainId F.plain_proto_collect _]
 show wpAny _ A.in1 (newList []>>=fun l=>again (.builtin "list.__iadd__" ⟨[l,.ref z],[]⟩)) _ _ s
 refine wpAny_bind (wpAny_newObj_type (wpAny_pure ⟨plainId_quiet F.plain_list_iadd _,codeAny_builtin F.entry_list_iadd ?_⟩)); rw [Around.under_plainId F.plain_list_iadd _]
 show wpAny _ A.in1 (Builtin.List.listExtendWith (.ref s.heap.objs.size) (.ref z) (.ref s.heap.objs.size)) _ _ _
 have hS:(s.heap.push { cls:=.type "list",data:=.seq ([]:List Value).toArray }).get? s.heap.objs.size=some { cls:=.type "list",data:=.seq #[] 0 }:=Heap.get?_push_size _ rfl
 have lt:∀ {c o},s.heap.get? c=some o→s.heap.objs.size≠c:=fun e=>Ne.symm (Nat.ne_of_lt (Heap.lt_size e))
 have hz':IsZip (s.heap.push { cls:=.type "list",data:=.seq ([]:List Value).toArray }) z TI TO .none:=Heap.get?_push_of_some _ hz
 unfold Builtin.List.listExtendWith
 refine wpAny_bind (wpAny_typeOf (T:="zip") ⟨_,hz',rfl⟩ ?_)
 have nz:s.heap.objs.size≠z:=lt hz
 rw [if_neg (by simp [Builtin.List.listSameRef,nz])]
 refine wpAny_bind (wpAny_pyIter_zip hz' ?_)
 refine wpAny_bind (wpAny_holding (zaI9 ⟨_,hz',rfl⟩ ?_))
 rw [Bool.true_or,if_pos rfl]
 refine wpAny_bind (wpAny_rule (wpAny_bind ?_))
 unfold Builtin.List.listTouch
 refine wpAny_bind (listUpdate_at hS rfl ?_ (by simp) (by simp))
 have hS1:((s.heap.push { cls:=.type "list",data:=.seq ([]:List Value).toArray }).update s.heap.objs.size (Obj.mapSeq fun x=>x.push .none)).get? s.heap.objs.size=some { cls:=.type "list",data:=.seq #[.none] 1 }:=by
  rw [Heap.get?_update_self _ hS rfl]
  simp [Obj.mapSeq]
 refine listUpdate_at hS1 rfl ?_ (by simp; rw [sizeLine_eq]; decide) (by simp)
 obtain ⟨h2,eh2⟩:∃ h2,h2=((s.heap.push { cls:=.type "list",data:=.seq ([]:List Value).toArray }).update s.heap.objs.size (Obj.mapSeq fun x=>x.push .none)).update s.heap.objs.size (Obj.mapSeq fun x=>x.pop):=⟨_,rfl⟩
 have hS2:h2.get? s.heap.objs.size=some { cls:=.type "list",data:=.seq #[] 2 }:=by
  rw [eh2,Heap.get?_update_self _ hS1 rfl]
  simp [Obj.mapSeq]
 have kp:∀ b o,s.heap.get? b=some o→h2.get? b=some o:=fun b o e=>by
  rw [eh2]
  exact (Heap.SameBut.update ..).extBut _ _ (Ne.symm (lt e)) ((Heap.SameBut.update ..).extBut _ _ (Ne.symm (lt e)) (Heap.get?_push_of_some _ e))
 show wpAny _ A.in1 (again _) _ _ { s with heap:=_ }
 rw [← eh2]
 refine wpAny_pure ⟨plainId_quiet F.plain_extend_loop _,?_⟩
 obtain ⟨o4,e4,_⟩:=id h1
 obtain ⟨o5,e5,_⟩:=id hb2
 refine zaE0 (X:=X) (pins:=pins) (σ:=σ) (s:={ s with heap:=h2 }) hh D nz (lt e4) (lt e5) (lt hTI) (lt hTO) hl hsz h0 (I.kept (t':=s.toks) kp) (fun b hb=>?_) (kp _ _ hz) (kp _ _ hTI) (kp _ _ hTO) (h1.at fun o e=>kp _ _ e) (hb2.at fun o e=>kp _ _ e) g1 g2 hS2 fun s' H' acc' c' ps' a1 a2 a3 a4 a5 a6=>?_
 ·rcases List.mem_append.mp (show b∈[z,TI,TO,i1,i2]++[s.heap.objs.size] from hb) with q | q
  ·exact hf b q
  ·rw [List.mem_singleton.mp q]
   exact I.fpOk (Nat.le_refl _) (I.hok.fresh (Nat.le_refl _))
 ·show wpAny _ A (load s.heap.objs.size>>=_) _ _ _
  exact wpAny_bind (wpAny_load a3 (wpAny_pure (hQ s' H' acc' ps' a1 a2 a4 a5 a6)))
end
end DL
namespace DL
open PySem PySem.Spec PyProof.Rows L2
open AutoSeq1 (wpAny_loadPart')
section
variable {X:Cx} {pins:List (Addr×Obj)} {σ:L2.St}
theorem zaf7 (H:Hp) (z TI TO i1 i2 l1 l2:Addr) (xs ys:List V):Meets (Builtin.«tuple.__new__» ⟨[.type "tuple",.ref z],[]⟩)
  (fun A R s=>A.handled=none∧ZNew X pins σ H s z TI TO i1 i2 l1 l2 xs ys∧∀ (s':Shared) (H':Hp) (acc:Array Value) (ps':List Addr),Inv X pins σ H' s'→Same H H'→acc.toList=ps'.map .ref→ps'.length=xs.length→PairsH H' xs ys ps' →
   R (.ok (.ret (.ref s'.heap.objs.size))) { s' with heap:=s'.heap.push { cls:=.type "tuple",data:=.seq acc } }) :=
 .of_wp fun prog w A R s hs=>by
  obtain ⟨hh,N,h⟩:=hs
  have hr:=N.hz
  have hT:s.TypeIs (.ref z) "zip":=⟨_,hr,rfl⟩
  have h10:=N.hsz
  obtain ⟨hp,g,d,tk,os⟩:=s
  have hsub:=sub_tuple_self
  have hinit:=init_tuple_lookup
  have hmh:=madeHere_tuple
  wp_walk using wpAny_loadPart' hr,wpAny_typeOf hT,zao2 (A:=A.in1) hh N
  intro s' H' acc ps' a1 a2 a3 a4 a5
  show wpAny _ _ (Builtin.Tuple.tupleExact acc.toList.toArray>>=fun v=>ret v) _ _ _
  unfold Builtin.Tuple.tupleExact
  have e:acc.toList.toArray=acc:=by simp
  rw [e]
  have hs:acc.size=xs.length:=by
   have:=congrArg List.length a3
   rw [List.length_map,a4] at this
   simpa using this
  exact wpAny_bind (wpAny_newObj_type (wpAny_pure ⟨_,rfl,h s' H' acc ps' a1 a2 a3 a4 a5⟩) (show acc.size≤sizeLine by rw [hs,sizeLine_eq]; omega))
theorem zag4 {A:Around} {E:Value→Shared→Prop} {prog:Program} {w:World} {H:Hp} {s:Shared} {z TI TO i1 i2 l1 l2:Addr} {xs ys:List V} {Q:Value→Shared→Prop} (hh:A.handled=none) (N:ZNew X pins σ H s z TI TO i1 i2 l1 l2 xs ys)
  (h:∀ (s':Shared) (H':Hp) (acc:Array Value) (ps':List Addr),Inv X pins σ H' s'→Same H H'→acc.toList=ps'.map .ref→ps'.length=xs.length→PairsH H' xs ys ps'→Q (.ref s'.heap.objs.size) { s' with heap:=s'.heap.push { cls:=.type "tuple",data:=.seq acc } }) :
  wpAny (model prog w) A (call (.type "tuple") [.ref z]) Q E s :=
 callType_new F.called_tuple (by decide) (F.typeCall_tuple_1 _) (F.newCall_tuple_1 _) (fun obj=>F.args_object_init_2 obj _) F.entry_tuple_new (zaf7 (X:=X) (pins:=pins) (σ:=σ) H z TI TO i1 i2 l1 l2 xs ys) ⟨hh,N,fun s' H' acc ps' a1 a2 a3 a4 a5=>⟨⟨_,Heap.get?_push_size _ rfl,rfl⟩,h s' H' acc ps' a1 a2 a3 a4 a5⟩⟩
end
theorem zaj9 {K:PySem.W.Frag} {Z:Addr→Prop} {m:Mu} {H H':Hp} (e:Ext K Z m H m H'):∀ {qs rs:List PyData} {xs ys:List V} {ps:List Addr},RPs K Z m H qs xs→RPs K Z m H rs ys→rs.length=qs.length→ps.length=qs.length→PairsH H' xs ys ps→RPs K Z m H' ((qs.zip rs).map fun z=>.tuple [z.1,z.2]) (ps.map V.ref)
 | [],[],_,_,ps,h,g,_,hl,_=>by
  have:ps=[]:=List.length_eq_zero_iff.mp hl
  subst this
  simp [RPs]
 | q :: qs,r :: rs,xs,ys,p :: ps,h,g,h1,h2,hp=>by
  simp only [RPs] at h g
  obtain ⟨x,xs',rfl,a1,a2⟩:=h
  obtain ⟨y,ys',rfl,b1,b2⟩:=g
  obtain ⟨x0,y0,c1,c2,c3⟩:=hp 0 p rfl
  cases c1
  cases c2
  simp only [List.zip_cons_cons,List.map_cons,RPs]
  refine ⟨_,_,rfl,?_,zaj9 e a2 b2 (by simpa using h1) (by simpa using h2) fun j a q=>?_⟩
  ·simp only [RP,RPs]
   exact ⟨p,[x,y],rfl,.inl (.inl c3),_,_,rfl,RP.ext e _ _ a1,_,_,rfl,RP.ext e _ _ b1,rfl⟩
  ·have:=hp (j + 1) a (by simpa using q)
   simpa using this
 | [],_ :: _,_,_,_,_,_,h1,_,_=>by simp at h1
 | _ :: _,[],_,_,_,_,_,h1,_,_=>by simp at h1
 | _ :: _,_ :: _,_,_,[],_,_,_,h2,_=>by simp at h2
section
variable {X:Cx} {a b:Expr} {f g:DE} {pos p p2 pos2:Pos}
@[simp] def zan5 (f g:DE):DE:=fun d m Q=>f d m fun x m1=>g d m1 fun y m2=>∃ qs rs,x=.dat (.list qs)∧y=.dat (.list rs)∧rs.length=qs.length∧0 < qs.length∧qs.length≤1000∧Q (.dat (.tuple ((qs.zip rs).map fun z=>.tuple [z.1,z.2]))) m2
theorem zaz1 (hc:X.calm=true) (hg:Gl X "tuple") (hm:X.mg "tuple"=none) (hg2:Gl X "zip") (hm2:X.mg "zip"=none) (ha:PE X a (LE X.K f)) (hb:PE X b (LE X.K g)) (hs:starEach [a,b] X.env=[(false,eval a X.env),(false,eval b X.env)]:=by rfl) (hs2:starEach [b] X.env=[(false,eval b X.env)]:=by rfl)
  (hs3:starEach [.Call (.Name "zip" p2) [a,b] [] pos2] X.env=[(false,eval (.Call (.Name "zip" p2) [a,b] [] pos2) X.env)]:=by rfl):PE X (.Call (.Name "tuple" p) [.Call (.Name "zip" p2) [a,b] [] pos2] [] pos) (LE X.K (zan5 f g)):=by
 intro pins s σ H Q I h
 obtain ⟨Z,d,m,R,ok,rs,h,k⟩:=h
 have hA:=zU0 (X:=X) ha (zU0 hb zaC1 (by rw [hs2]; rfl)) (by rw [hs,hs2]) pos2 pins s σ H (fun vs H1=>∃ a1 a2 xs ys qs rs m1,vs=[.ref a1,.ref a2]∧SqL X.K H1 a1 xs∧SqL X.K H1 a2 ys∧RPs X.K Z m1 H1 qs xs∧RPs X.K Z m1 H1 rs ys∧rs.length=qs.length∧0 < qs.length∧qs.length≤1000 ∧
   R (.dat (.tuple ((qs.zip rs).map fun z=>.tuple [z.1,z.2]))) m1∧Ext X.K Z m H m1 H1∧Ok X.K Z m1 H1) I ⟨Z,d,m,fun ds m1=>match ds with | [x,y]=>∃ qs rs,x=.dat (.list qs)∧y=.dat (.list rs)∧rs.length=qs.length∧0 < qs.length∧qs.length≤1000∧R (.dat (.tuple ((qs.zip rs).map fun z=>.tuple [z.1,z.2]))) m1 | _=>False,ok,rs,h,fun xs m1 vs H1 q e1 ok1 rd=>?_⟩
 ·refine Call_ (zP2 I hg hm zl4 (PyProof.Rows.callWith_type1 ?_ hs3 rfl))
  rw [hs3]
  show wpAny _ _ (spliced ((false,eval (.Call (.Name "zip" p2) [a,b] [] pos2) X.env) :: [])) _ _ s
  refine Calls.spliced_cons (Call_ (zP2 I hg2 hm2 zai9 (PyProof.Rows.callWith_type1 (thn hA fun us s1 ⟨vs,H1,I1,r1,q1⟩=>?_) (by rw [hs,hs2]) (by rw [hs2]; rfl))))
  obtain ⟨a1,a2,xs,ys,qs,rs,m1,e,h1,h2,rp,rq,n1,n2,n3,q,e1,ok1⟩:=q1
  subst e
  obtain ⟨u1,u2,rfl,ru1,ru2⟩:=zaS1 r1
  cases ru1
  cases ru2
  obtain ⟨its1,rv1,pt1,l1⟩:=I1.list h1
  obtain ⟨its2,rv2,pt2,l2⟩:=I1.list h2
  refine call_zip_2 pt1.isList pt2.isList fun h' b1 b2 b3 b4 b5 hsize kp=>?_
  refine Calls.spliced_nil ?_
  obtain ⟨n,hn⟩:∃ n,n=s1.heap.objs.size:=⟨_,rfl⟩
  rw [← hn] at b1 b2 b3 b4 b5 ⊢
  have D:ZipApart (n + 4) (n + 2) (n + 3) n (n + 1) a1 a2:=zaM9 n a1 a2 (by obtain ⟨o,ho,_⟩:=pt1.isList; rw [hn]; exact Heap.lt_size ho) (by obtain ⟨o,ho,_⟩:=pt2.isList; rw [hn]; exact Heap.lt_size ho)
  have lx:=rp.length
  have ly:=rq.length
  have N:ZNew X pins σ H1 { s1 with heap:=h' } (n + 4) (n + 2) (n + 3) n (n + 1) a1 a2 xs ys:=by
   refine ⟨D,by omega,by omega,by omega,I1.kept (t':=s1.toks) kp,fun c hc=>?_,b1,b2,b3,b4,b5,h1,h2⟩
   have hle:s1.heap.objs.size≤c:=by
    simp only [List.mem_cons,List.not_mem_nil,or_false] at hc
    subst hn
    rcases hc with rfl | rfl | rfl | rfl | rfl
    ·exact Nat.le_add_right _ 4
    ·exact Nat.le_add_right _ 2
    ·exact Nat.le_add_right _ 3
    ·exact Nat.le_refl _
    ·exact Nat.le_add_right _ 1
   exact I1.fpOk hle (I1.hok.fresh hle)
  refine zag4 (I1.ok.hd hc) N fun s' H' acc ps' c1 c2 c3 c4 c5=>?_
  have hp:H' s'.heap.objs.size=none:=c1.hok.fresh (Nat.le_refl _)
  have sm:Same H' (upd H' s'.heap.objs.size (.tup (ps'.map V.ref))):=zc6 hp
  have sm1:Same H1 (upd H' s'.heap.objs.size (.tup (ps'.map V.ref))):=fun b o e=>sm _ _ (c2 b o e)
  have hv:Vals (ps'.map V.ref) acc.toList:=by
   rw [c3]
   clear c3 c4 c5 sm sm1
   induction ps' with
   | nil=>exact .nil
   | cons p ps ih=>exact .cons rfl ih
  refine ⟨.ref s'.heap.objs.size,_,c1.laid (t':=s'.toks) (o:=.tup (ps'.map V.ref)) (fun b o q=>Heap.get?_push_of_some _ q) (Nat.le_refl _) ⟨⟨by rw [List.length_map,c4,sizeLine_eq]; omega,NoD.new _ _ _⟩,acc.toList,hv,by simpa using IsTup.new _ _⟩,rfl,k _ m1 _ _ q (e1.trans (ok1.ext sm1)) (ok1.grow sm1) ?_⟩
  simp only [RD,RP]
  exact ⟨_,_,rfl,.inl (.inl zc5),zaj9 (ok1.ext sm1) rp rq n1 (by omega) (c5.same sm)⟩
 ·match xs,q,rd with
  | [],q,_=>exact q.elim
  | [_],q,_=>exact q.elim
  | _ :: _ :: _ :: _,q,_=>exact q.elim
  | [x,y],q,rd =>
  obtain ⟨qs,rs,rfl,rfl,n1,n2,n3,q⟩:=q
  obtain ⟨v,w,rfl,g1,g2⟩:=rd.two
  simp only [RD,RP] at g1 g2
  obtain ⟨a1,xs,rfl,_,h1,h2⟩:=g1
  obtain ⟨a2,ys,rfl,_,h3,h4⟩:=g2
  exact ⟨a1,a2,xs,ys,qs,rs,m1,rfl,h1,h3,h2,h4,n1,n2,n3,q,e1,ok1⟩
end
end DL
namespace DL
open PySem PySem.Spec PyProof.Rows L2
section
variable {X:Cx} {o e:Expr} {f g:DE}
@[simp] def aInC:D2
 | .dat (.str x),.cel c,m,Q=>∃ zs:List Str,m c=some (.l (zs.map .str))∧Q (.dat (.bool (decide (x∈zs)))) m
 | _,_,_,_=>False
theorem zbb8:OpD X (compareOp .In) aInC:=by
 intro pins s σ H Z m x y dx dy v u R Q I ok rx ry r1 r2 h k
 unfold aInC at h
 split at h
 ·obtain ⟨zs,hm,q⟩:=h
  cases r1.str
  obtain ⟨rfl,_⟩:=r2
  obtain ⟨vs,h1,h2⟩:=ok.l hm
  cases zp9 h2
  refine zt4 pins s σ H _ _ v u Q I rx ry ⟨_,_,rfl,.inl (.inl (.inl h1)),rfl,zU9 zs,?_⟩
  rw [if_neg Bool.false_ne_true,zS9]
  exact k _ m _ H q Ext.refl ok .ofBl
 ·exact h.elim
@[simp] def zaW8:D2
 | .cel c,.dat (.int k),m,Q=>∃ xs,m c=some (.l xs)∧0≤k∧k≤1000∧xs.length * k.toNat≤sizeLine∧Q (.dat (.list (List.replicate k.toNat xs).flatten)) m
 | _,_,_,_=>False
theorem zay4 {K:PySem.W.Frag} {Z:Addr→Prop} {m:Mu} {H:Hp} {xs:List PyData} {vs:List V} (h:RPs K Z m H xs vs):∀ n:Nat,RPs K Z m H (List.replicate n xs).flatten (List.replicate n vs).flatten
 | 0=>by simp [RPs]
 | n + 1=>by
  rw [List.replicate_succ,List.replicate_succ,List.flatten_cons,List.flatten_cons]
  exact h.append (zay4 h n)
theorem zaR9:OpD X (binaryOp .Mult) zaW8:=by
 intro pins s σ H Z m x y dx dy v u R Q I ok rx ry r1 r2 h k
 unfold zaW8 at h
 split at h
 ·rename_i c kk
  obtain ⟨xs,hm,k0,k1,hz,q⟩:=h
  obtain ⟨rfl,_⟩:=r1
  cases r2.int
  obtain ⟨vs,h1,h2⟩:=ok.l hm
  refine zbb7 pins s σ H _ _ v u Q I rx ry ⟨_,_,vs,rfl,rfl,h1,by omega,by omega,by rw [h2.length]; exact hz,fun p hp=>?_⟩
  have sm:Same H (upd H p (.lst (List.replicate kk.toNat vs).flatten)):=zc6 hp
  refine k _ m _ _ q (ok.ext sm) (ok.grow sm) ?_
  simp only [RD,RP]
  exact ⟨p,_,rfl,zn6 ok hp,.inl (.inl zc5),RPs.ext (ok.ext sm) _ _ (zay4 h2 _)⟩
 ·exact h.elim
@[simp] def dExt (fo g:DE):DE:=fun d m Q=>fo d m fun o m1=>∃ c,o=.cel c∧(∃ ys,m1 c=some (.l ys))∧g d m1 fun x m2=>∃ xs ys b,x=.cel b∧m2 c=some (.l xs)∧m2 b=some (.l ys)∧xs.length + ys.length≤sizeLine∧Q (.dat .none) (updM m2 c (.l (xs++ys)))
theorem zbb4 {apos cpos:Pos} (ho:PE X o (LE X.K f)) (he:PE X e (LE X.K g)) (hbase:attributeBase o "extend" X.env (eval o X.env)=eval o X.env:=by rfl)
  (hfew:((backTo cpos (starEach [e] X.env)).all (fun x=>!x.1) && (backToKw cpos (keywordEach [] X.env)).all (fun x=>x.1.isSome) && decide ([e].length + ([]:List Keyword).length + (if ([]:List Keyword).isEmpty then 0 else 1) < 30))=true:=by rfl)
  (hline:(apos.endLine == cpos.line)=true:=by rfl) (hs:starEach [e] X.env=(false,eval e X.env) :: starEach [] X.env:=by rfl):PE X (.Call (.Attribute o "extend" apos) [e] [] cpos) (LE X.K (dExt f g)) :=
 PE.imp (zaX8 (T:="list") (id:="list.extend") (name:="extend") PySem.F.plainAttrs_list PySem.F.slot_list_extend PySem.F.type_list_extend zaE8 ho (zI1 he zZ3 hs) hbase hfew hline hs rfl) fun s H Q h=>by
  obtain ⟨Z,d,m,R,ok,rs,h,k⟩:=h
  refine ⟨Z,d,m,_,ok,rs,h,fun x m1 v H1 ⟨c,ex,⟨xs0,hx0⟩,q⟩ e1 ok1 rd=>?_⟩
  subst ex
  obtain ⟨rfl,hc⟩:=rd
  obtain ⟨vs0,g0,_⟩:=ok1.l hx0
  refine ⟨.inl ⟨rfl,vs0,.inl (.inl g0)⟩,Z,d,m1,_,ok1,rs.ext e1,q,fun y m2 w H2 ⟨xs,ys,b,ey,hm,hm2,hz,q2⟩ e2 ok2 rd2=>?_⟩
  subst ey
  obtain ⟨rfl,_⟩:=rd2
  obtain ⟨vs,g1,g2⟩:=ok2.l hm
  obtain ⟨ws,g3,g4⟩:=ok2.l hm2
  refine ⟨c,b,vs,ws,rfl,rfl,g1,g3,by rw [g2.length,g4.length]; exact hz,?_⟩
  exact k _ _ _ _ q2 (e1.trans (e2.trans (Ext.put ok2 hm g1))) (ok2.put hm g1 (show RPs _ _ _ _ _ _ from g2.append g4)) (by simp only [RD,RP])
end
end DL
namespace DL
open PySem PySem.Spec PyProof.Rows L2
section
variable {K:PySem.W.Frag} {Z:Addr→Prop} {m m1:Mu} {H H1:Hp}
theorem Ok.off {a:Addr} (ok:Ok K Z m H):Ok K Z (offM m a) H :=
 ⟨fun b c h=>by
  unfold offM at h
  split at h
  ·cases h
  ·obtain ⟨o,h1,h2⟩:=ok.g b c h
   exact ⟨o,h1,h2.lift fun p v q=>RP.tr (fun _ _ q=>q) (fun b ws q1 q2=>⟨⟨zS4 q1.1,q1.2⟩,q2⟩) p v q⟩,fun b hz=>⟨zS4 (ok.z b hz).1,(ok.z b hz).2⟩⟩
theorem Ext.off {a:Addr} (e:Ext K Z m H m1 H1) (h:m a=none):Ext K Z m H (offM m1 a) H1 :=
 ⟨e.t,fun b vs h1 h2=>let ⟨q1,q2⟩:=e.l b vs h1 h2; ⟨zS4 q1,q2⟩,e.z,fun b hb=>by
  unfold offM
  split
  ·rename_i q; rw [q,h] at hb; cases hb
  ·exact e.c b hb⟩
end
section
variable {X:Cx} {e:Expr} {f:DE}
end
end DL
namespace DL
open PySem PySem.Spec PyProof.Rows L2
section
variable {X:Cx} {pos:Pos}
@[simp] def dPs:List (DE×DE)→St2→Mu→(List (Key×PyData)→Mu→Prop)→Prop
 | [],_,m,Q=>Q [] m
 | (fk,fv) :: r,d,m,Q=>fk d m fun x m1=>∃ k,keyD x=some k∧fv d m1 fun y m2=>∃ p,y=.dat p∧dPs r d m2 fun kvs m3=>Q ((k,p) :: kvs) m3
theorem zaO4 {K:PySem.W.Frag} {Z:Addr→Prop}:∀ {ps:List (DE×DE)} {d:St2} {m:Mu} {s:L2.St} {H:Hp} {R:List (Key×PyData)→Mu→Prop} {Q:List (V×V)→Hp→Prop},Ok K Z m H→RS K Z m H d s→dPs ps d m R →
  (∀ kvs m' vs H',R kvs m'→Ext K Z m H m' H'→Ok K Z m' H'→RKV K Z m' H' kvs vs→Q (vs.map fun kv=>(kV kv.1,kv.2)) H')→zas1 (ps.map fun z=>(LE K z.1,LE K z.2)) s H Q
 | [],d,m,s,H,R,Q,ok,rs,h,k=>k [] m [] H h Ext.refl ok rfl
 | (fk,fv) :: r,d,m,s,H,R,Q,ok,rs,h,k=>by
  refine ⟨Z,d,m,_,ok,rs,h,fun x m1 v H1 q e1 ok1 r1=>?_⟩
  obtain ⟨ky,hk,q⟩:=q
  cases r1.key hk
  refine ⟨Z,d,m1,_,ok1,rs.ext e1,q,fun y m2 w H2 q2 e2 ok2 r2=>?_⟩
  obtain ⟨p,rfl,q2⟩:=q2
  refine zaO4 ok2 ((rs.ext e1).ext e2) q2 fun kvs m3 vs H3 q3 e3 ok3 rk=>?_
  exact k ((ky,p) :: kvs) m3 ((ky,w) :: vs) H3 q3 (e1.trans (e2.trans e3)) ok3 ⟨w,vs,rfl,RP.ext e3 _ _ r2,rk⟩
@[simp] def zaG6 (ps:List (DE×DE)):DE:=fun d m Q=>∀ p,m p=none→dPs ps d (updM m p (.d [])) fun kvs m2=>m2 p=some (.d [])∧kvs.length≤15∧Q (.cel p) (updM m2 p (.d (zw6 [] kvs)))
def PD (X:Cx) (pos:Pos) (keys:List (Option Expr)) (values:List Expr) (ps:List (DE×DE)):Prop:=PPs X pos keys values (ps.map fun z=>(LE X.K z.1,LE X.K z.2))
theorem zaZ7:PD X pos [] [] []:=zaV7
theorem zaT7 {k v:Expr} {ks:List (Option Expr)} {vs:List Expr} {fk fv:DE} {ps:List (DE×DE)} (hk:PE X k (LE X.K fk)) (hv:PE X v (LE X.K fv)) (hr:PD X pos ks vs ps):PD X pos (some k :: ks) (v :: vs) ((fk,fv) :: ps):=zaK9 hk hv hr
theorem zaU7 {keys:List (Option Expr)} {values:List Expr} {ps:List (DE×DE)} (h:PD X pos keys values ps) (hall:keys.all (·.isSome)=true:=by rfl) (hl:keys.length=values.length:=by rfl) (h0:keys≠[]:=by exact List.cons_ne_nil _ _)
  (h15:keys.length≤15:=by decide):PE X (.Dict keys values pos) (LE X.K (zaG6 ps)):=by
 intro pins s σ H Q I q
 obtain ⟨Z,d,m,R,ok,rs,hd,k⟩:=q
 have hn:=I.hok.fresh (Nat.le_refl s.heap.objs.size)
 have hk:X.K.lookup s.heap.objs.size=none:=by
  cases e:X.K.lookup s.heap.objs.size with
  | none=>rfl
  | some o=>exact absurd (Heap.lt_size (I.kIn _ o e)) (Nat.lt_irrefl _)
 have e0:=Ext.cell (c:=.d []) (o:=.dK []) ok hn hk
 have I1:=I.laid (a:=s.heap.objs.size) (o:=.dK []) (h':=s.heap.push { cls:=.type "dict",data:=.dict #[] }) (t':=s.toks) (fun _ _ q=>Heap.get?_push_of_some _ q) (Nat.le_refl _) (zaG3 s.heap I.big)
 have run:zas1 (ps.map fun z=>(LE X.K z.1,LE X.K z.2)) σ (upd H s.heap.objs.size (.dK [])) fun ps H2=>H2 s.heap.objs.size=some (.dK [])∧∃ kvs:List (Key×V),ps=kvs.map (fun kv=>(kV kv.1,kv.2))∧kvs.length≤15∧Q (.ref s.heap.objs.size) (upd H2 s.heap.objs.size (.dK (zQ7 [] kvs))):=by
  refine zaO4 (ok.cell (c:=.d []) (o:=.dK []) hn hk (show RKV (κ:=Key) X.K Z m H [] [] from rfl)) (rs.ext e0) (hd _ (zn6 ok hn).1) fun kvs m2 vs H2 q2 e2 ok2 rk=>?_
  obtain ⟨hm,hlen,q⟩:=q2
  obtain ⟨ws,g1,g2⟩:=ok2.d hm
  cases (show ws=[] from g2)
  exact ⟨g1,vs,rfl,by rw [rk.length]; exact hlen,k _ _ _ _ q (e0.trans (e2.trans (Ext.put ok2 hm g1))) (ok2.put hm g1 (show RKV _ _ _ _ _ _ from RKV.puts (acc:=[]) (aw:=[]) rfl rk)) ⟨rfl,by rw [zb1]; rfl⟩⟩
 refine wpAny_Dict_walk (knd:=zd2 X.prog X.w) hall hl h0 h15 (thn (h pins _ σ _ _ I1 run) fun ws s2 ⟨ps,H2,I2,rel,e,kvs,ep,lk,q2⟩=>?_)
 subst ep
 obtain ⟨rs,c,rk⟩:=zaa3 (P:=X.prog) (w:=X.w) rel
 obtain ⟨z,hd,vs0,r0,dd⟩:=zaJ7 I2.hok e
 cases r0
 refine ⟨rs,c,dd,fun h' dd' hs=>⟨.ref s.heap.objs.size,_,?_,rfl,q2⟩⟩
 have hz:(zQ7 [] kvs).length≤sizeLine:=by
  have h1:=zz0 kvs []
  rw [List.length_nil] at h1
  rw [sizeLine_eq]; omega
 have he:∃ q,h'.get? s.heap.objs.size=some q:=let ⟨q,_,_,hq,_⟩:=dd'; ⟨q,hq⟩
 exact zab2 I2 (by rw [e]; exact True.intro) hs he (zaC8 hz hd (rk.merge .nil) dd')
@[simp] def zao1:D2
 | x,.cel c,m,Q=>∃ k kvs,keyD x=some k∧m c=some (.d kvs)∧Q (.dat (.bool (!(valP kvs k).isSome))) m
 | _,_,_,_=>False
theorem zaL0 {K:PySem.W.Frag} {Z:Addr→Prop} {m:Mu} {H:Hp} {k:Key} {kvs:List (Key×PyData)} {vs:List (Key×V)} (h:RKV K Z m H kvs vs):(valV vs k).isSome=(valP kvs k).isSome:=by
 cases e:valP kvs k with
 | none=>rw [h.val_none e]; rfl
 | some p =>
  obtain ⟨v,hv,_⟩:=h.val e
  rw [hv]; rfl
theorem zaF0 (hu:X.A.units + 100 < cLine):OpD X (compareOp .NotIn) zao1:=by
 intro pins s σ H Z m x y dx dy v u R Q I ok rx ry r1 r2 h k
 unfold zao1 at h
 split at h
 ·obtain ⟨ky,kvs,hk,hm,q⟩:=h
  cases r1.key hk
  obtain ⟨rfl,_⟩:=r2
  obtain ⟨vs,g1,g2⟩:=ok.d hm
  obtain rfl:=(show u=Value.ref _ from ry)
  refine zaP3 (by omega) I (.inl ⟨vs,ky,.inl g1,rfl,rfl⟩) rx fun s3 I3=>⟨.bl (!(valV vs ky).isSome),H,I3,rfl,?_⟩
  rw [zaL0 g2]
  exact k _ m _ H q Ext.refl ok .ofBl
 ·exact h.elim
variable {o e:Expr} {f g:DE}
@[simp] def zaQ1 (fo g:DE):DE:=fun d m Q=>fo d m fun o m1=>∃ c,o=.cel c∧(∃ kvs,m1 c=some (.d kvs))∧g d m1 fun x m2=>∃ kvs more b,x=.cel b∧c≠b∧m2 c=some (.d kvs)∧m2 b=some (.d more)∧kvs.length + more.length≤sizeLine∧Q (.dat .none) (updM m2 c (.d (zw6 kvs more)))
theorem zaT3 {apos cpos:Pos} (ho:PE X o (LE X.K f)) (he:PE X e (LE X.K g)) (M:M1 X o "update" apos e cpos:=by exact ⟨by rfl,by rfl,by rfl,by rfl⟩):PE X (.Call (.Attribute o "update" apos) [e] [] cpos) (LE X.K (zaQ1 f g)):=by
 intro pins s σ H Q I h
 obtain ⟨Z,d,m,R,ok,rs,h,k⟩:=h
 refine wpAny_Call_method M.base M.few M.line PySem.F.plainAttrs_dict PySem.F.slot_dict_update PySem.F.type_dict_update (thn (ho pins s σ H (fun x H1=>∃ c m1 kvs,x=.ref c∧m1 c=some (.d kvs)∧(g d m1 fun x m2=>∃ kvs more b,x=.cel b∧c≠b∧m2 c=some (.d kvs)∧m2 b=some (.d more)∧kvs.length + more.length≤sizeLine∧R (.dat .none) (updM m2 c (.d (zw6 kvs more))))∧Ext X.K Z m H m1 H1∧Ok X.K Z m1 H1) I
  ⟨Z,d,m,_,ok,rs,h,fun x m1 v H1 ⟨c,ex,⟨kvs,hm⟩,q⟩ e1 ok1 rd=>by subst ex; obtain ⟨rfl,_⟩:=rd; exact ⟨c,m1,kvs,rfl,hm,q,e1,ok1⟩⟩) fun u s1 ⟨x,H1,I1,rx,c,m1,kvs,ex,hm,q,e1,ok1⟩=>?_)
 subst ex
 obtain rfl:u=Value.ref c:=rx
 obtain ⟨vs,g1,g2⟩:=ok1.d hm
 obtain ⟨t1,t2,_⟩:=zaX9 I1 (.inl ⟨vs,.inl g1⟩)
 refine ⟨t1,t2,?_⟩
 rw [M.trees]
 refine Calls.callWith_builtin rfl (Calls.evalArgs_plain (Calls.spliced_cons (thn (he pins s1 σ H1 (fun y H2=>∃ b m2 kvs more,y=.ref b∧c≠b∧m2 c=some (.d kvs)∧m2 b=some (.d more)∧kvs.length + more.length≤sizeLine∧R (.dat .none) (updM m2 c (.d (zw6 kvs more)))∧Ext X.K Z m1 H1 m2 H2∧Ok X.K Z m2 H2) I1
  ⟨Z,d,m1,_,ok1,rs.ext e1,q,fun y m2 w H2 ⟨kvs,more,b,ey,hcb,h1,h2,hz,q2⟩ e2 ok2 rd=>by subst ey; obtain ⟨rfl,_⟩:=rd; exact ⟨b,m2,kvs,more,rfl,hcb,h1,h2,hz,q2,e2,ok2⟩⟩) fun iv s2 ⟨y,H2,I2,ry,b,m2,kvs,more,ey,hcb,h1,h2,hz,q2,e2,ok2⟩=>Calls.spliced_nil ?_)))
 subst ey
 obtain rfl:iv=Value.ref b:=ry
 obtain ⟨ws,g3,g4⟩:=ok2.d h1
 obtain ⟨us,g5,g6⟩:=ok2.d h2
 obtain ⟨z1,hd1,vs1,rel1,dd1⟩:=zaJ7 I2.hok g3
 obtain ⟨z2,hd2,vs2,rel2,dd2⟩:=zaJ7 I2.hok g5
 have lz:vs1.length + vs2.length≤sizeLine:=by rw [← rel1.length,← rel2.length,g4.length,g6.length]; exact hz
 refine call_meetsIn PySem.F.slot_dict_update dd1.typeIs PySem.F.entry_dict_update (PySem.F.args_dict_update_2 _ _) (meets_dict_update (zd2 X.prog X.w) c b hcb hd2) ⟨vs1,vs2,dd1,dd2,lz,fun h' dd' _ hs=>⟨.non,upd H2 c (.dK (zQ7 ws us)),?_,rfl,?_⟩⟩
 ·have he:∃ q,h'.get? c=some q:=let ⟨q,_,_,hq,_⟩:=dd'; ⟨q,hq⟩
  have hz':(zQ7 ws us).length≤sizeLine:=by
   have:=zz0 us ws
   rw [g4.length,g6.length] at this
   omega
  exact zab2 (t':=s2.toks) I2 (by rw [g3]; exact True.intro) hs he (zaC8 hz' hd1 (rel2.merge rel1) dd')
 ·have e3:Ext X.K Z m2 H2 (updM m2 c (.d (zw6 kvs more))) (upd H2 c (.dK (zQ7 ws us))):=Ext.put ok2 h1 g3
  exact k _ _ _ _ q2 (e1.trans (e2.trans e3)) (ok2.put h1 g3 (show RKV _ _ _ _ _ _ from RKV.puts g4 g6)) (by simp only [RD,RP])
end
end DL
namespace DL
open PySem PySem.Spec PyProof.Rows L2
section
variable {X:Cx} {o i:Expr} {fo fi:DE} {pos:Pos}
theorem RPs.rds {K:PySem.W.Frag} {Z:Addr→Prop} {m:Mu} {H:Hp}:∀ {ps:List PyData} {vs:List V},RPs K Z m H ps vs→RDs K Z m H (ps.map .dat) vs
 | [],vs,h=>by simp only [RPs] at h; exact h
 | p :: ps,vs,h=>by
  simp only [RPs] at h
  obtain ⟨v,r,rfl,h1,h2⟩:=h
  exact ⟨v,r,rfl,h1,h2.rds⟩
@[simp] def zA4 (fo fi:DE):DE:=fun d m Q=>fo d m fun o m1=>fi d m1 fun y m2=>∃ c ps ks kvs p,o=.cel c∧y=.dat (.tuple ps)∧zak4 (ps.map .dat)=some ks∧m2 c=some (.t kvs)∧valP kvs ks=some p∧Q (.dat p) m2
theorem zaG2 (hu:X.A.units + 100 < cLine) (ho:PE X o (LE X.K fo)) (hi:PE X i (LE X.K fi)) (hs:NoSl i:=by exact fun _ _=>rfl):PE X (.Subscript o i pos) (LE X.K (zA4 fo fi)):=by
 intro pins s σ H Q I h
 obtain ⟨Z,d,m,R,ok,rs,h,k⟩:=h
 refine zam5 PySem.F.slot_dict_getitem.lookup hs (thn (ho pins s σ H (fun x H1=>∃ (ox:D) (m1:Mu),RD X.K Z m1 H1 ox x∧(fi d m1 fun y m2=>∃ c ps ks kvs p,ox=.cel c∧y=.dat (.tuple ps)∧zak4 (ps.map .dat)=some ks∧m2 c=some (.t kvs)∧valP kvs ks=some p∧R (.dat p) m2)∧Ext X.K Z m H m1 H1∧Ok X.K Z m1 H1) I
  ⟨Z,d,m,_,ok,rs,h,fun x m1 v H1 q e1 ok1 rd=>⟨x,m1,rd,q,e1,ok1⟩⟩) fun u s1 ⟨x,H1,I1,rx,ox,m1,rd,q,e1,ok1⟩=>?_)
 refine thn (hi pins s1 σ H1 (fun y H2=>∃ m2 c ps ks kvs p,x=.ref c∧RD X.K Z m2 H2 (.dat (.tuple ps)) y∧zak4 (ps.map .dat)=some ks∧m2 c=some (.t kvs)∧valP kvs ks=some p∧R (.dat p) m2∧Ext X.K Z m1 H1 m2 H2∧Ok X.K Z m2 H2) I1
  ⟨Z,d,m1,_,ok1,rs.ext e1,q,fun y m2 w H2 ⟨c,ps,ks,kvs,p,eo,ey,hk,hm,hv,q2⟩ e2 ok2 r2=>by subst eo; subst ey; obtain ⟨rfl,_⟩:=rd; exact ⟨m2,c,ps,ks,kvs,p,rfl,r2,hk,hm,hv,q2,e2,ok2⟩⟩) fun iv s2 ⟨y,H2,I2,ry,m2,c,ps,ks,kvs,p,ex,r2,hk,hm,hv,q2,e2,ok2⟩=>?_
 subst ex
 obtain rfl:u=Value.ref c:=rx
 simp only [RD,RP] at r2
 obtain ⟨b,vs,rfl,hsq,rp⟩:=r2
 obtain rfl:iv=Value.ref b:=ry
 cases rp.rds.keys hk
 obtain ⟨ws,g1,g2⟩:=ok2.t hm
 obtain ⟨v,hv',rv⟩:=g2.val hv
 obtain ⟨z,hd,xs,rel,dd⟩:=zaX7 I2.hok g1
 obtain ⟨w',hw,rw'⟩:=RelO.some_of (v:=v) (o:=(atKey xs ks).map (·.2)) (by rw [← hv']; exact rel.val ks)
 obtain ⟨pr,hp,hp2⟩:=Option.map_eq_some_iff.mp hw
 obtain ⟨its,rvs,⟨ob,h1,h2,n,h3⟩,_⟩:=I2.tuple hsq
 have key:(tupleKind (zd2 X.prog X.w)).is s2.heap ks b:=⟨ob,its.toArray,n,h1,h2,h3,by simpa using zJ8 rvs⟩
 refine ⟨dd.typeIs,wpAny_getItem_heap (tupleKind_room_in1 (by omega)) key dd hp ?_⟩
 ·rw [hp2]
  exact ⟨v,H2,I2.tok _,rw',k _ m2 v H2 q2 (e1.trans e2) ok2 rv⟩
end
end DL
namespace DL
open PySem PySem.Spec PyProof.Rows L2
section
variable {X:Cx} {e:Expr} {f:DE} {pos p p2 pos2:Pos}
variable {e2:Expr} {f2:DE}
end
end DL
namespace DL
open PySem PySem.Spec PyProof.Rows L2
section
variable {X:Cx} {a b c:Expr} {f g h:DE} {pos:Pos}
@[simp] def zbc6 (r r':D2) (f g h:DE):DE:=fun d m Q=>f d m fun x m1=>g d m1 fun y m2=>r x y m2 fun z m3=>∃ k,z=.dat (.bool k)∧(if k=true then h d m3 fun w m4=>r' y w m4 Q else Q (.dat (.bool false)) m3)
theorem zaf5 {op op':CmpOp} {r r':D2} (ho:OpD X (compareOp op) r) (ho':OpD X (compareOp op') r') (ha:PE X a (LE X.K f)) (hb:PE X b (LE X.K g)) (hc:PE X c (LE X.K h))
  (hm:lastMarks [op,op'] [b,c]=false:=by with_unfolding_all rfl):PT X (.Compare a [op,op'] [b,c] pos) (LT X.K (dTst (zbc6 r r' f g h))):=by
 intro pins s σ H Q I hh
 obtain ⟨Z,d,m,R,ok,rs,hf,k⟩:=hh.le
 refine isTrue_chain (thn (ha pins s σ H (fun x H1=>∃ (dx:D) (m1:Mu),RD X.K Z m1 H1 dx x∧(g d m1 fun y m2=>r dx y m2 fun z m3=>∃ k,z=.dat (.bool k)∧(if k=true then h d m3 fun w m4=>r' y w m4 R else R (.dat (.bool false)) m3))∧Ext X.K Z m H m1 H1∧Ok X.K Z m1 H1) I
  ⟨Z,d,m,_,ok,rs,hf,fun x m1 v H1 q e1 ok1 rd=>⟨x,m1,rd,q,e1,ok1⟩⟩) fun v s1 ⟨x,H1,I1,r1,dx,m1,rd,q,e1,ok1⟩=>test_link (thn (hb pins s1 σ H1 (fun y H2=>∃ (dy:D) (m2:Mu),RD X.K Z m2 H2 dy y∧(r dx dy m2 fun z m3=>∃ k,z=.dat (.bool k)∧(if k=true then h d m3 fun w m4=>r' dy w m4 R else R (.dat (.bool false)) m3))∧Ext X.K Z m1 H1 m2 H2∧Ok X.K Z m2 H2) I1
  ⟨Z,d,m1,_,ok1,rs.ext e1,q,fun y m2 w H2 q2 e2 ok2 rd2=>⟨y,m2,rd2,q2,e2,ok2⟩⟩) fun u s2 ⟨y,H2,I2,r2,dy,m2,rd2,q2,e2,ok2⟩ =>
  thn (ho pins s2 σ H2 Z m2 x y dx dy v u _ (fun z H3=>∃ (kk:Bool) (m3:Mu),z=.bl kk∧(if kk=true then h d m3 fun w m4=>r' dy w m4 R else R (.dat (.bool false)) m3)∧Ext X.K Z m2 H2 m3 H3∧Ok X.K Z m3 H3) I2 ok2 r1 r2 (rd.ext e2) rd2 q2 (fun z m3 v3 H3 ⟨kk,ez,q3⟩ e3 ok3 rd3=>by subst ez; exact ⟨kk,m3,by simpa only [RD,RP] using rd3,q3,e3,ok3⟩))
   fun cv s3 ⟨z,H3,I3,r3,kk,m3,ez,q3,e3,ok3⟩=>?_)) hm
 subst ez
 cases r3
 refine wpAny_truthy_bool ?_
 cases kk with
 | false =>
  obtain ⟨k',e',q'⟩:=k (.dat (.bool false)) m3 (.bl false) H3 (by simpa using q3) (e1.trans (e2.trans e3)) ok3 .ofBl
  cases e'
  exact ite_ff ⟨H3,I3,q'⟩
 | true =>
  refine ite_tt (test_last (thn (hc pins s3 σ H3 (fun w H4=>∃ (dw:D) (m4:Mu),RD X.K Z m4 H4 dw w∧r' dy dw m4 R∧Ext X.K Z m3 H3 m4 H4∧Ok X.K Z m4 H4) I3 ⟨Z,d,m3,_,ok3,((rs.ext e1).ext e2).ext e3,by simpa using q3,fun w m4 v4 H4 q4 e4 ok4 rd4=>⟨w,m4,rd4,q4,e4,ok4⟩⟩)
   fun w' s4 ⟨z',H4,I4,r4,dw,m4,rd4,q4,e4,ok4⟩=>?_))
  refine thn (ho' pins s4 σ H4 Z m4 y z' dy dw u w' R (fun x H'=>∃ k,x=.bl k∧Q k H') I4 ok4 r2 r4 (rd2.ext (e3.trans e4)) rd4 q4 fun d' m' v' H' h1 h2 h3 h4=>k d' m' v' H' h1 (e1.trans (e2.trans (e3.trans (e4.trans h2)))) h3 h4) fun d' s5 ⟨z2,H5,I5,r5,k2,e5,q5⟩=>?_
  subst e5
  cases r5
  exact wpAny_truthy_bool ⟨H5,I5,q5⟩
end
end DL
namespace DL
open PySem PySem.Spec PyProof.Rows L2
@[simp] def ofC (m:Mu):D→Option PyData
 | .dat p=>some p
 | .cel c=>match m c with
  | some (.l xs)=>some (.list xs)
  | _=>none
section
variable {K:PySem.W.Frag} {Z:Addr→Prop} {m:Mu} {H:Hp}
theorem zar6 {x:D} {p:PyData} {v:V} (ok:Ok K Z m H) (e:ofC m x=some p) (r:RD K Z m H x v):∃ m',RP K Z m' H p v:=by
 cases x with
 | dat q=>cases e; exact ⟨m,r⟩
 | cel c =>
  simp only [ofC] at e
  split at e
  ·rename_i xs hm
   cases e
   exact ⟨_,zaK8 ok hm r⟩
  ·cases e
end
section
variable {X:Cx}
@[simp] def aEqX:D2:=fun x y m Q=>∃ p q,ofC m x=some p∧ofC m y=some q∧p.canLay0=true∧q.canLay0=true∧p.depth≤100∧Q (.dat (.bool (PyData.eqv p q))) m
theorem zbd8 (hu:X.A.units + 100 < cLine):OpD X (compareOp .Eq) aEqX:=by
 intro pins s σ H Z m x y dx dy v u R Q I ok rx ry r1 r2 h k
 obtain ⟨p,q,e1,e2,h1,h2,h3,h4⟩:=h
 obtain ⟨m1,w1⟩:=zar6 ok e1 r1
 obtain ⟨m2,w2⟩:=zar6 ok e2 r2
 obtain ⟨as,ra⟩:=RP.reads I _ x v w1 rx
 obtain ⟨bs,rb⟩:=RP.reads I _ y u w2 ry
 exact SeqAt.compareEq_reads ra rb h1 h2 (by omega) ⟨.bl _,H,I,rfl,k _ m _ H h4 Ext.refl ok .ofBl⟩
end
end DL
namespace DL
open PySem PySem.Spec PyProof.Rows L2
theorem zU8 (t:Addr) (its:Array Value) (k:Int) (tok:Tok) (h2:0≤k) (h3:k≤1):Meets (Builtin.«tuple.__mul__» ⟨[.ref t,.int k tok],[]⟩)
  (fun _ R s=>IsTup s.heap t its∧(its.size=0∨k=1→R (.ok (.ret (.ref t))) s)∧(its.size≠0→k=0→R (.ok (.ret (.ref s.heap.objs.size))) { s with heap:=s.heap.push { cls:=.type "tuple",data:=.seq #[] } })) :=
 .of_wp fun prog w A R s hs=>by
  obtain ⟨ht,hq,h⟩:=hs
  show wpAny _ _ (asIndex (.int k tok)>>=_) _ _ _
  refine wpAny_bind (wpAny_pure ?_)
  show wpAny _ _ (if (decide (k < -(2 ^ 63)) || decide (k ≥ 2 ^ 63))=true then _ else _) _ _ _
  rw [if_neg (by simp; omega)]
  show wpAny _ _ (Builtin.Tuple.tupleItemsOf (.ref t)>>=_) _ _ _
  refine wpAny_bind (tupleItemsOf_ ht ?_)
  show wpAny _ _ (if (its.isEmpty || k == 1)=true then _ else _) _ _ _
  by_cases c:(its.isEmpty || k == 1)=true
  ·rw [if_pos c]
   obtain ⟨⟨cls,dd,data,sl⟩,ho,hc,n,hd⟩:=id ht
   simp only at hc hd
   subst hc hd
   show wpAny _ _ (Builtin.Tuple.tupleIsExact (.ref t)>>=_) _ _ _
   refine wpAny_bind ?_
   unfold Builtin.Tuple.tupleIsExact
   refine wpAny_bind (wpAny_typeOf ⟨_,ho,rfl⟩ (wpAny_pure ?_))
   show wpAny _ _ (if ((Value.type "tuple" == Value.type "tuple")=true) then _ else _) _ _ _
   rw [if_pos (by decide)]
   refine wpAny_bind (wpAny_rule ?_)
   refine wpAny_pure ⟨_,rfl,hq ?_⟩
   simp at c
   rcases c with c | c
   ·exact .inl (by rw [c]; rfl)
   ·exact .inr c
  ·rw [if_neg c]
   simp at c
   show wpAny _ _ (if (decide (k≤0) || its.isEmpty)=true then _ else _) _ _ _
   have k0:k=0:=by omega
   rw [if_pos (by simp; omega)]
   show wpAny _ _ (Builtin.Tuple.tupleExact #[]>>=_) _ _ _
   refine wpAny_bind (m:=Builtin.Tuple.tupleExact _) (wpAny_newObj_type (wpAny_pure ⟨_,rfl,h ?_ k0⟩) ?_)
   ·intro e
    exact c.1 (Array.size_eq_zero_iff.mp e)
   ·show (#[]:Array Value).size≤sizeLine
    exact Nat.zero_le _
section
variable {X:Cx}
theorem zaD1 {pins:List (Addr×Obj)} {s:Shared} {σ:L2.St} {H:Hp} {Q:VK} {a:Addr} {xs:List V} {k:Int} {t:Tok} (I:Inv X pins σ H s) (ha:SqT X.K H a xs) (h2:0≤k) (h3:k≤1)
  (q1:xs=[]∨k=1→Q (.ref a) H) (q:xs≠[]→k=0→∀ p,H p=none→Q (.ref p) (upd H p (.tup []))):wpAny (model X.prog X.w) X.A (binaryOp .Mult (.ref a) (.int k t)) (EP X pins σ Q) X.xe s:=by
 obtain ⟨its,r,p,hz⟩:=I.tuple ha
 have hl:=r.length
 obtain ⟨⟨cls,dd,data,sl⟩,ho,hc,n,hd⟩:=id p
 simp only at hc hd
 subst hc hd
 refine wpAny_binaryOp_repeat_ref (T:="tuple") (U:="int") (by decide) ⟨_,ho,rfl⟩ (fun s'=>typeIs_int s' k t) zA3 PySem.F.fills_int_mul PySem.F.slot_int_rmul zQ1 PySem.F.slot_int_index.lookup
  (call_meets PySem.F.slot_int_rmul (typeIs_int s k t) PySem.F.entry_int_rmul (PySem.F.args_int_rmul_2 _ _) (zY4 k t a its.toArray n dd sl) ⟨ho,rfl,⟨_,ho,rfl⟩,call_meets PySem.F.slot_tuple_mul ⟨_,ho,rfl⟩ PySem.F.entry_tuple_mul (PySem.F.args_tuple_mul_2 _ _) (zU8 a its.toArray k t h2 h3) ⟨p,fun c=>?_,fun c1 c2=>?_⟩⟩)
 ·refine ⟨.ref a,H,I,rfl,q1 ?_⟩
  rcases c with c | c
  ·left
   rw [List.size_toArray,← hl] at c
   exact List.length_eq_zero_iff.mp c
  ·exact .inr c
 ·refine ⟨.ref s.heap.objs.size,_,I.laid (t':=s.toks) (o:=.tup []) (fun b ob q=>Heap.get?_push_of_some _ q) (Nat.le_refl _) ⟨⟨Nat.zero_le _,NoD.new _ _ _⟩,_,.nil,IsTup.new _ _⟩,rfl,q (fun e=>c1 ?_) c2 _ (I.hok.fresh (Nat.le_refl _))⟩
  subst e
  rw [List.size_toArray,← hl]
  rfl
@[simp] def zaP9:D2
 | .dat (.tuple a),.dat (.int k),m,Q=>0≤k∧k≤1∧Q (.dat (.tuple (if k=1 then a else []))) m
 | _,_,_,_=>False
theorem zaV8:OpD X (binaryOp .Mult) zaP9:=by
 intro pins s σ H Z m x y dx dy v u R Q I ok rx ry r1 r2 h k
 unfold zaP9 at h
 split at h
 ·rename_i a j
  obtain ⟨h1,h2,h3⟩:=h
  cases r2.int
  have r1':=r1
  simp only [RD,RP] at r1
  obtain ⟨p,vs,rfl,g1,g2⟩:=r1
  cases rx
  obtain ⟨t',rfl⟩:=ry
  have hl:=g2.length
  refine zaD1 I g1 h1 h2 (fun c=>?_) fun c1 c2 t ht=>?_
  ·by_cases e:j=1
   ·rw [if_pos e] at h3
    exact k _ m _ H h3 Ext.refl ok r1'
   ·rw [if_neg e] at h3
    have ea:a=[]:=by
     rcases c with c | c
     ·subst c
      cases a with
      | nil=>rfl
      | cons _ _=>simp at hl
     ·exact absurd c e
    subst ea
    exact k _ m _ H h3 Ext.refl ok r1'
  ·rw [if_neg (by omega)] at h3
   have sm:Same H (upd H t (.tup [])):=zc6 ht
   refine k _ m _ _ h3 (ok.ext sm) (ok.grow sm) ?_
   simp only [RD,RP]
   exact ⟨t,[],rfl,.inl (.inl zc5),by simp [RPs]⟩
 ·exact h.elim
end
end DL
namespace DL
open PySem PySem.Spec PyProof.Rows L2
structure QE (X:Cx) (e:Expr) (t:TE):Prop where
 pe:PE X e t
structure QA (X:Cx) (e:List Expr) (t:TA):Prop where
 pe:PA X e t
structure QT (X:Cx) (e:Expr) (t:TT):Prop where
 pe:PT X e t
structure QW (X:Cx) (e:Expr) (t:TT):Prop where
 pe:PW X e t
structure QS (X:Cx) (e:Stmt) (t:TS):Prop where
 pe:PS X e t
structure QSs (X:Cx) (e:List Stmt) (t:TS):Prop where
 pe:PSs X e t
structure QG (X:Cx) (e:Expr) (t:TG):Prop where
 pe:PG X e t
structure QGs (X:Cx) (e:List Expr) (t:TGs):Prop where
 pe:PGs X e t
structure QO (X:Cx) (e:Option Expr) (t:TO):Prop where
 pe:PO X e t
structure QF (X:Cx) (e:List Expr) (t:TT):Prop where
 pe:PF X e t
structure QI (X:Cx) (tg e:Expr) (t:TI):Prop where
 pe:PI X tg e t
structure QD (X:Cx) (p:Pos) (k:List (Option Expr)) (v:List Expr) (t:List (DE×DE)):Prop where
 pe:PD X p k v t
theorem QW.pt {X:Cx} {e:Expr} {t:TT} (h:QW X e t):QT X e t:=⟨h.pe.pt⟩
section
variable {X:Cx} {pos:Pos}
theorem za1 (i:Nat) {x:Str} (hN:X.N[i]?=some x:=by rfl) (hv:Vis X.env.scope x:=by first | exact Or.inl rfl | exact Or.inr (Or.inl rfl) | exact Or.inr (Or.inr rfl)) (hd:(x == ("__debug__" : Str))=false:=by decide) (hcd:(x == ("__classdict__" : Str))=false:=by decide):QE X (.Name x pos) (LE X.K (dVar i)):=⟨zaY7 (i:=i) (hN:=hN) (hv:=hv) (hd:=hd) (hcd:=hcd)⟩
end
section
variable {X:Cx} {pos:Pos}
theorem za3 {i:Int} {j:Nat}:QE X (.Constant (.int i) j pos) (LE X.K (dCon (.int i))):=⟨zbg4 ⟩
end
section
variable {X:Cx} {pos:Pos}
theorem zaq0 {b:Bool} {j:Nat}:QE X (.Constant (.bool b) j pos) (LE X.K (dCon (.bool b))):=⟨zbm4 ⟩
end
section
variable {X:Cx} {pos:Pos}
theorem zaV9 {j:Nat}:QE X (.Constant .none j pos) (LE X.K (dCon .none)):=⟨zba1 ⟩
end
section
variable {X:Cx} {pos:Pos}
theorem zb0 {x:Str} {j:Nat}:QE X (.Constant (.str x) j pos) (LE X.K (dCon (.str x))):=⟨zbe3 ⟩
end
section
variable {X:Cx} {a b c:Expr} {f g:DE} {pos:Pos}
theorem za9 {op:Operator} {r:D2} (ho:OpD X (binaryOp op) r) (ha:QE X a (LE X.K f)) (hb:QE X b (LE X.K g)):QE X (.BinOp a op b pos) (LE X.K (dBin r f g)):=⟨zaZ6 (ho:=ho) (ha:=ha.pe) (hb:=hb.pe)⟩
end
section
variable {X:Cx} {a b c:Expr} {f g:DE} {pos:Pos}
theorem zf1 {op:CmpOp} {r:D2} (ho:OpD X (compareOp op) r) (ha:QE X a (LE X.K f)) (hb:QE X b (LE X.K g)) (hm:behindInMarks op b=false:=by exact zas6 _):QE X (.Compare a [op] [b] pos) (LE X.K (dBin r f g)):=⟨zbd7 (ho:=ho) (ha:=ha.pe) (hb:=hb.pe) (hm:=hm)⟩
end
section
variable {X:Cx} {a b c:Expr} {f g:DE} {pos:Pos}
theorem ze2 {op:CmpOp} {r:D2} (ho:OpD X (compareOp op) r) (ha:QE X a (LE X.K f)) (hb:QE X b (LE X.K g)) (hm:behindInMarks op b=false:=by exact zas6 _):QT X (.Compare a [op] [b] pos) (LT X.K (dTst (dBin r f g))):=⟨zaZ4 (ho:=ho) (ha:=ha.pe) (hb:=hb.pe) (hm:=hm)⟩
end
section
variable {X:Cx} {a b c:Expr} {f g:DE} {pos:Pos}
theorem zt1 (h:QE X a (LE X.K f)) (he:∀ whole,isTrue a X.env whole=(do let v ← whole; standAt a.pos; holding [v] (truthy v)):=by intro _; rfl):QT X a (LT X.K (dTst f)):=⟨zbc4 (h:=h.pe) (he:=he)⟩
end
section
variable {X:Cx} {a b c:Expr} {rest:List Expr} {f g:DE} {t u:DT} {pos:Pos}
end
section
variable {X:Cx} {a b c:Expr} {rest:List Expr} {f g:DE} {t u:DT} {pos:Pos}
end
section
variable {X:Cx} {a b c:Expr} {rest:List Expr} {f g:DE} {t u:DT} {pos:Pos}
end
section
variable {X:Cx} {a b c:Expr} {rest:List Expr} {f g:DE} {t u:DT} {pos:Pos}
end
section
variable {X:Cx} {a b c:Expr} {rest:List Expr} {f g:DE} {t u:DT} {pos:Pos}
theorem zaB5 (ha:QT X a (LT X.K t)):QT X (.UnaryOp .Not a pos) (LT X.K (zaH2 t)):=⟨zbf7 (ha:=ha.pe)⟩
end
section
variable {X:Cx} {a b c:Expr} {rest:List Expr} {f g:DE} {t u:DT} {pos:Pos}
theorem zD1 {op:BoolOp} (h:QE X a (LE X.K f)):QE X (.BoolOp op [a] pos) (LE X.K f):=⟨zbg9 (h:=h.pe)⟩
end
section
variable {X:Cx} {a b c:Expr} {rest:List Expr} {f g:DE} {t u:DT} {pos:Pos}
theorem zV3 (ha:QE X a (LE X.K f)) (hb:QE X (.BoolOp .And (b :: rest) pos) (LE X.K g)):QE X (.BoolOp .And (a :: b :: rest) pos) (LE X.K (dAnd f g)):=⟨zbe1 (ha:=ha.pe) (hb:=hb.pe)⟩
end
section
variable {X:Cx} {a b c:Expr} {rest:List Expr} {f g:DE} {t u:DT} {pos:Pos}
theorem zaE6 (ha:QE X a (LE X.K f)) (hb:QE X (.BoolOp .Or (b :: rest) pos) (LE X.K g)):QE X (.BoolOp .Or (a :: b :: rest) pos) (LE X.K (dOr f g)):=⟨zbi6 (ha:=ha.pe) (hb:=hb.pe)⟩
end
section
variable {X:Cx} {a b c:Expr} {rest:List Expr} {f g:DE} {t u:DT} {pos:Pos}
theorem zan4 (ha:QE X a (LE X.K f)):QE X (.UnaryOp .Not a pos) (LE X.K (dNot f)):=⟨zbc1 (ha:=ha.pe)⟩
end
section
variable {X:Cx} {a b c:Expr} {rest:List Expr} {f g:DE} {t u:DT} {pos:Pos}
theorem zv7 (hc:QT X c (LT X.K t)) (ha:QE X a (LE X.K f)) (hb:QE X b (LE X.K g)):QE X (.IfExp c a b pos) (LE X.K (dIte t f g)):=⟨zaZ0 (hc:=hc.pe) (ha:=ha.pe) (hb:=hb.pe)⟩
end
section
variable {X:Cx} {e:Expr} {es:List Expr} {f:DE} {g:DA} {pos:Pos}
theorem za5  : QA X [] (LA X.K dNil):=⟨zaC1 ⟩
end
section
variable {X:Cx} {e:Expr} {es:List Expr} {f:DE} {g:DA} {pos:Pos}
theorem za0 (ha:QE X e (LE X.K f)) (hr:QA X es (LA X.K g)) (hs:starEach (e :: es) X.env=(false,eval e X.env) :: starEach es X.env:=by rfl):QA X (e :: es) (LA X.K (za4 f g)):=⟨zU0 (ha:=ha.pe) (hr:=hr.pe) (hs:=hs)⟩
end
section
variable {X:Cx} {e:Expr} {es:List Expr} {f:DE} {g:DA} {pos:Pos}
theorem zc1 {j:Nat} (h:QA X es (LA X.K g)):QE X (.Tuple es j pos) (LE X.K (dTup g)):=⟨zbh3 (h:=h.pe)⟩
end
section
variable {X:Cx} {e:Expr} {es:List Expr} {f:DE} {g:DA} {pos:Pos}
theorem zw7 (h:QA X es (LA X.K g)):QE X (.List es pos) (LE X.K (dLst g)):=⟨zbc8 (h:=h.pe)⟩
end
section
variable {X:Cx} {e:Expr} {es:List Expr} {f:DE} {g:DA} {pos:Pos}
theorem zz7 (h:QA X es (LA X.K g)):QE X (.List es pos) (LE X.K (zaf6 g)):=⟨zaR0 (h:=h.pe)⟩
end
section
variable {X:Cx} {a b c e:Expr} {es:List Expr} {f g:DE} {ga:DA} {pos p2 p:Pos}
theorem ze9 (ha:QE X a (LE X.K f)):QE X (.UnaryOp .USub a pos) (LE X.K (dNeg f)):=⟨zbg0 (ha:=ha.pe)⟩
end
section
variable {X:Cx} {a b c e:Expr} {es:List Expr} {f g:DE} {ga:DA} {pos p2 p:Pos}
theorem zb4 (ha:QE X a (LE X.K f)) (hb:QE X b (LE X.K g)) (hs:zal6 b:=by exact fun _ _=>rfl):QE X (.Subscript a b pos) (LE X.K (dBin aIx f g)):=⟨zbi5 (ha:=ha.pe) (hb:=hb.pe) (hs:=hs)⟩
end
section
variable {X:Cx} {a b c e:Expr} {es:List Expr} {f g:DE} {ga:DA} {pos p2 p:Pos}
theorem zar4  : QO X none (LO X.K dNoP):=⟨zaV3 ⟩
end
section
variable {X:Cx} {a b c e:Expr} {es:List Expr} {f g:DE} {ga:DA} {pos p2 p:Pos}
theorem zat1 (ha:QE X a (LE X.K f)):QO X (some a) (LO X.K (zaI3 f)):=⟨zaQ9 (ha:=ha.pe)⟩
end
section
variable {X:Cx} {a b c e:Expr} {es:List Expr} {f g:DE} {ga:DA} {pos p2 p:Pos}
end
section
variable {X:Cx} {a b c e:Expr} {es:List Expr} {f g:DE} {ga:DA} {pos p2 p:Pos}
theorem zd5 {x:Str} {id:String} {r:DC} (hc:CallD X (.builtin id) r) (hg:Gl X x) (hm:X.mg x=none) (hv:bootBuiltins x=some (.builtin id)) (ha:QA X (e :: es) (LA X.K ga)) (hn:x≠"__name__":=by decide) (hdb:(x == ("__debug__" : Str))=false:=by decide) (he:starEach (e :: es) X.env=(false,eval e X.env) :: starEach es X.env:=by rfl) (hpl:(backTo pos (starEach es X.env)).any (·.1)=false:=by rfl):QE X (.Call (.Name x p) (e :: es) [] pos) (LE X.K (zd6 r ga)):=⟨zaJ9 (hc:=hc) (hg:=hg) (hm:=hm) (hv:=hv) (ha:=ha.pe) (hn:=hn) (hdb:=hdb) (he:=he) (hpl:=hpl)⟩
end
section
variable {X:Cx} {a b c e:Expr} {es:List Expr} {f g:DE} {ga:DA} {pos p2 p:Pos}
theorem ze6 {x:Str} {T:String} {r:DC} (hc:CallD X (.type T) r) (hg:Gl X x) (hm:X.mg x=none) (hv:bootBuiltins x=some (.type T)) (ha:QA X (e :: es) (LA X.K ga)) (hn:x≠"__name__":=by decide) (hdb:(x == ("__debug__" : Str))=false:=by decide) (he:starEach (e :: es) X.env=(false,eval e X.env) :: starEach es X.env:=by rfl) (hpl:(backTo pos (starEach es X.env)).any (·.1)=false:=by rfl):QE X (.Call (.Name x p) (e :: es) [] pos) (LE X.K (zd6 r ga)):=⟨zaB6 (hc:=hc) (hg:=hg) (hm:=hm) (hv:=hv) (ha:=ha.pe) (hn:=hn) (hdb:=hdb) (he:=he) (hpl:=hpl)⟩
end
section
variable {X:Cx} {st:Stmt} {rest body orelse:List Stmt} {t u b:DS} {e c tg iter:Expr} {f:DE} {tc:DT} {pos:Pos}
theorem za6  : QSs X [] (LS X.K zb9):=⟨zaR5 ⟩
end
section
variable {X:Cx} {st:Stmt} {rest body orelse:List Stmt} {t u b:DS} {e c tg iter:Expr} {f:DE} {tc:DT} {pos:Pos}
theorem za2 (h1:QS X st (LS X.K t)) (h2:QSs X rest (LS X.K u)):QSs X (st :: rest) (LS X.K (dSeq t u)):=⟨zaJ8 (h1:=h1.pe) (h2:=h2.pe)⟩
end
section
variable {X:Cx} {st:Stmt} {rest body orelse:List Stmt} {t u b:DS} {e c tg iter:Expr} {f:DE} {tc:DT} {pos:Pos}
end
section
variable {X:Cx} {st:Stmt} {rest body orelse:List Stmt} {t u b:DS} {e c tg iter:Expr} {f:DE} {tc:DT} {pos:Pos}
theorem zF7 (he:QE X e (LE X.K f)) (hs:swapsWith e none pos.line X.env=pure false:=by rfl):QS X (.Expr e pos) (LS X.K (zaf9 f)):=⟨zaQ7 (he:=he.pe) (hs:=hs)⟩
end
section
variable {X:Cx} {st:Stmt} {rest body orelse:List Stmt} {t u b:DS} {e c tg iter:Expr} {f:DE} {tc:DT} {pos:Pos}
theorem zb6 (he:QE X e (LE X.K f)):QS X (.Return (some e) pos) (LS X.K (dRet f)):=⟨zaY9 (he:=he.pe)⟩
end
section
variable {X:Cx} {st:Stmt} {rest body orelse:List Stmt} {t u b:DS} {e c tg iter:Expr} {f:DE} {tc:DT} {pos:Pos}
theorem zk6 (hc:QT X c (LT X.K tc)) (h1:QSs X body (LS X.K t)) (h2:QSs X orelse (LS X.K u)):QS X (.If c body orelse pos) (LS X.K (dIf tc t u)):=⟨zbl6 (hc:=hc.pe) (h1:=h1.pe) (h2:=h2.pe)⟩
end
section
variable {X:Cx} {st:Stmt} {rest body orelse:List Stmt} {t u b:DS} {e c tg iter:Expr} {f:DE} {tc:DT} {pos:Pos}
theorem zb5 (i:Nat) {x:Str} {pos':Pos} (hN:X.N.Nodup) (he:QE X e (LE X.K f)) (hi:X.N[i]?=some x:=by rfl) (hx:Loc X.env.scope x:=by first | exact Or.inl rfl | exact Or.inr rfl) (hs:swapsWith e (some (.Name x pos')) pos.line X.env=pure false:=by rfl) (hf:X.fn x=true∨X.env.scope.names.lookup x=some .local:=by first | exact .inl rfl | exact .inr rfl):QS X (.Assign [.Name x pos'] e pos) (LS X.K (dSet i f)):=⟨zbf4 (i:=i) (hN:=hN) (he:=he.pe) (hi:=hi) (hx:=hx) (hs:=hs) (hf:=hf)⟩
end
section
variable {X:Cx} {st:Stmt} {rest body orelse:List Stmt} {t u b:DS} {e c tg iter:Expr} {f:DE} {tc:DT} {pos:Pos}
theorem zb7 (i:Nat) {x:Str} (hN:X.N.Nodup) (hi:X.N[i]?=some x:=by rfl) (hx:Loc X.env.scope x:=by first | exact Or.inl rfl | exact Or.inr rfl) (hf:X.fn x=true∨X.env.scope.names.lookup x=some .local:=by first | exact .inl rfl | exact .inr rfl):QG X (.Name x pos) (LG X.K (gN i)):=⟨zaU9 (i:=i) (hN:=hN) (hi:=hi) (hx:=hx) (hf:=hf)⟩
end
section
variable {X:Cx} {st:Stmt} {rest body orelse:List Stmt} {t u b:DS} {e c tg iter:Expr} {f:DE} {tc:DT} {pos:Pos}
theorem zr8  : QGs X [] (LGs X.K gN0):=⟨zaU4 ⟩
end
section
variable {X:Cx} {st:Stmt} {rest body orelse:List Stmt} {t u b:DS} {e c tg iter:Expr} {f:DE} {tc:DT} {pos:Pos}
theorem zc4 {es:List Expr} {g:DG} {r:DGs} (h1:QG X e (LG X.K g)) (h2:QGs X es (LGs X.K r)) (hs:(assignEach (e :: es) X.env).map (·.2)=assign e X.env :: (assignEach es X.env).map (·.2):=by rfl):QGs X (e :: es) (LGs X.K (gNs g r)):=⟨zaK7 (h1:=h1.pe) (h2:=h2.pe) (hs:=hs)⟩
end
section
variable {X:Cx} {st:Stmt} {rest body orelse:List Stmt} {t u b:DS} {e c tg iter:Expr} {f:DE} {tc:DT} {pos:Pos}
theorem zx9 {es:List Expr} {j n:Nat} {g:DGs} (hc:X.calm=true) (h:QGs X es (LGs X.K g)) (hn:(assignEach es X.env).length=n:=by rfl) (hst:(assignEach es X.env).findIdx? (·.1)=none:=by rfl):QG X (.Tuple es j pos) (LG X.K (gT n g)):=⟨zba0 (hc:=hc) (h:=h.pe) (hn:=hn) (hst:=hst)⟩
end
section
variable {X:Cx} {st:Stmt} {rest body orelse:List Stmt} {t u b:DS} {e c tg iter:Expr} {f:DE} {tc:DT} {pos:Pos}
theorem zU1 {g:DG} (he:QE X e (LE X.K f)) (hg:QG X tg (LG X.K g)) (hs:swapsWithSole [tg] e pos.line X.env=pure false:=by rfl) (hw:swappedStores [tg] e X.env=pure none:=by rfl) (h1:(assignEach [tg] X.env).map (·.2)=[assign tg X.env]:=by rfl):QS X (.Assign [tg] e pos) (LS X.K (dAsg f g)):=⟨zaY3 (he:=he.pe) (hg:=hg.pe) (hs:=hs) (hw:=hw) (h1:=h1)⟩
end
section
variable {X:Cx} {st:Stmt} {rest body orelse:List Stmt} {t u b:DS} {e c tg iter:Expr} {f:DE} {tc:DT} {pos:Pos}
theorem zal3 (i j:Nat) {x y:Str} {a b:Expr} {g:DA} {px py pt:Pos} {kt k2 pt2} (hc:X.calm=true) (hN:X.N.Nodup) (ha:QA X [a,b] (LA X.K g)) (hi:X.N[i]?=some x:=by rfl) (hj:X.N[j]?=some y:=by rfl) (hij:i≠j:=by decide) (hx:X.env.scope.names.lookup x=some .local:=by rfl) (hy:X.env.scope.names.lookup y=some .local:=by rfl) (hw:swappedStores [.Tuple [.Name x px,.Name y py] kt pt] (.Tuple [a,b] k2 pt2) X.env=pure (some [x,y]):=by rfl) (hs:swapsWithSole [.Tuple [.Name x px,.Name y py] kt pt] (.Tuple [a,b] k2 pt2) pos.line X.env=pure false:=by rfl):QS X (.Assign [.Tuple [.Name x px,.Name y py] kt pt] (.Tuple [a,b] k2 pt2) pos) (LS X.K (dPar i j g)):=⟨zba6 (i:=i) (j:=j) (hc:=hc) (hN:=hN) (ha:=ha.pe) (hi:=hi) (hj:=hj) (hij:=hij) (hx:=hx) (hy:=hy) (hw:=hw) (hs:=hs)⟩
end
section
variable {X:Cx} {st:Stmt} {rest body orelse:List Stmt} {t u b:DS} {e c tg iter:Expr} {f:DE} {tc:DT} {pos:Pos}
theorem zac4 {o i:Expr} {fo fi:DE} {tpos:Pos} (he:QE X e (LE X.K f)) (ho:QE X o (LE X.K fo)) (hi:QE X i (LE X.K fi)) (ha:∀ v,assign (.Subscript o i tpos) X.env v=(do
   let ov ← holding [v] (eval o X.env)
   let iv ← holding [v,ov] (eval i X.env)
   standAt tpos
   holding [v,ov,iv] (setItem ov iv v)
   release [v,ov,iv] []):=by intro _; rfl) (hs:swapsWithSole [.Subscript o i tpos] e pos.line X.env=pure false:=by rfl) (hw:swappedStores [.Subscript o i tpos] e X.env=pure none:=by rfl) (h1:(assignEach [.Subscript o i tpos] X.env).map (·.2)=[assign (.Subscript o i tpos) X.env]:=by rfl):QS X (.Assign [.Subscript o i tpos] e pos) (LS X.K (dPut fo fi f)):=⟨zbd9 (he:=he.pe) (ho:=ho.pe) (hi:=hi.pe) (ha:=ha) (hs:=hs) (hw:=hw) (h1:=h1)⟩
end
section
variable {X:Cx} {st:Stmt} {rest body orelse:List Stmt} {t u b:DS} {e c tg iter:Expr} {f:DE} {tc:DT} {pos:Pos}
theorem zag9 (hp:PassesOwn (model X.prog X.w) X.A X.env X.xe) (hc:QT X c (LT X.K tc)) (hb:QSs X body (LS X.K b)):QS X (.While c body [] pos) (LS X.K (zas7 tc b)):=⟨zaJ0 (hp:=hp) (hc:=hc.pe) (hb:=hb.pe)⟩
end
section
variable {X:Cx} {st:Stmt} {rest body orelse:List Stmt} {t u b:DS} {e c tg iter:Expr} {f:DE} {tc:DT} {pos:Pos}
theorem zj3 (ha:QE X e (LE X.K f)):QI X tg e (LI X.K (zr6 f)):=⟨zba3 (ha:=ha.pe)⟩
end
section
variable {X:Cx} {st:Stmt} {rest body orelse:List Stmt} {t u b:DS} {e c tg iter:Expr} {f:DE} {tc:DT} {pos:Pos}
theorem zB9 {p:Pos} (hg:Gl X "range") (hm:X.mg "range"=none) (ha:QE X e (LE X.K f)) (hs:starEach [e] X.env=[(false,eval e X.env)]:=by rfl):QI X tg (.Call (.Name "range" p) [e] [] pos) (LI X.K (zal4 f)):=⟨zaL1 (hg:=hg) (hm:=hm) (ha:=ha.pe) (hs:=hs)⟩
end
section
variable {X:Cx} {st:Stmt} {rest body orelse:List Stmt} {t u b:DS} {e c tg iter:Expr} {f:DE} {tc:DT} {pos:Pos}
theorem zr4 {fi:DI} {g:DG} (hp:PassesOwn (model X.prog X.w) X.A X.env X.xe) (hc:X.calm=true) (hi:QI X tg iter (LI X.K fi)) (hg:QG X tg (LG X.K g)) (hb:QSs X body (LS X.K b)) (hs:∀ x,foldedSetIterable iter X.env x=pure x:=by intro _; rfl):QS X (.For tg iter body [] pos) (LS X.K (dFor fi g b)):=⟨zbg6 (hp:=hp) (hc:=hc) (hi:=hi.pe) (hg:=hg.pe) (hb:=hb.pe) (hs:=hs)⟩
end
section
variable {X:Cx} {a e:Expr} {es:List Expr} {f:DE} {ga:DA} {pos p p1 p2 p3 p4:Pos}
end
section
variable {X:Cx} {a e:Expr} {es:List Expr} {f:DE} {ga:DA} {pos p p1 p2 p3 p4:Pos}
theorem zaO8 {T:Str} {c:String} (hg:Gl X "isinstance") (hm:X.mg "isinstance"=none) (hgT:Gl X T) (hmT:X.mg T=none) (hv:bootBuiltins T=some (.type c)) (hc:c="int"∨c="bool"∨c="str"∨c="tuple"∨c="list") (ha:QE X a (LE X.K f)) (hn:T≠"__name__":=by decide) (hd:(T == ("__debug__" : Str))=false:=by decide) (he:starEach [a,.Name T p2] X.env=(false,eval a X.env) :: starEach [.Name T p2] X.env:=by rfl):QE X (.Call (.Name "isinstance" p1) [a,.Name T p2] [] pos) (LE X.K (dIsi f c)):=⟨zbc0 (hg:=hg) (hm:=hm) (hgT:=hgT) (hmT:=hmT) (hv:=hv) (hc:=hc) (ha:=ha.pe) (hn:=hn) (hd:=hd) (he:=he)⟩
end
section
variable {X:Cx} {a e:Expr} {es:List Expr} {f:DE} {ga:DA} {pos p p1 p2 p3 p4:Pos}
end
section
variable {X:Cx} {a e:Expr} {es:List Expr} {f:DE} {ga:DA} {pos p p1 p2 p3 p4:Pos}
theorem za8 {k n:Nat} {fa:Addr} {fd:FuncData} {ps:List Str} {sp:DC} {x:Str} (F:FnOk X.prog X.w X.K X.mg X.base CX0 k fa fd ps (LSp X.K n sp)) (hr:Room k X.A) (hm:X.mg x=some (.ref fa)) (hk:PySem.W.keepIn X.K (.ref fa)=true) (hb:Binds X.K fd ps []) (hx:X.xe=fun _ _=>False) (ha:QA X (e :: es) (LA X.K ga)) (hg:Gl X x:=by rfl) (hdb:(x == ("__debug__" : Str))=false:=by decide) (he:starEach (e :: es) X.env=(false,eval e X.env) :: starEach es X.env:=by rfl) (hpl:(backTo pos (starEach es X.env)).any (·.1)=false:=by rfl):QE X (.Call (.Name x p) (e :: es) [] pos) (LE X.K (zc2 n sp ga)):=⟨zaQ5 (F:=F) (hr:=hr) (hm:=hm) (hk:=hk) (hb:=hb) (hx:=hx) (ha:=ha.pe) (hg:=hg) (hdb:=hdb) (he:=he) (hpl:=hpl)⟩
end
section
theorem zy1 {Y:Cx}:QF Y [] (LT Y.K zK2):=⟨zbb2 ⟩
end
section
theorem zaB8 {Y:Cx} {c:Expr} {t:TT} (h:QT Y c t):QF Y [c] t:=⟨zaZ5 (h:=h.pe)⟩
end
section
variable {X:Cx} {a e o:Expr} {es:List Expr} {f g:DE} {ga:DA} {pos p p1 p2:Pos}
theorem zaS2 {x:Str} {c:Addr} {zs:List Str} (hg:Gl X x) (hm:X.mg x=some (.ref c)) (hk:KT X.K c zs) (hd:(x == ("__debug__" : Str))=false:=by decide):QE X (.Name x pos) (LE X.K (dCon (.tuple (zs.map .str)))):=⟨zba4 (hg:=hg) (hm:=hm) (hk:=hk) (hd:=hd)⟩
end
section
variable {X:Cx} {a e o:Expr} {es:List Expr} {f g:DE} {ga:DA} {pos p p1 p2:Pos}
end
section
variable {X:Cx} {a e o:Expr} {es:List Expr} {f g:DE} {ga:DA} {pos p p1 p2:Pos}
end
section
variable {X:Cx} {tg iter elt:Expr} {ifs:List Expr} {scope:Scope} {fi:DI} {g:DG} {t:DT} {f:DE} {pos:Pos}
theorem zX1 (NC:List Str) (src:List (Option Nat)) (hc:X.calm=true) (hi:QI X tg iter (LI X.K fi)) (hg:∀ cl C s2 H2 pins fp,QG (cyOf X scope cl C NC s2 H2 pins fp) tg (LG X.K g)) (ht:∀ cl C s2 H2 pins fp,QF (cyOf X scope cl C NC s2 H2 pins fp) ifs (LT X.K t)) (he:∀ cl C s2 H2 pins fp,QE (cyOf X scope cl C NC s2 H2 pins fp) elt (LE X.K f)) (hkind:scope.kind=.function:=by rfl) (hB:chkB scope X.env=true:=by rfl) (hS:chkS X.N scope X.env NC src=true:=by rfl) (hs:∀ x,foldedSetIterable iter X.env x=pure x:=by intro _; rfl):QE X (.ListComp elt [⟨tg,iter,ifs,0⟩] scope pos) (LE X.K (dLC src fi g t f)):=⟨zbd3 (NC:=NC) (src:=src) (hc:=hc) (hi:=hi.pe) (hg:=fun cl C s2 H2 pins fp=>(hg cl C s2 H2 pins fp).pe) (ht:=fun cl C s2 H2 pins fp=>(ht cl C s2 H2 pins fp).pe) (he:=fun cl C s2 H2 pins fp=>(he cl C s2 H2 pins fp).pe) (hkind:=hkind) (hB:=hB) (hS:=hS) (hs:=hs)⟩
end
section
variable {X:Cx} {tg iter elt:Expr} {ifs:List Expr} {scope:Scope} {fi:DI} {g:DG} {t:DT} {f:DE} {pos:Pos}
theorem zar2 (NC:List Str) (src:List (Option Nat)) (hc:X.calm=true) (hi:QI X tg iter (LI X.K fi)) (hg:∀ cl C s2 H2 pins fp,QG (cyOf X scope cl C NC s2 H2 pins fp) tg (LG X.K g)) (ht:∀ cl C s2 H2 pins fp,QF (cyOf X scope cl C NC s2 H2 pins fp) ifs (LT X.K t)) (he:∀ cl C s2 H2 pins fp,QE (cyOf X scope cl C NC s2 H2 pins fp) elt (LE X.K f)) (hkind:scope.kind=.function:=by rfl) (hB:chkB scope X.env=true:=by rfl) (hS:chkS X.N scope X.env NC src=true:=by rfl) (hs:∀ x,foldedSetIterable iter X.env x=pure x:=by intro _; rfl):QE X (.ListComp elt [⟨tg,iter,ifs,0⟩] scope pos) (LE X.K (dLCC src fi g t f)):=⟨zaV0 (NC:=NC) (src:=src) (hc:=hc) (hi:=hi.pe) (hg:=fun cl C s2 H2 pins fp=>(hg cl C s2 H2 pins fp).pe) (ht:=fun cl C s2 H2 pins fp=>(ht cl C s2 H2 pins fp).pe) (he:=fun cl C s2 H2 pins fp=>(he cl C s2 H2 pins fp).pe) (hkind:=hkind) (hB:=hB) (hS:=hS) (hs:=hs)⟩
end
section
variable {X:Cx} {tg iter elt:Expr} {ifs:List Expr} {scope:Scope} {fi:DI} {g:DG} {t:DT} {f:DE} {pos:Pos}
theorem zax9 (i:Nat) {y:Str} {py spos:Pos} (NC:List Str) (src:List (Option Nat)) (hc:X.calm=true) (hN:X.N.Nodup) (hi:QI X tg iter (LI X.K fi)) (hg:∀ cl C s2 H2 pins fp,QG (cyOf X scope cl C NC s2 H2 pins fp) tg (LG X.K g)) (ht:∀ cl C s2 H2 pins fp,QF (cyOf X scope cl C NC s2 H2 pins fp) ifs (LT X.K t)) (he:∀ cl C s2 H2 pins fp,QE (cyOf X scope cl C NC s2 H2 pins fp) elt (LE X.K f)) (hkind:scope.kind=.function:=by rfl) (hB:chkB scope X.env=true:=by rfl) (hS:chkS X.N scope X.env NC src=true:=by rfl) (hi2:X.N[i]?=some y:=by rfl) (hx:Loc X.env.scope y:=by first | exact Or.inl rfl | exact Or.inr rfl) (hf:X.fn y=true∨X.env.scope.names.lookup y=some .local:=by first | exact .inl rfl | exact .inr rfl) (hsw:swapsWith (.ListComp elt [⟨tg,iter,ifs,0⟩] scope pos) (some (.Name y py)) spos.line X.env=pure true:=by rfl) (hs:∀ x,foldedSetIterable iter X.env x=pure x:=by intro _; rfl):QS X (.Assign [.Name y py] (.ListComp elt [⟨tg,iter,ifs,0⟩] scope pos) spos) (LS X.K (dSet i (dLC src fi g t f))):=⟨zbc7 (i:=i) (NC:=NC) (src:=src) (hc:=hc) (hN:=hN) (hi:=hi.pe) (hg:=fun cl C s2 H2 pins fp=>(hg cl C s2 H2 pins fp).pe) (ht:=fun cl C s2 H2 pins fp=>(ht cl C s2 H2 pins fp).pe) (he:=fun cl C s2 H2 pins fp=>(he cl C s2 H2 pins fp).pe) (hkind:=hkind) (hB:=hB) (hS:=hS) (hi2:=hi2) (hx:=hx) (hf:=hf) (hsw:=hsw) (hs:=hs)⟩
end
section
variable {X:Cx} {a b:Expr} {elts:List Expr} {j:Nat} {f g:DE} {pos p p2:Pos}
theorem zaU2 (hg:Gl X "zip") (hm:X.mg "zip"=none) (ha:QE X a (LE X.K f)) (hb:QE X b (LE X.K g)) (hs:starEach [a,b] X.env=[(false,eval a X.env),(false,eval b X.env)]:=by rfl) (hs2:starEach [b] X.env=[(false,eval b X.env)]:=by rfl):QI X (.Tuple elts j p2) (.Call (.Name "zip" p) [a,b] [] pos) (LI X.K (zaF8 f g)):=⟨zbd6 (hg:=hg) (hm:=hm) (ha:=ha.pe) (hb:=hb.pe) (hs:=hs) (hs2:=hs2)⟩
end
section
variable {X:Cx} {a e o:Expr} {es:List Expr} {f g:DE} {ga:DA} {pos p p1 p2:Pos}
end
section
variable {X:Cx} {a e o:Expr} {es:List Expr} {f g:DE} {ga:DA} {pos p p1 p2:Pos}
theorem zap2 {apos cpos:Pos} (ho:QE X o (LE X.K f)) (he:QE X e (LE X.K g)) (hbase:attributeBase o "append" X.env (eval o X.env)=eval o X.env:=by rfl) (hfew:((backTo cpos (starEach [e] X.env)).all (fun x=>!x.1) && (backToKw cpos (keywordEach [] X.env)).all (fun x=>x.1.isSome) && decide ([e].length + ([]:List Keyword).length + (if ([]:List Keyword).isEmpty then 0 else 1) < 30))=true:=by rfl) (hline:(apos.endLine == cpos.line)=true:=by rfl) (hs:starEach [e] X.env=(false,eval e X.env) :: starEach [] X.env:=by rfl):QE X (.Call (.Attribute o "append" apos) [e] [] cpos) (LE X.K (dApp f g)):=⟨zaX2 (ho:=ho.pe) (he:=he.pe) (hbase:=hbase) (hfew:=hfew) (hline:=hline) (hs:=hs)⟩
end
section
variable {X:Cx} {a e o:Expr} {es:List Expr} {f g:DE} {ga:DA} {pos p p1 p2:Pos}
theorem zaC0 {lo hi:Option Expr} {tl th:DO} (ha:QE X a (LE X.K f)) (hl:QO X lo (LO X.K tl)) (hu:QO X hi (LO X.K th)):QE X (.Subscript a (.Slice lo hi none p2) pos) (LE X.K (dSlX f tl th)):=⟨zbe2 (ha:=ha.pe) (hl:=hl.pe) (hu:=hu.pe)⟩
end
section
variable {X:Cx} {o i e:Expr} {fo fi f:DE} {pos tpos:Pos}
end
section
variable {X:Cx} {o i e:Expr} {fo fi f:DE} {pos tpos:Pos}
end
section
variable {X:Cx} {o i e:Expr} {fo fi f:DE} {pos tpos:Pos}
theorem zad0 (hu:X.A.units + 100 < cLine) (ho:QE X o (LE X.K fo)) (hi:QE X i (LE X.K fi)) (hs:NoSl i:=by exact fun _ _=>rfl):QE X (.Subscript o i pos) (LE X.K (zaD3 fo fi)):=⟨zaQ4 (hu:=hu) (ho:=ho.pe) (hi:=hi.pe) (hs:=hs)⟩
end
section
variable {X:Cx} {e:Expr} {f:DE} {pos p p2 pos2:Pos}
end
section
variable {X:Cx} {i e g:Expr} {fi f fg:DE} {p pos apos cpos:Pos}
theorem zaA4 {x:Str} {c:Addr} {kvs:List (Str×PyData)} (hg:Gl X x) (hm:X.mg x=some (.ref c)) (hk:KD X.K X.w c kvs) (hi:QE X i (LE X.K fi)) (hd:(x == ("__debug__" : Str))=false:=by decide) (hs:NoSl i:=by exact fun _ _=>rfl):QE X (.Subscript (.Name x p) i pos) (LE X.K (zat2 kvs fi)):=⟨zaK4 (hg:=hg) (hm:=hm) (hk:=hk) (hi:=hi.pe) (hd:=hd) (hs:=hs)⟩
end
section
variable {X:Cx} {i e g:Expr} {fi f fg:DE} {p pos apos cpos:Pos}
end
section
variable {X:Cx} {e g:Expr} {f fg:DE} {tg:Expr} {pos:Pos}
end
section
variable {X:Cx} {o i e:Expr} {es:List Expr} {fo f:DE} {fa:DA} {pos tpos ipos:Pos} {j:Nat}
theorem zaL7  : QE X (.Dict [] [] pos) (LE X.K zaW2):=⟨zaR3 ⟩
end
section
variable {X:Cx} {o i e:Expr} {es:List Expr} {fo f:DE} {fa:DA} {pos tpos ipos:Pos} {j:Nat}
theorem zaI5 (hu:X.A.units + 100 < cLine) (he:QE X e (LE X.K f)) (ho:QE X o (LE X.K fo)) (ha:QA X es (LA X.K fa)) (hs:swapsWith e (some (.Subscript o (.Tuple es j ipos) tpos)) pos.line X.env=pure false:=by rfl):QS X (.Assign [.Subscript o (.Tuple es j ipos) tpos] e pos) (LS X.K (zaR7 fo fa f)):=⟨zaP5 (hu:=hu) (he:=he.pe) (ho:=ho.pe) (ha:=ha.pe) (hs:=hs)⟩
end
section
variable {X:Cx} {o i e:Expr} {es:List Expr} {fo f:DE} {fa:DA} {pos tpos ipos:Pos} {j:Nat}
end
section
variable {X:Cx} {e:Expr} {f:DE} {pos p:Pos}
theorem zah6 (hc:X.calm=true) (hg:Gl X "dict") (hm:X.mg "dict"=none) (he:QE X e (LE X.K f)) (hs:starEach [e] X.env=[(false,eval e X.env)]:=by rfl):QE X (.Call (.Name "dict" p) [e] [] pos) (LE X.K (zar8 f)):=⟨zaJ2 (hc:=hc) (hg:=hg) (hm:=hm) (he:=he.pe) (hs:=hs)⟩
end
section
variable {X:Cx} {tg iter tg2 iter2 elt:Expr} {ifs ifs2:List Expr} {scope:Scope} {NC:List Str} {fi fi2:DI} {g g2:DG} {t t2:DT} {f:DE} {pos:Pos}
end
section
variable {X:Cx} {tg iter tg2 iter2 elt:Expr} {ifs ifs2:List Expr} {scope:Scope} {NC:List Str} {fi fi2:DI} {g g2:DG} {t t2:DT} {f:DE} {pos:Pos}
theorem zaH1 (NC:List Str) (src:List (Option Nat)) (hc:X.calm=true) (hi:QI X tg iter (LI X.K fi)) (hg:∀ cl C s2 H2 pins fp,QG (cyOf X scope cl C NC s2 H2 pins fp) tg (LG X.K g)) (ht:∀ cl C s2 H2 pins fp,QF (cyOf X scope cl C NC s2 H2 pins fp) ifs (LT X.K t)) (hi2:∀ cl C s2 H2 pins fp,QI (cyOf X scope cl C NC s2 H2 pins fp) tg2 iter2 (LI X.K fi2)) (hg2:∀ cl C s2 H2 pins fp,QG (cyOf X scope cl C NC s2 H2 pins fp) tg2 (LG X.K g2)) (ht2:∀ cl C s2 H2 pins fp,QF (cyOf X scope cl C NC s2 H2 pins fp) ifs2 (LT X.K t2)) (he:∀ cl C s2 H2 pins fp,QE (cyOf X scope cl C NC s2 H2 pins fp) elt (LE X.K f)) (hkind:scope.kind=.function:=by rfl) (hB:chkB scope X.env=true:=by rfl) (hS:chkS X.N scope X.env NC src=true:=by rfl) (hs2:∀ cl C x,foldedSetIterable iter2 (compEnvC scope cl C X.env) x=pure x:=by intro _ _ _; rfl) (hs:∀ x,foldedSetIterable iter X.env x=pure x:=by intro _; rfl):QE X (.ListComp elt [⟨tg,iter,ifs,0⟩,⟨tg2,iter2,ifs2,0⟩] scope pos) (LE X.K (dLC2 src fi g t fi2 g2 t2 f)):=⟨zaW9 (NC:=NC) (src:=src) (hc:=hc) (hi:=hi.pe) (hg:=fun cl C s2 H2 pins fp=>(hg cl C s2 H2 pins fp).pe) (ht:=fun cl C s2 H2 pins fp=>(ht cl C s2 H2 pins fp).pe) (hi2:=fun cl C s2 H2 pins fp=>(hi2 cl C s2 H2 pins fp).pe) (hg2:=fun cl C s2 H2 pins fp=>(hg2 cl C s2 H2 pins fp).pe) (ht2:=fun cl C s2 H2 pins fp=>(ht2 cl C s2 H2 pins fp).pe) (he:=fun cl C s2 H2 pins fp=>(he cl C s2 H2 pins fp).pe) (hkind:=hkind) (hB:=hB) (hS:=hS) (hs2:=hs2) (hs:=hs)⟩
end
section
variable {X:Cx} {e g:Expr} {fi fg:DE} {p apos cpos:Pos}
theorem zaw0 {x:Str} {c:Addr} {kvs:List (List Str×PyData)} (hu:X.A.units + 100 < cLine) (hg:Gl X x) (hm:X.mg x=some (.ref c)) (hk:KTD X.K X.w c kvs) (he:QE X e (LE X.K fi)) (hf:QE X g (LE X.K fg)) (hd:(x == ("__debug__" : Str))=false:=by decide) (hbase:attributeBase (.Name x p) "get" X.env (eval (.Name x p) X.env)=eval (.Name x p) X.env:=by rfl) (hfew:((backTo cpos (starEach [e,g] X.env)).all (fun x=>!x.1) && (backToKw cpos (keywordEach [] X.env)).all (fun x=>x.1.isSome) && decide (([e,g]:List Expr).length + ([]:List Keyword).length + (if ([]:List Keyword).isEmpty then 0 else 1) < 30))=true:=by rfl) (hline:(apos.endLine == cpos.line)=true:=by rfl) (hs:backTo cpos (starEach [e,g] X.env)=[(false,eval e X.env),(false,eval g X.env)]:=by rfl):QE X (.Call (.Attribute (.Name x p) "get" apos) [e,g] [] cpos) (LE X.K (zaf3 kvs fi fg)):=⟨zaD0 (hu:=hu) (hg:=hg) (hm:=hm) (hk:=hk) (he:=he.pe) (hf:=hf.pe) (hd:=hd) (hbase:=hbase) (hfew:=hfew) (hline:=hline) (hs:=hs)⟩
end
section
variable {X:Cx} {o e:Expr} {f g:DE} {apos cpos:Pos}
theorem zas4 (ho:QE X o (LE X.K f)) (he:QE X e (LE X.K g)) (hbase:attributeBase o "index" X.env (eval o X.env)=eval o X.env:=by rfl) (hfew:((backTo cpos (starEach [e] X.env)).all (fun x=>!x.1) && (backToKw cpos (keywordEach [] X.env)).all (fun x=>x.1.isSome) && decide ([e].length + ([]:List Keyword).length + (if ([]:List Keyword).isEmpty then 0 else 1) < 30))=true:=by rfl) (hline:(apos.endLine == cpos.line)=true:=by rfl) (hs:backTo cpos (starEach [e] X.env)=[(false,eval e X.env)]:=by rfl):QE X (.Call (.Attribute o "index" apos) [e] [] cpos) (LE X.K (zaJ6 f g)):=⟨zaT5 (ho:=ho.pe) (he:=he.pe) (hbase:=hbase) (hfew:=hfew) (hline:=hline) (hs:=hs)⟩
end
section
variable {X:Cx} {o e:Expr} {f g:DE} {apos cpos:Pos}
end
section
variable {X:Cx} {a:Expr} {f:DE} {pos p2:Pos}
end
section
variable {X:Cx} {a:Expr} {elts:List Expr} {j:Nat} {f:DE} {pos p p2:Pos}
end
section
variable {X:Cx} {a:Expr} {elts:List Expr} {j:Nat} {f:DE} {pos p p2:Pos}
end
section
variable {X:Cx} {a b:Expr} {elts:List Expr} {j:Nat} {f g:DE} {pos p p2:Pos}
end
section
variable {X:Cx} {a:Expr} {f:DE} {pos p2:Pos}
end
section
variable {X:Cx} {e:Expr} {f:DE} {pos p:Pos}
end
section
variable {X:Cx} {a b:Expr} {f g:DE} {pos p p2 pos2:Pos}
theorem zau6 (hc:X.calm=true) (hg:Gl X "tuple") (hm:X.mg "tuple"=none) (hg2:Gl X "zip") (hm2:X.mg "zip"=none) (ha:QE X a (LE X.K f)) (hb:QE X b (LE X.K g)) (hs:starEach [a,b] X.env=[(false,eval a X.env),(false,eval b X.env)]:=by rfl) (hs2:starEach [b] X.env=[(false,eval b X.env)]:=by rfl) (hs3:starEach [.Call (.Name "zip" p2) [a,b] [] pos2] X.env=[(false,eval (.Call (.Name "zip" p2) [a,b] [] pos2) X.env)]:=by rfl):QE X (.Call (.Name "tuple" p) [.Call (.Name "zip" p2) [a,b] [] pos2] [] pos) (LE X.K (zan5 f g)):=⟨zaz1 (hc:=hc) (hg:=hg) (hm:=hm) (hg2:=hg2) (hm2:=hm2) (ha:=ha.pe) (hb:=hb.pe) (hs:=hs) (hs2:=hs2) (hs3:=hs3)⟩
end
section
variable {X:Cx} {o e:Expr} {f g:DE}
theorem zaC3 {apos cpos:Pos} (ho:QE X o (LE X.K f)) (he:QE X e (LE X.K g)) (hbase:attributeBase o "extend" X.env (eval o X.env)=eval o X.env:=by rfl) (hfew:((backTo cpos (starEach [e] X.env)).all (fun x=>!x.1) && (backToKw cpos (keywordEach [] X.env)).all (fun x=>x.1.isSome) && decide ([e].length + ([]:List Keyword).length + (if ([]:List Keyword).isEmpty then 0 else 1) < 30))=true:=by rfl) (hline:(apos.endLine == cpos.line)=true:=by rfl) (hs:starEach [e] X.env=(false,eval e X.env) :: starEach [] X.env:=by rfl):QE X (.Call (.Attribute o "extend" apos) [e] [] cpos) (LE X.K (dExt f g)):=⟨zbb4 (ho:=ho.pe) (he:=he.pe) (hbase:=hbase) (hfew:=hfew) (hline:=hline) (hs:=hs)⟩
end
section
variable {X:Cx} {o e:Expr} {f g:DE}
end
section
variable {X:Cx} {e:Expr} {f:DE}
end
section
variable {X:Cx} {pos:Pos}
theorem zaE2  : QD X pos [] [] []:=⟨zaZ7 ⟩
end
section
variable {X:Cx} {pos:Pos}
theorem zy7 {k v:Expr} {ks:List (Option Expr)} {vs:List Expr} {fk fv:DE} {ps:List (DE×DE)} (hk:QE X k (LE X.K fk)) (hv:QE X v (LE X.K fv)) (hr:QD X pos ks vs ps):QD X pos (some k :: ks) (v :: vs) ((fk,fv) :: ps):=⟨zaT7 (hk:=hk.pe) (hv:=hv.pe) (hr:=hr.pe)⟩
end
section
variable {X:Cx} {pos:Pos}
theorem zas2 {keys:List (Option Expr)} {values:List Expr} {ps:List (DE×DE)} (h:QD X pos keys values ps) (hall:keys.all (·.isSome)=true:=by rfl) (hl:keys.length=values.length:=by rfl) (h0:keys≠[]:=by exact List.cons_ne_nil _ _) (h15:keys.length≤15:=by decide):QE X (.Dict keys values pos) (LE X.K (zaG6 ps)):=⟨zaU7 (h:=h.pe) (hall:=hall) (hl:=hl) (h0:=h0) (h15:=h15)⟩
end
section
variable {X:Cx} {pos:Pos}
variable {o e:Expr} {f g:DE}
theorem zaG5 {apos cpos:Pos} (ho:QE X o (LE X.K f)) (he:QE X e (LE X.K g)) (M:M1 X o "update" apos e cpos:=by exact ⟨by rfl,by rfl,by rfl,by rfl⟩):QE X (.Call (.Attribute o "update" apos) [e] [] cpos) (LE X.K (zaQ1 f g)):=⟨zaT3 (ho:=ho.pe) (he:=he.pe) (M:=M)⟩
end
section
variable {X:Cx} {o i:Expr} {fo fi:DE} {pos:Pos}
theorem zx0 (hu:X.A.units + 100 < cLine) (ho:QE X o (LE X.K fo)) (hi:QE X i (LE X.K fi)) (hs:NoSl i:=by exact fun _ _=>rfl):QE X (.Subscript o i pos) (LE X.K (zA4 fo fi)):=⟨zaG2 (hu:=hu) (ho:=ho.pe) (hi:=hi.pe) (hs:=hs)⟩
end
section
variable {X:Cx} {e:Expr} {f:DE} {pos p p2 pos2:Pos}
end
section
variable {X:Cx} {e:Expr} {f:DE} {pos p p2 pos2:Pos}
variable {e2:Expr} {f2:DE}
end
section
variable {X:Cx} {a b c:Expr} {f g h:DE} {pos:Pos}
end
section
variable {X:Cx} {a b c:Expr} {f g h:DE} {pos:Pos}
end
section
variable {X:Cx} {a b c:Expr} {f g h:DE} {pos:Pos}
end
section
variable {X:Cx} {a b c:Expr} {f g h:DE} {pos:Pos}
end
section
variable {P:Program} {w:World} {K:PySem.W.Frag} {mg:Str→Option Value} {base:Heap}
theorem zb8 {x qual:Str} {st:Stmt} {fa:Addr} {fd:FuncData} {N ps:List Str} {k:Nat} {sp:DC} {body:DS} (F:Fun K x qual st fa fd) (S:FnScope N ps (za7 st))
  (hb:∀ (cdv:Value) (A:Around) (outer:List Env) (s:Shared) (H:Hp) (E:XK),Room k (A.deeper (envOfC qual (za7 st) s.heap.objs.size fa cdv))→QSs (cxOf CX0 P w K mg base N qual (za7 st) fa cdv A outer s H E).nox (zc0 st) (LS K body))
  (hv:∀ ds m R,ds.length=ps.length→sp ds m R→body { nx:=fun _ m=>R (.dat .none) m,rt:=R } (zb2 N ds) m):FnOk P w K mg base CX0 (k + 1) fa fd ps (LSp K ps.length sp):=zaR6 F S (fun cdv A outer s H E hr=>(hb cdv A outer s H E hr).pe) hv
end
end DL
set_option maxHeartbeats 1000000
namespace K01
open PySem PySem.Spec PyProof.Rows L2 DL
theorem zar5 (a b:Int):Int.gcd b (a.fmod b)=Int.gcd a b:=by
 have h:a.fmod b=a - b * a.fdiv b:=by
  have:=Int.mul_fdiv_add_fmod a b
  omega
 rw [h]
 have h2:a - b * a.fdiv b=a + b * (-(a.fdiv b)):=by rw [Int.mul_neg]; omega
 rw [h2,Int.gcd_add_mul_left_right,Int.gcd_comm]
theorem zaC6 (a b:Int) (h:b≠0):(a.fmod b).natAbs < b.natAbs:=by
 rcases Int.lt_or_gt_of_ne h with h | h
 ·have h1:=Int.neg_fmod_neg a b
  have h2:=Int.fmod_lt_of_pos (-a) (show 0 < -b by omega)
  have h3:=Int.fmod_nonneg_of_pos (-a) (show 0 < -b by omega)
  omega
 ·have h2:=Int.fmod_lt_of_pos a h
  have h3:=Int.fmod_nonneg_of_pos a h
  omega
theorem log2_lt {n k:Nat} (h:n < 2 ^ k) (hk:0 < k):n.log2 < k:=by
 by_cases hn:n=0
 ·subst hn
  simpa using hk
 ·exact (Nat.log2_lt hn).mpr h
def Bd (n:Nat) (i:Int):Prop:=i.natAbs < 2 ^ n
theorem Bd.mono {m n:Nat} {i:Int} (h:Bd m i) (hl:m≤n):Bd n i:=Nat.lt_of_lt_of_le h (Nat.pow_le_pow_right (by decide) hl)
theorem Bd.mul {m n:Nat} {i j:Int} (h:Bd m i) (g:Bd n j):Bd (m + n) (i * j):=by
 unfold Bd at *
 rw [Int.natAbs_mul,Nat.pow_add]
 exact Nat.mul_lt_mul'' h g
theorem Bd.add {n:Nat} {i j:Int} (h:Bd n i) (g:Bd n j):Bd (n + 1) (i + j):=by
 unfold Bd at *
 have:=Int.natAbs_add_le i j
 rw [Nat.pow_succ]
 omega
theorem Bd.neg {n:Nat} {i:Int} (h:Bd n i):Bd n (-i):=by
 unfold Bd at *
 rw [Int.natAbs_neg]
 exact h
theorem Bd.sub {n:Nat} {i j:Int} (h:Bd n i) (g:Bd n j):Bd (n + 1) (i - j):=by
 rw [Int.sub_eq_add_neg]
 exact h.add g.neg
theorem Bd.log {n:Nat} {i:Int} (h:Bd n i) (hn:0 < n):i.natAbs.log2 < n:=log2_lt h hn
theorem Bd.mulOk {m n:Nat} {i j:Int} (h:Bd m i) (g:Bd n j) (hm:m + n≤134217728):IntMulOk i j :=
 IntMulOk.of_le (intBits_le_iff.mpr h) (intBits_le_iff.mpr g) hm
def fr (t b:Int):PyData:=.tuple [.int (t / (Int.gcd t b:Int)),.int (b / (Int.gcd t b:Int))]
theorem zan0 {t b:Int} (h:b≠0):(0:Int) < (Int.gcd t b:Int):=by
 have:=Int.gcd_pos_of_ne_zero_right t h
 omega
theorem zaV5 {x g:Int} (hg:0 < g) (hd:g∣x):0 < x / g ↔ 0 < x:=by
 obtain ⟨y,rfl⟩:=hd
 rw [Int.mul_ediv_cancel_left _ (by omega)]
 constructor
 ·intro h; exact Int.mul_pos hg h
 ·intro h; exact Int.pos_of_mul_pos_right h hg
end K01
namespace K01
open PySem PySem.Spec PyProof.Rows L2 DL
section
variable {κ:Type} [DecidableEq κ]
theorem zaq1 {k j:κ} {p:PyData}:∀ kvs:List (κ×PyData),(kvs.map fun kv=>if kv.1=k then (kv.1,p) else kv).find? (fun kv=>decide (kv.1=j))=((kvs.find? fun kv=>decide (kv.1=j)).map fun kv=>if kv.1=k then (kv.1,p) else kv)
 | []=>rfl
 | kv :: r=>by
  have e:(if kv.1=k then (kv.1,p) else kv).1=kv.1:=by split <;> rfl
  rw [List.map_cons,List.find?_cons,List.find?_cons,e]
  cases decide (kv.1=j) with
  | true=>rfl
  | false=>exact zaq1 r
theorem zae3 (kvs:List (κ×PyData)) (k j:κ) (p:PyData):valP (putP kvs k p) j=if j=k then some p else valP kvs j:=by
 unfold putP
 split
 ·rename_i ha
  unfold valP
  rw [zaq1]
  cases e:kvs.find? (fun kv=>decide (kv.1=j)) with
  | none =>
   have ne:j≠k:=by
    rintro rfl
    rw [List.find?_eq_none] at e
    obtain ⟨x,hx,q⟩:=List.any_eq_true.mp ha
    exact e x hx q
   rw [if_neg ne]
   rfl
  | some kv =>
   have q:=List.find?_some e
   have q:kv.1=j:=by simpa using q
   by_cases c:j=k
   ·rw [if_pos c]
    simp [q,c]
   ·rw [if_neg c]
    simp [q,c]
 ·rename_i ha
  have ha:kvs.any (fun kv=>decide (kv.1=k))=false:=Bool.eq_false_iff.mpr ha
  unfold valP
  rw [List.find?_append]
  by_cases c:j=k
  ·subst c
   have:kvs.find? (fun kv=>decide (kv.1=j))=none:=by
    rw [List.find?_eq_none]
    intro x hx
    have:=List.any_eq_false.mp ha x hx
    simpa using this
   rw [this,if_pos rfl]
   simp
  ·rw [if_neg c]
   cases e:kvs.find? (fun kv=>decide (kv.1=j)) with
   | none=>simp [Ne.symm c]
   | some kv=>simp
theorem zK5 (kvs:List (κ×PyData)) (k:κ) (p:PyData):(putP kvs k p).length≤kvs.length + 1:=by
 unfold putP
 split <;> simp
end
def Sv (B w e:Nat) (p:PyData):Prop:=p.showable=true∧p.leavesShort B=true∧p.weight≤w∧p.depth≤e
theorem Sv.mono {B w e w' e':Nat} {p:PyData} (h:Sv B w e p) (h1:w≤w') (h2:e≤e'):Sv B w' e' p:=⟨h.1,h.2.1,Nat.le_trans h.2.2.1 h1,Nat.le_trans h.2.2.2 h2⟩
theorem zaO7 {B w e:Nat}:∀ {xs:List PyData},(∀ x∈xs,Sv B w e x)→PyData.showableAll xs=true∧PyData.leavesShortAll B xs=true∧PyData.weightAll xs≤(w + 1) * xs.length∧PyData.depthAll xs≤e
 | [],_=>by simp [PyData.showableAll,PyData.leavesShortAll,PyData.weightAll,PyData.depthAll]
 | x :: xs,h=>by
  obtain ⟨i1,i2,i3,i4⟩:=zaO7 fun y hy=>h y (List.mem_cons_of_mem _ hy)
  obtain ⟨s1,s2,s3,s4⟩:=h x List.mem_cons_self
  refine ⟨?_,?_,?_,?_⟩
  ·simp only [PyData.showableAll,i1,s1,Bool.and_self]
  ·simp only [PyData.leavesShortAll,i2,s2,Bool.and_self]
  ·simp only [PyData.weightAll,List.length_cons]
   rw [Nat.mul_add]
   omega
  ·simp only [PyData.depthAll]
   omega
theorem zC9 {B w e n:Nat} {xs:List PyData} (h:∀ x∈xs,Sv B w e x) (hn:xs.length≤n):Sv B ((w + 1) * n) (e + 1) (.tuple xs):=by
 obtain ⟨i1,i2,i3,i4⟩:=zaO7 h
 refine ⟨by simpa only [PyData.showable] using i1,by rw [PyData.leavesShort]; exact i2,?_,?_⟩
 ·simp only [PyData.weight]
  exact Nat.le_trans i3 (Nat.mul_le_mul_left _ hn)
 ·simp only [PyData.depth]
  omega
theorem zbf8 {B w:Nat} {z:Str} (h1:z.cps.toList.all (fun c=>decide (c < 1114112))=true) (h2:z.length≤w):Sv B w 1 (.str z):=by
 refine ⟨by simp [PyData.showable],?_,by simp only [PyData.weight]; exact h2,by simp [PyData.depth]⟩
 unfold PyData.leavesShort
 rw [List.all_eq_true]
 intro c hc
 have:=List.all_eq_true.mp h1 c hc
 simp at this
 exact decide_eq_true (Nat.lt_trans this (by decide))
theorem zaA6 {B w:Nat} (b:Bool):Sv B w 1 (.bool b):=⟨by cases b <;> rfl,by rw [PyData.leavesShort],by simp [PyData.weight],by simp [PyData.depth]⟩
theorem zaB0 {n B w:Nat} {i:Int} (h:Bd n i) (n0:0 < n) (hn:n≤1900) (hw:n≤w) (hB:n≤3 * B - 3) (hB1:2≤B):Sv B w 1 (.int i):=by
 have lg:=h.log n0
 refine ⟨?_,?_,?_,by simp [PyData.depth]⟩
 ·simp only [PyData.showable,decide_eq_true_eq]
  exact Nat.lt_of_lt_of_le lg (Nat.le_trans hn (by decide))
 ·simp only [PyData.leavesShort,decide_eq_true_eq]
  have q:i.natAbs < 10 ^ (B - 1):=by
   refine Nat.lt_of_lt_of_le h (Nat.le_trans (Nat.pow_le_pow_right (by decide) (show n≤3 * (B - 1) by omega)) ?_)
   rw [Nat.pow_mul]
   exact Nat.pow_le_pow_left (by decide) _
  have e:=int_text_length_le10 (k:=B - 1) (by omega) q
  show (Str.ofString (toString i)).length≤B
  rw [PySem.ofString_length]
  omega
 ·simp only [PyData.weight]
  split <;> omega
theorem zaB4 {B w e:Nat} {p:PyData} (h:Sv B w e p) (hB:8≤B) (hw:(B + 2) * w + B≤16777216) (he:e≤100):p.showable=true∧p.shown.length≤sizeLine∧p.depth≤100:=by
 refine ⟨h.1,?_,Nat.le_trans h.2.2.2 he⟩
 have q:=PyData.shown_le B hB p h.2.1
 have q2:=Nat.mul_le_mul_left (B + 2) h.2.2.1
 rw [sizeLine_eq]
 omega
end K01
namespace K19
open PySem PySem.Spec PyProof.Rows L2 DL K01
abbrev I (i:Int):D:=.dat (.int i)
def Tp (n:Int) (m:Mu) (a:Addr):Prop:=∃ (ns:List Int) (i j t:Int),m a=some (.l [.list (ns.map .int),.int i,.int j,.int t])∧0 < ns.length∧0≤t∧t≤n
def Fed (b:Int) (n:Int) (m m':Mu) (a:Addr):Prop:=Tp (n + b) m' a∧∀ c,c≠a→(m c).isSome=true→m' c=m c
def Kn (m m':Mu):Prop:=∀ c,(m c).isSome=true→m' c=m c
def ORD:List Str:=["ahead","meets","overlaps","begins","within","ends","same","ended","holds","begun","lapped","met","behind"]
def tn (z:Str):Str:=ORD.getD (12 - ORD.idxOf z) ""
def kd (k:Bool):Str:=if k then "stretch" else "point"
def WS:Bool→Bool→List Str
 | true,true=>ORD
 | false,false=>["ahead","same","behind"]
 | false,true=>["ahead","begins","within","ends","behind"]
 | true,false=>["ahead","ended","holds","begun","behind"]
abbrev kds (k l:Bool):PyData:=.tuple [.str (kd k),.str (kd l)]
abbrev TH (ts:List (Str×Bool)):PyData:=.tuple (ts.map fun t=>.tuple [.str t.1,.str (kd t.2)])
def good (z:Str):Prop:=z.cps.toList.all (fun c=>decide (c < 1114112))=true∧z.length≤20
def Nm (zs:List Str):Prop:=zs.Nodup∧zs.length≤6∧∀ z∈zs,good z
abbrev fq (x:Int×Int):PyData:=.tuple [.int x.1,.int x.2]
def sgn (x:Int):Int:=(if 0 < x then 1 else 0) - (if x < 0 then 1 else 0)
def stn (x y:Int×Int):Int:=sgn (x.1 * y.2 - y.1 * x.2)
def row (i j:Int):Str:=if i < 0 then (if j < 0 then "overlaps" else if j=0 then "ended" else "holds") else if i=0 then (if j < 0 then "begins" else if j=0 then "same" else "begun") else (if j < 0 then "within" else if j=0 then "ends" else "lapped")
def wc (both:Bool) (s1 s2 s3 s4:Int):Str:=if s1 < 0 then "ahead" else if 0 < s2 then "behind" else if both=true∧s1=0 then "meets" else if both=true∧s2=0 then "met" else row s3 s4
def wd (both:Bool) (a0 a1 b0 b1:Int×Int):Str:=wc both (stn a1 b0) (stn a0 b1) (stn a0 b0) (stn a1 b1)
structure Tm (p:PyData) (k:Bool) (x y:Int×Int):Prop where
 eq:p=if k then .tuple [fq x,fq y] else fq x
 px:0 < x.2
 py:0 < y.2
 st:k=true→x.1 * y.2 < y.1 * x.2
 pt:k=false→y=x
 b1:Bd 40 x.1
 b2:Bd 40 x.2
 b3:Bd 40 y.1
 b4:Bd 40 y.2
def WT:List (Str×List Int):=[("ahead",[-1,-1,-1,-1]),("meets",[-1,-1,0,-1]),("overlaps",[-1,-1,1,-1]),("begins",[0,-1,1,-1]),("within",[1,-1,1,-1]),("ends",[1,-1,1,0]),("same",[0,-1,1,0]),("ended",[-1,-1,1,0]),("holds",[-1,-1,1,1]),("begun",[0,-1,1,1]),("lapped",[1,-1,1,1]),("met",[1,0,1,1]),("behind",[1,1,1,1])]
def w4 (z:Str):List Int:=((WT.find? fun kv=>decide (kv.1=z)).map (·.2)).getD []
def WB (k l:Bool) (z:Str):List Int:=match k,l with
 | true,true=>w4 z
 | false,false=>(w4 z).take 1
 | _,_=>[(w4 z).getD 0 0,(w4 z).getD 3 0]
def zu1:DC:=fun ds m R=>∃ a b:Int,ds=[I a,I b]∧R (I (Int.gcd a b)) m
def zn8:DC:=fun ds m R=>∃ t b:Int,ds=[I t,I b]∧b≠0∧Bd 2000 b∧R (.dat (if 0 < b then fr t b else fr (-t) (-b))) m
abbrev T2 (a b:Int):D:=.dat (.tuple [.int a,.int b])
def zO8:DC:=fun ds m R=>∃ a b c d:Int,ds=[T2 a b,T2 c d]∧0 < b∧0 < d∧Bd 900 a∧Bd 900 b∧Bd 900 c∧Bd 900 d∧R (.dat (fr (a * d - c * b) (b * d))) m
def zh5:DC:=fun ds m R=>∃ x y:Int×Int,ds=[.dat (fq x),.dat (fq y)]∧Bd 2000 x.1∧Bd 2000 x.2∧Bd 2000 y.1∧Bd 2000 y.2∧R (.dat (.bool (decide (x.1 * y.2 < y.1 * x.2)))) m
def zp0:DC:=fun ds m R=>∃ k l,ds=[.dat (kds k l)]∧R (.dat (.tuple ((WS k l).map .str))) m
def zo6:DC:=fun ds m R=>∃ k l z,ds=[.dat (kds k l),.dat (.str z)]∧z∈ORD∧R (.dat (.tuple ((WB k l z).map .int))) m
def zh3:DC:=fun ds m R=>∃ p k x y,ds=[.dat p]∧Tm p k x y∧R (.dat (.bool (!k))) m
def zx1:DC:=fun ds m R=>∃ x y:Int×Int,ds=[.dat (fq x),.dat (fq y)]∧Bd 2000 x.1∧Bd 2000 x.2∧Bd 2000 y.1∧Bd 2000 y.2∧R (I (stn x y)) m
def zw8:DC:=fun ds m R=>∃ p q k l a0 a1 b0 b1,ds=[.dat p,.dat q]∧Tm p k a0 a1∧Tm q l b0 b1∧R (.dat (.str (wd (k && l) a0 a1 b0 b1))) m
def TmAll:List (Str×Bool)→List PyData→Prop
 | [],[]=>True
 | t :: ts,p :: ps=>(∃ x y,Tm p t.2 x y)∧TmAll ts ps
 | _,_=>False
def ends:PyData→Bool×(Int×Int)×(Int×Int)
 | .tuple [.tuple [.int a,.int b],.tuple [.int c,.int d]]=>(true,(a,b),(c,d))
 | .tuple [.int a,.int b]=>(false,(a,b),(a,b))
 | _=>(false,(0,1),(0,1))
def wdP (p q:PyData):Str:=wd ((ends p).1 && (ends q).1) (ends p).2.1 (ends p).2.2 (ends q).2.1 (ends q).2.2
def zs4:DC:=fun ds m R=>∃ ts:List (Str×Bool),ds=[.dat (TH ts)]∧ts.length≤6∧R (.dat (.list (ts.map fun t=>.str t.1))) m
def zj6:DC:=fun ds m R=>∃ (ts:List (Str×Bool)) (ps:List PyData) (z:Str) (p:PyData),ds=[.dat (TH ts),.dat (.tuple ps),.dat (.str z)]∧ts.length≤6∧z∈ts.map (·.1)∧ps[(ts.map (·.1)).idxOf z]?=some p∧R (.dat p) m
def zg8:DC:=fun ds m R=>∃ (ts:List (Str×Bool)) (ps:List PyData) (a b:Str) (p q:PyData) (k l:Bool) (a0 a1 b0 b1:Int×Int),ds=[.dat (TH ts),.dat (.tuple ps),.dat (.str a),.dat (.str b)]∧ts.length≤6∧a∈ts.map (·.1)∧b∈ts.map (·.1)∧ps[(ts.map (·.1)).idxOf a]?=some p∧ps[(ts.map (·.1)).idxOf b]?=some q∧Tm p k a0 a1∧Tm q l b0 b1∧R (.dat (.str (wd (k && l) a0 a1 b0 b1))) m
def FN (ns:List Str) (ps:List PyData) (z:Str):PyData:=ps.getD (ns.idxOf z) .none
abbrev FT (ts:List (Str×Bool)) (ps:List PyData) (z:Str):PyData:=FN (ts.map (·.1)) ps z
abbrev endD (x:Str×Bool):PyData:=.tuple [.str x.1,.int (if x.2 then 1 else 0)]
def tmP (ts:List (Str×Bool)) (ps:List PyData) (x:Str×Bool):Int×Int:=if x.2 then (ends (FT ts ps x.1)).2.2 else (ends (FT ts ps x.1)).2.1
def zi2:List (Str×Bool)→List (Str×Bool)
 | []=>[]
 | t :: ts=>(t.1,false) :: ((if t.2 then [(t.1,true)] else [])++zi2 ts)
def zav2 (t u n:Int×Int) (s:Bool):Bool:=decide (stn (t.1 * u.2 - u.1 * t.2,t.2 * u.2) n < 0) || (decide (stn (t.1 * u.2 - u.1 * t.2,t.2 * u.2) n=0) && !s)
def zs1:DC:=fun ds m R=>∃ ts ps x,ds=[.dat (TH ts),.dat (.tuple ps),.dat (endD x)]∧Nm (ts.map (·.1))∧TmAll ts ps∧x.1∈ts.map (·.1)∧∀ m',Kn m m'→R (.dat (fq (tmP ts ps x))) m'
inductive Row where
 | may (a b:Str) (ws:List Str)
 | gap (x y:Str×Bool) (n:Int×Int) (s:Bool)
def RowD:Row→PyData
 | .may a b ws=>.tuple [.str a,.str b,.tuple (ws.map .str)]
 | .gap x y n s=>.tuple [endD x,endD y,fq n,.bool s]
def zaH7 (ts:List (Str×Bool)) (x y:Str×Bool) (n:Int×Int):Prop:=x∈zi2 ts∧y∈zi2 ts∧0 < n.2∧Bd 200 n.1∧Bd 200 n.2
def zaw1 (ts:List (Str×Bool)):Row→Prop
 | .may a b ws=>a∈ts.map (·.1)∧b∈ts.map (·.1)∧ws.length≤13∧∀ z∈ws,z∈ORD
 | .gap x y n _=>zaH7 ts x y n
def zaw7:Row→Bool
 | .may _ _ ws=>decide (ws=[])
 | .gap x y n s=>decide (x=y) && (decide (n.1 < 0) || (decide (n.1=0) && s))
def has (ts:List (Str×Bool)) (ps:List PyData):Row→Bool
 | .may a b ws=>decide (wdP (FT ts ps a) (FT ts ps b)∈ws)
 | .gap x y n s=>zav2 (tmP ts ps x) (tmP ts ps y) n s
def cnt (k:Bool):Int:=if k then 2 else 1
def sg (k l:Bool) (z:Str) (x y:Int):Int:=(WB k l z).getD (x * cnt l + y).toNat 0
def SEV:List Str:=["ahead","meets","overlaps","begins","within","ends","same"]
def Clk (ts:List (Str×Bool)) (ps:List PyData) (kvs:List (List Key×PyData)):Prop:=∀ x∈zi2 ts,valP kvs [.inr x.1,.inl (if x.2 then 1 else 0)]=some (fq (tmP ts ps x))
def zm8:DC:=fun ds m R=>∃ ts ps x y n s,ds=[.dat (TH ts),.dat (.tuple ps),.dat (.tuple [endD x,endD y,fq n,.bool s])]∧Nm (ts.map (·.1))∧TmAll ts ps∧zaH7 ts x y n∧∀ m',Kn m m'→R (.dat (.bool (zav2 (tmP ts ps x) (tmP ts ps y) n s))) m'
def zh8:DC:=fun ds m R=>∃ r,ds=[.dat (RowD r)]∧R (.dat (.bool (match r with | .may ..=>true | .gap ..=>false))) m
def zs5:DC:=fun ds m R=>∃ ts r,ds=[.dat (RowD r)]∧Nm (ts.map (·.1))∧zaw1 ts r∧R (.dat (.bool (zaw7 r))) m
def zx2:DC:=fun ds m R=>∃ ts ps r,ds=[.dat (TH ts),.dat (.tuple ps),.dat (RowD r)]∧Nm (ts.map (·.1))∧TmAll ts ps∧zaw1 ts r∧∀ m',Kn m m'→R (.dat (.bool (has ts ps r))) m'
def zr2:DC:=fun ds m R=>∃ ns:List Int,ds=[.dat (.list (ns.map .int))]∧ns.length≤63∧∀ a m',Tp 0 m' a→R (.cel a) m'
def zb3:DC:=fun ds m R=>∃ (a:Addr) (n L:Int),ds=[.cel a,I n]∧0 < n∧Bd 100 n∧L≤10000000∧Tp L m a∧∀ (r:Int) m',0≤r→r < n→Fed 1 L m m' a→R (I r) m'
def ze4:DC:=zp0
def zq9:DC:=fun ds m R=>∃ z:Str,ds=[.dat (.str z)]∧z∈ORD∧R (.dat (.str (tn z))) m
def zk7:DC:=fun ds m R=>∃ (a:Addr) (L:Int),ds=[.cel a,I 1,I 6]∧L≤9000000∧Tp L m a∧∀ (ts:List (Str×Bool)) m',1≤ts.length→ts.length≤6→Nm (ts.map (·.1))→Fed 20 L m m' a→R (.dat (TH ts)) m'
def zc8:DC:=fun ds m R=>∃ k:Bool,ds=[.dat (.str (kd k))]∧R (.dat (.list ((if k then [0,1] else [0]).map .int))) m
def zh6:DC:=fun ds m R=>∃ (ts:List (Str×Bool)) (a b:Str) (k l:Bool),ds=[.dat (TH ts),.dat (.tuple [.str a,.str b])]∧ts.length≤6∧(ts.map (·.1)).Nodup∧(a,k)∈ts∧(b,l)∈ts∧∀ m',Kn m m'→R (.dat (kds k l)) m'
def zs7:DC:=fun ds m R=>∃ (a:Addr) (k l:Bool) (L:Int),ds=[.cel a,.dat (kds k l)]∧L≤9000000∧Tp L m a∧∀ zs m',List.Sublist zs (WS k l)→Fed 20 L m m' a→R (.dat (.tuple (zs.map .str))) m'
def zt5:DC:=fun ds m R=>∃ (a:Addr) (ts:List (Str×Bool)) (L:Int),ds=[.cel a,.dat (TH ts)]∧2≤ts.length∧ts.length≤6∧L≤9000000∧Tp L m a∧∀ (x y:Str) (k l:Bool) m',(x,k)∈ts→(y,l)∈ts→Fed 2 L m m' a→R (.dat (.tuple [.str x,.str y])) m'
def zi1:DC:=fun ds m R=>∃ ts:List (Str×Bool),ds=[.dat (TH ts)]∧ts.length≤6∧∀ c m',m c=none→Kn m m'→m' c=some (.l ((zi2 ts).map endD))→R (.cel c) m'
def zd1:Nat→DC
 | 0=>fun _ _ _=>False
 | n + 1=>fun ds m R=>∃ (k l:Bool) (z:Str) (x y:Int),ds=[.dat (kds k l),.dat (.str z),I x,I y]∧z∈WS k l∧(z∈SEV∨1≤n)∧0≤x∧x < cnt k∧0≤y∧y < cnt l∧∀ m',Kn m m'→R (I (sg k l z x y)) m'
def zg7:DC:=fun ds m R=>∃ k l z,ds=[.dat (kds k l),.dat (.str z)]∧z∈WS k l∧∀ m',Kn m m'→R (.dat (.tuple ((WB k l z).map .int))) m'
def zg0:DC:=fun ds m R=>∃ t b:Int,ds=[I t,I b]∧0 < b∧Bd 2000 b∧R (.dat (fr t b)) m
def zf7:DC:=fun ds m R=>∃ (x y:Int×Int) (s:Int) (p q:Nat),ds=[.dat (fq x),.dat (fq y),I s]∧0 < x.2∧0 < y.2∧(s=1∨s=-1)∧p + q≤1900∧Bd p x.1∧Bd p x.2∧Bd q y.1∧Bd q y.2∧R (.dat (fr (x.1 * y.2 + s * y.1 * x.2) (x.2 * y.2))) m
def zi7:DC:=fun ds m R=>∃ (a:Addr) (L:Int),ds=[.cel a]∧L≤9000000∧Tp L m a∧∀ (x:Int×Int) m',0 < x.2→Int.gcd x.1 x.2=1→Bd 20 x.1→Bd 20 x.2→Fed 2 L m m' a→R (.dat (fq x)) m'
def zj4:DC:=fun ds m R=>∃ (a:Addr) (ts:List (Str×Bool)) (L:Int),ds=[.cel a,.dat (TH ts)]∧Nm (ts.map (·.1))∧L≤8000000∧Tp L m a∧∀ ps m',TmAll ts ps→Fed 40 L m m' a→R (.dat (.tuple ps)) m'
def zm7:DC:=fun ds m R=>∃ ts ps,ds=[.dat (TH ts),.dat (.tuple ps)]∧Nm (ts.map (·.1))∧TmAll ts ps∧∀ c m' kvs,m c=none→Kn m m'→m' c=some (.t kvs)→Clk ts ps kvs→R (.cel c) m'
def zk1:DC:=fun ds m R=>∃ (c:Addr) (ts:List (Str×Bool)) (ps:List PyData) (kvs:List (List Key×PyData)) (x y:Str×Bool),ds=[.cel c,.dat (endD x),.dat (endD y)]∧m c=some (.t kvs)∧TmAll ts ps∧Clk ts ps kvs∧x∈zi2 ts∧y∈zi2 ts∧R (I (stn (tmP ts ps x) (tmP ts ps y))) m
def zr0:DC:=fun ds m R=>∃ (c:Addr) (ts:List (Str×Bool)) (ps:List PyData) (kvs:List (List Key×PyData)) (a b:Str),ds=[.dat (TH ts),.cel c,.dat (.str a),.dat (.str b)]∧Nm (ts.map (·.1))∧m c=some (.t kvs)∧TmAll ts ps∧Clk ts ps kvs∧a∈ts.map (·.1)∧b∈ts.map (·.1)∧∀ m',Kn m m'→R (.dat (.str (wdP (FT ts ps a) (FT ts ps b)))) m'
def zu6:DC:=fun ds m R=>∃ (a c:Addr) (ts:List (Str×Bool)) (ps:List PyData) (kvs:List (List Key×PyData)) (L:Int),ds=[.cel a,.dat (TH ts),.cel c]∧Nm (ts.map (·.1))∧1≤ts.length∧c≠a∧m c=some (.t kvs)∧TmAll ts ps∧Clk ts ps kvs∧L≤8000000∧Tp L m a∧∀ x y n s m',zaH7 ts x y n→Fed 10 L m m' a→R (.dat (RowD (.gap x y n s))) m'
def zj1:DC:=fun ds m R=>∃ (c:Addr) (ts:List (Str×Bool)) (ps:List PyData) (kvs:List (List Key×PyData)) (x y:Str×Bool) (n:Int×Int) (s:Bool),ds=[.cel c,.dat (RowD (.gap x y n s))]∧m c=some (.t kvs)∧TmAll ts ps∧Clk ts ps kvs∧zaH7 ts x y n∧R (.dat (.bool (zav2 (tmP ts ps x) (tmP ts ps y) n s))) m
def zj9:DC:=fun ds m R=>∃ ts ps r,ds=[.dat (TH ts),.dat (.tuple ps),.dat (RowD r),.dat (.bool (zaw7 r)),.dat (.bool (has ts ps r))]∧Nm (ts.map (·.1))∧TmAll ts ps∧zaw1 ts r∧∀ m',Kn m m'→R (.dat (.bool true)) m'
def zZ1:DC:=fun ds m R=>∃ ns:List Int,ds=[.dat (.list (ns.map .int))]∧ns.length≤63∧∀ m',R (.dat (.bool true)) m'
end K19
namespace K19
open PySem PySem.Spec PyProof.Rows L2 DL
-- ranks: common 1,fraction 2,less 3,is_below 1,words_of 1,ways_by 1,is_point 1,way_of 2,word_of 3,names_of 1,times_of 2,time_of 3,word_between 4,is_gap_met 4,is_may_row 1,is_fault 2,has_row 5,_law_feed 1,_law_draw 1,_law_things 2,_law_words 1,_law_back 2,_law_sign 6,_law_sides 1,_law_all_signs 7,_law_kinds 1,_law_all_ends 2,_law_lowest 1,_law_added 2,_law_time 2,_law_telling 3,_law_clock 2,_law_order 1,_law_word 8,_law_may 2,_law_two 2,_law_gap 3,_law_gap_due 3,_law_right 6,law 9
def top (i:Nat):Stmt:=PySem.Challenge.pw_whens_k19_faults_and_rows_had.main.body.getD i (.Pass ⟨0,0,0,0⟩)
abbrev zab6:List (Str×PyData):=[("ahead",.tuple [.int (-1),.int (-1),.int (-1),.int (-1)]),("meets",.tuple [.int (-1),.int (-1),.int (0),.int (-1)]),("overlaps",.tuple [.int (-1),.int (-1),.int (1),.int (-1)]),("begins",.tuple [.int (0),.int (-1),.int (1),.int (-1)]),("within",.tuple [.int (1),.int (-1),.int (1),.int (-1)]),("ends",.tuple [.int (1),.int (-1),.int (1),.int (0)]),("same",.tuple [.int (0),.int (-1),.int (1),.int (0)]),("ended",.tuple [.int (-1),.int (-1),.int (1),.int (0)]),("holds",.tuple [.int (-1),.int (-1),.int (1),.int (1)]),("begun",.tuple [.int (0),.int (-1),.int (1),.int (1)]),("lapped",.tuple [.int (1),.int (-1),.int (1),.int (1)]),("met",.tuple [.int (1),.int (0),.int (1),.int (1)]),("behind",.tuple [.int (1),.int (1),.int (1),.int (1)])]
abbrev zw2:List (List Str×PyData):=[(["point","point"],.tuple (List.map PyData.str ["ahead","same","behind"])),(["point","stretch"],.tuple (List.map PyData.str ["ahead","begins","within","ends","behind"])),(["stretch","point"],.tuple (List.map PyData.str ["ahead","ended","holds","begun","behind"]))]
abbrev zy4:Stmt:=top 1
abbrev zad6:List Str:=["one","other"]
abbrev zy2:List Str:=["one","other"]
theorem zaj3:FnScope zad6 zy2 (za7 zy4):=⟨rfl,rfl,rfl,by decide +kernel,rfl,by decide +kernel,by decide +kernel⟩
def zW1:DS:=(dSeq (dPar 0 1 (za4 (dVar 1) (za4 (dBin aMod (dVar 0) (dVar 1)) dNil))) zb9)
def zY6:DS:=(dSeq (dRet (zd6 bAbs (za4 (dVar 0) dNil))) zb9)
def zT1:DS:=(dSeq (zas7 (dTst (dBin aNe (dVar 1) (dCon (.int 0)))) zW1) zY6)
abbrev zo4:Stmt:=top 2
abbrev zN6:List Str:=["top","bottom","shared"]
abbrev zn7:List Str:=["top","bottom"]
theorem zV6:FnScope zN6 zn7 (za7 zo4):=⟨rfl,rfl,rfl,by decide +kernel,rfl,by decide +kernel,by decide +kernel⟩
def zB4:DS:=(dSeq (dRet (dTup (za4 (dBin aDiv (dVar 0) (dVar 2)) (za4 (dBin aDiv (dVar 1) (dVar 2)) dNil)))) zb9)
def zB2:DS:=(dSeq (dIf (dTst (dBin aLt (dVar 1) (dCon (.int 0)))) (dSeq (dSet 2 (dNeg (dVar 2))) zb9) zb9) zB4)
def zx5:DS:=(dSeq (dSet 2 (zc2 2 zu1 (za4 (dVar 0) (za4 (dVar 1) dNil)))) zB2)
abbrev zV1:Stmt:=top 3
abbrev zaE4:List Str:=["one","other"]
abbrev zU6:List Str:=["one","other"]
theorem zax2:FnScope zaE4 zU6 (za7 zV1):=⟨rfl,rfl,rfl,by decide +kernel,rfl,by decide +kernel,by decide +kernel⟩
def zat6:DS:=(dSeq (dRet (zc2 2 zn8 (za4 (dBin aSub (dBin aMul (dBin aIx (dVar 0) (dCon (.int 0))) (dBin aIx (dVar 1) (dCon (.int 1)))) (dBin aMul (dBin aIx (dVar 1) (dCon (.int 0))) (dBin aIx (dVar 0) (dCon (.int 1))))) (za4 (dBin aMul (dBin aIx (dVar 0) (dCon (.int 1))) (dBin aIx (dVar 1) (dCon (.int 1)))) dNil)))) zb9)
abbrev zm6:Stmt:=top 4
abbrev zN4:List Str:=["one","other"]
abbrev zk3:List Str:=["one","other"]
theorem zU4:FnScope zN4 zk3 (za7 zm6):=⟨rfl,rfl,rfl,by decide +kernel,rfl,by decide +kernel,by decide +kernel⟩
def zE9:DS:=(dSeq (dRet (dBin aLt (dBin aMul (dBin aIx (dVar 0) (dCon (.int 0))) (dBin aIx (dVar 1) (dCon (.int 1)))) (dBin aMul (dBin aIx (dVar 1) (dCon (.int 0))) (dBin aIx (dVar 0) (dCon (.int 1)))))) zb9)
abbrev zp1:Stmt:=top 9
abbrev zN1:List Str:=["kinds"]
abbrev zp3:List Str:=["kinds"]
theorem zX2:FnScope zN1 zp3 (za7 zp1):=⟨rfl,rfl,rfl,by decide +kernel,rfl,by decide +kernel,by decide +kernel⟩
def zF0:DS:=(dSeq (dRet (zaf3 zw2 (dVar 0) (dCon (.tuple (List.map PyData.str ["ahead","meets","overlaps","begins","within","ends","same","ended","holds","begun","lapped","met","behind"]))))) zb9)
abbrev zs6:Stmt:=top 10
abbrev zV9:List Str:=["kinds","word","ways"]
abbrev zu7:List Str:=["kinds","word"]
theorem zaa6:FnScope zV9 zu7 (za7 zs6):=⟨rfl,rfl,rfl,by decide +kernel,rfl,by decide +kernel,by decide +kernel⟩
def zW6:DS:=(dSeq (dRet (dTup (za4 (dBin aIx (dVar 2) (dCon (.int 0))) (za4 (dBin aIx (dVar 2) (dCon (.int 3))) dNil)))) zb9)
def zU3:DS:=(dSeq (dIf (dTst (dBin aEq (dVar 0) (dTup (za4 (dCon (.str "point")) (za4 (dCon (.str "point")) dNil))))) (dSeq (dRet (dSlX (dVar 2) dNoP (zaI3 (dCon (.int 1))))) zb9) zb9) zW6)
def zU2:DS:=(dSeq (dIf (dTst (dBin aEq (dVar 0) (dTup (za4 (dCon (.str "stretch")) (za4 (dCon (.str "stretch")) dNil))))) (dSeq (dRet (dVar 2)) zb9) zb9) zU3)
def zJ7:DS:=(dSeq (dSet 2 (zat2 zab6 (dVar 1))) zU2)
abbrev zp4:Stmt:=top 11
abbrev zO0:List Str:=["times"]
abbrev zo7:List Str:=["times"]
theorem zV8:FnScope zO0 zo7 (za7 zp4):=⟨rfl,rfl,rfl,by decide +kernel,rfl,by decide +kernel,by decide +kernel⟩
def zF8:DS:=(dSeq (dRet (dNot (dIsi (dBin aIx (dVar 0) (dCon (.int 0))) "tuple"))) zb9)
abbrev zy9:Stmt:=top 12
abbrev zad8:List Str:=["one","other"]
abbrev zz4:List Str:=["one","other"]
theorem zag2:FnScope zad8 zz4 (za7 zy9):=⟨rfl,rfl,rfl,by decide +kernel,rfl,by decide +kernel,by decide +kernel⟩
def zZ7:DS:=(dSeq (dRet (dCon (.int 0))) zb9)
def zaa0:DS:=(dSeq (dIf (dTst (zc2 2 zh5 (za4 (dVar 1) (za4 (dVar 0) dNil)))) (dSeq (dRet (dCon (.int 1))) zb9) zb9) zZ7)
def zS8:DS:=(dSeq (dIf (dTst (zc2 2 zh5 (za4 (dVar 0) (za4 (dVar 1) dNil)))) (dSeq (dRet (dNeg (dCon (.int 1)))) zb9) zb9) zaa0)
abbrev zu5:Stmt:=top 13
abbrev zX7:List Str:=["one","other","kinds","ones","others","ways"]
abbrev zu4:List Str:=["one","other"]
theorem zaa1:FnScope zX7 zu4 (za7 zu5):=⟨rfl,rfl,rfl,by decide +kernel,rfl,by decide +kernel,by decide +kernel⟩
theorem zP3:List.Nodup (["x","y","others"]:List Str):=by decide +kernel
theorem zaj5:List.Nodup (["word","kinds","ways"]:List Str):=by decide +kernel
def zI6:DS:=(dSeq (dRet (dBin aIx (dLC [none,some 2,some 5] (zr6 (zc2 1 zp0 (za4 (dVar 2) dNil))) (gN 0) (dTst (dBin aEq (zc2 2 zo6 (za4 (dVar 1) (za4 (dVar 0) dNil))) (dVar 2))) (dVar 0)) (dCon (.int 0)))) zb9)
def zt8:DS:=(dSeq (dSet 5 (zd6 zU7 (za4 (dLC2 [none,none,some 4] (zr6 (dVar 3)) (gN 0) zK2 (zr6 (dVar 2)) (gN 1) zK2 (zc2 2 zx1 (za4 (dVar 0) (za4 (dVar 1) dNil)))) dNil))) zI6)
def zu0:DS:=(dSeq (dSet 4 (dIte (dTst (zc2 1 zh3 (za4 (dVar 1) dNil))) (dTup (za4 (dVar 1) dNil)) (dVar 1))) zt8)
def zt6:DS:=(dSeq (dSet 3 (dIte (dTst (zc2 1 zh3 (za4 (dVar 0) dNil))) (dTup (za4 (dVar 0) dNil)) (dVar 0))) zu0)
def zs3:DS:=(dSeq (dSet 2 (dTup (za4 (dIte (dTst (zc2 1 zh3 (za4 (dVar 0) dNil))) (dCon (.str "point")) (dCon (.str "stretch"))) (za4 (dIte (dTst (zc2 1 zh3 (za4 (dVar 1) dNil))) (dCon (.str "point")) (dCon (.str "stretch"))) dNil)))) zt6)
abbrev zn9:Stmt:=top 15
abbrev zO1:List Str:=["things"]
abbrev zp5:List Str:=["things"]
theorem zX5:FnScope zO1 zp5 (za7 zn9):=⟨rfl,rfl,rfl,by decide +kernel,rfl,by decide +kernel,by decide +kernel⟩
theorem zJ9:List.Nodup (["name","kind"]:List Str):=by decide +kernel
def zF6:DS:=(dSeq (dRet (dLC [none,none] (zr6 (dVar 0)) (gT 2 (gNs (gN 0) (gNs (gN 1) gN0))) zK2 (dVar 0))) zb9)
abbrev zm4:Stmt:=top 16
abbrev zO2:List Str:=["things","telling","name"]
abbrev zk2:List Str:=["things","telling","name"]
theorem zW2:FnScope zO2 zk2 (za7 zm4):=⟨rfl,rfl,rfl,by decide +kernel,rfl,by decide +kernel,by decide +kernel⟩
def zF3:DS:=(dSeq (dRet (dBin aIx (dVar 1) (zaJ6 (zc2 1 zs4 (za4 (dVar 0) dNil)) (dVar 2)))) zb9)
abbrev zt3:Stmt:=top 17
abbrev zV4:List Str:=["things","telling","end","name","number","times"]
abbrev zt7:List Str:=["things","telling","end"]
theorem zZ5:FnScope zV4 zt7 (za7 zt3):=⟨rfl,rfl,rfl,by decide +kernel,rfl,by decide +kernel,by decide +kernel⟩
def zV5:DS:=(dSeq (dRet (dIte (dTst (dBin aEq (zaD3 (zar8 (dVar 0)) (dVar 3)) (dCon (.str "point")))) (dVar 5) (dBin aIx (dVar 5) (dVar 4)))) zb9)
def zT2:DS:=(dSeq (dSet 5 (zc2 3 zj6 (za4 (dVar 0) (za4 (dVar 1) (za4 (dVar 3) dNil))))) zV5)
def zM2:DS:=(dSeq (dAsg (dVar 2) (gT 2 (gNs (gN 3) (gNs (gN 4) gN0)))) zT2)
abbrev zg3:Stmt:=top 18
abbrev zw3:List Str:=["things","telling","a","b"]
abbrev zf8:List Str:=["things","telling","a","b"]
theorem zC0:FnScope zw3 zf8 (za7 zg3):=⟨rfl,rfl,rfl,by decide +kernel,rfl,by decide +kernel,by decide +kernel⟩
def zp8:DS:=(dSeq (dRet (zc2 2 zw8 (za4 (zc2 3 zj6 (za4 (dVar 0) (za4 (dVar 1) (za4 (dVar 2) dNil)))) (za4 (zc2 3 zj6 (za4 (dVar 0) (za4 (dVar 1) (za4 (dVar 3) dNil)))) dNil)))) zb9)
abbrev zi6:Stmt:=top 19
abbrev zE1:List Str:=["things","telling","gap","x","y","number","strict","apart"]
abbrev zj0:List Str:=["things","telling","gap"]
theorem zL0:FnScope zE1 zj0 (za7 zi6):=⟨rfl,rfl,rfl,by decide +kernel,rfl,by decide +kernel,by decide +kernel⟩
def zG7:DS:=(dSeq (dRet (dIte (dTst (dVar 6)) (zc2 2 zh5 (za4 (dVar 7) (za4 (dVar 5) dNil))) (dNot (zc2 2 zh5 (za4 (dVar 5) (za4 (dVar 7) dNil)))))) zb9)
def zH5:DS:=(dSeq (dSet 7 (zc2 2 zO8 (za4 (zc2 3 zs1 (za4 (dVar 0) (za4 (dVar 1) (za4 (dVar 3) dNil)))) (za4 (zc2 3 zs1 (za4 (dVar 0) (za4 (dVar 1) (za4 (dVar 4) dNil)))) dNil)))) zG7)
def zv2:DS:=(dSeq (dAsg (dVar 2) (gT 4 (gNs (gN 3) (gNs (gN 4) (gNs (gN 5) (gNs (gN 6) gN0)))))) zH5)
abbrev zh0:Stmt:=top 21
abbrev zB8:List Str:=["row"]
abbrev zf4:List Str:=["row"]
theorem zL8:FnScope zB8 zf4 (za7 zh0):=⟨rfl,rfl,rfl,by decide +kernel,rfl,by decide +kernel,by decide +kernel⟩
def zr1:DS:=(dSeq (dRet (dBin aEq (zd6 bLen (za4 (dVar 0) dNil)) (dCon (.int 3)))) zb9)
abbrev zo2:Stmt:=top 22
abbrev zN9:List Str:=["row","x","y","number","strict"]
abbrev zo0:List Str:=["row"]
theorem zW9:FnScope zN9 zo0 (za7 zo2):=⟨rfl,rfl,rfl,by decide +kernel,rfl,by decide +kernel,by decide +kernel⟩
def zP9:DS:=(dSeq (dRet (dAnd (dBin aEq (dVar 1) (dVar 2)) (dOr (dBin aLt (dBin aIx (dVar 3) (dCon (.int 0))) (dCon (.int 0))) (dAnd (dBin aEq (dBin aIx (dVar 3) (dCon (.int 0))) (dCon (.int 0))) (dVar 4))))) zb9)
def zR0:DS:=(dSeq (dAsg (dVar 0) (gT 4 (gNs (gN 1) (gNs (gN 2) (gNs (gN 3) (gNs (gN 4) gN0)))))) zP9)
def zx4:DS:=(dSeq (dIf (dTst (zc2 1 zh8 (za4 (dVar 0) dNil))) (dSeq (dRet (dBin aEq (dBin aIx (dVar 0) (dCon (.int 2))) (dTup dNil))) zb9) zb9) zR0)
abbrev zt9:Stmt:=top 23
abbrev zX6:List Str:=["things","telling","row"]
abbrev zt0:List Str:=["things","telling","row"]
theorem zY3:FnScope zX6 zt0 (za7 zt9):=⟨rfl,rfl,rfl,by decide +kernel,rfl,by decide +kernel,by decide +kernel⟩
def zT3:DS:=(dSeq (dRet (zc2 3 zm8 (za4 (dVar 0) (za4 (dVar 1) (za4 (dVar 2) dNil))))) zb9)
def zE5:DS:=(dSeq (dIf (dTst (zc2 1 zh8 (za4 (dVar 2) dNil))) (dSeq (dRet (dBin aIn (zc2 4 zg8 (za4 (dVar 0) (za4 (dVar 1) (za4 (dBin aIx (dVar 2) (dCon (.int 0))) (za4 (dBin aIx (dVar 2) (dCon (.int 1))) dNil))))) (dBin aIx (dVar 2) (dCon (.int 2))))) zb9) zb9) zT3)
abbrev zl9:Stmt:=top 25
abbrev zI2:List Str:=["_law_script"]
abbrev zl1:List Str:=["_law_script"]
theorem zP1:FnScope zI2 zl1 (za7 zl9):=⟨rfl,rfl,rfl,by decide +kernel,rfl,by decide +kernel,by decide +kernel⟩
def zz1:DS:=(dSeq (dRet (zaf6 (za4 (dBin aAdd (zd6 zaL9 (za4 (dSlX (dVar 0) dNoP (zaI3 (dCon (.int 63)))) dNil)) (dBin zaW8 (zaf6 (za4 (dCon (.int 7)) dNil)) (zd6 bInt (za4 (dBin aEq (dVar 0) (dLst dNil)) dNil)))) (za4 (dCon (.int 0)) (za4 (dCon (.int 0)) (za4 (dCon (.int 0)) dNil)))))) zb9)
abbrev ze0:Stmt:=top 26
abbrev zI9:List Str:=["_law_feed_here","_law_many","_law_turn","_law_cell","_law_mixed","_law_digit"]
abbrev zc7:List Str:=["_law_feed_here","_law_many"]
theorem zP8:FnScope zI9 zc7 (za7 ze0):=⟨rfl,rfl,rfl,by decide +kernel,rfl,by decide +kernel,by decide +kernel⟩
def zA9:DS:=(dSeq (dRet (dBin aMod (dBin aDiv (dBin aMod (dVar 4) (dCon (.int 2147483629))) (dCon (.int 64))) (dVar 1))) zb9)
def zB0:DS:=(dSeq (dSet 4 (dBin aAdd (dBin aMul (dVar 4) (dBin aAdd (dBin aMod (dVar 4) (dCon (.int 65521))) (dCon (.int 48271)))) (dVar 2))) zA9)
def zG0:DS:=(dSeq (dSet 4 (dBin aMod (dBin aMul (dBin aAdd (dBin aMod (dVar 3) (dCon (.int 2147483629))) (dCon (.int 1))) (dBin aAdd (dBin aAdd (dBin aMul (dBin aMul (dCon (.int 31)) (dVar 2)) (dVar 2)) (dBin aMul (dCon (.int 7919)) (dVar 2))) (dCon (.int 1)))) (dCon (.int 2147483647)))) zB0)
def zz9:DS:=(dSeq (dPut (dVar 0) (dCon (.int 2)) (dVar 3)) zb9)
def zA6:DS:=(dSeq (dIf (dTst (dBin aLt (dVar 3) (dBin aPow (dCon (.int 10)) (dCon (.int 18))))) zG0 zb9) zz9)
def zA2:DS:=(dSeq (dPut (dVar 0) (dCon (.int 1)) (dBin aAdd (dBin aIx (dVar 0) (dCon (.int 1))) (dCon (.int 1)))) zA6)
def zH0:DS:=(dSeq (dSet 3 (dBin aIx (dBin aIx (dVar 0) (dCon (.int 0))) (dBin aMod (dBin aIx (dVar 0) (dCon (.int 1))) (zd6 bLen (za4 (dBin aIx (dVar 0) (dCon (.int 0))) dNil))))) zA2)
def zL2:DS:=(dSeq (dRet (dVar 5)) zb9)
def zL3:DS:=(dSeq (dPut (dVar 0) (dCon (.int 2)) (dBin aDiv (dBin aIx (dVar 0) (dCon (.int 2))) (dVar 1))) zL2)
def zz2:DS:=(dSeq (dSet 5 (dBin aMod (dBin aIx (dVar 0) (dCon (.int 2))) (dVar 1))) zL3)
def zM1:DS:=(dSeq (dIf (dTst (dBin aEq (dBin aIx (dVar 0) (dCon (.int 2))) (dCon (.int 0)))) zH0 zb9) zz2)
def zJ1:DS:=(dSeq (dSet 2 (dBin aIx (dVar 0) (dCon (.int 3)))) zM1)
def zz8:DS:=(dSeq (dPut (dVar 0) (dCon (.int 3)) (dBin aAdd (dBin aIx (dVar 0) (dCon (.int 3))) (dCon (.int 1)))) zJ1)
abbrev zh4:Stmt:=top 27
abbrev zy3:List Str:=["_law_feed_here","_law_least","_law_most","_law_some","_law_many","_law_first","_law_step","_law_names","_law_way","_law_kinds_here"]
abbrev zh7:List Str:=["_law_feed_here","_law_least","_law_most"]
theorem zG4:FnScope zy3 zh7 (za7 zh4):=⟨rfl,rfl,rfl,by decide +kernel,rfl,by decide +kernel,by decide +kernel⟩
theorem zR7:List.Nodup (["_law_k","_law_some","_law_first","_law_step"]:List Str):=by decide +kernel
theorem zR9:List.Nodup (["_law_name","_law_feed_here"]:List Str):=by decide +kernel
theorem zS2:List.Nodup (["_law_name","_law_way"]:List Str):=by decide +kernel
def zt2:DS:=(dSeq (dRet (zan5 (dVar 7) (dVar 9))) zb9)
def zC5:DS:=(dSeq (dIf (dTst (dBin aLt (dVar 8) (dCon (.int 2)))) (dSeq (dSet 9 (dLC [none,some 8] (zr6 (dVar 7)) (gN 0) zK2 (dBin aIx (dLst (za4 (dCon (.str "stretch")) (za4 (dCon (.str "point")) dNil))) (dVar 1)))) zb9) zb9) zt2)
def zB5:DS:=(dSeq (dSet 9 (dLC [none,some 0] (zr6 (dVar 7)) (gN 0) zK2 (dBin aIx (dLst (za4 (dCon (.str "stretch")) (za4 (dCon (.str "stretch")) (za4 (dCon (.str "point")) dNil)))) (zc2 2 zb3 (za4 (dVar 1) (za4 (dCon (.int 3)) dNil)))))) zC5)
def zD2:DS:=(dSeq (dSet 8 (zc2 2 zb3 (za4 (dVar 0) (za4 (dCon (.int 5)) dNil)))) zB5)
def zC1:DS:=(dSeq (dSet 7 (zd6 zal9 (za4 (dLC [none,some 3,some 5,some 6] (zal4 (dVar 4)) (gN 0) zK2 (dBin aIx (dVar 1) (dBin aMod (dBin aAdd (dVar 2) (dBin aMul (dVar 3) (dVar 0))) (dCon (.int 11))))) dNil))) zD2)
def zC4:DS:=(dSeq (dSet 6 (dBin aAdd (dCon (.int 1)) (zc2 2 zb3 (za4 (dVar 0) (za4 (dCon (.int 10)) dNil))))) zC1)
def zC6:DS:=(dSeq (dSet 5 (zc2 2 zb3 (za4 (dVar 0) (za4 (dCon (.int 11)) dNil)))) zC4)
def zD6:DS:=(dSeq (dSet 4 (dBin aAdd (dVar 1) (zc2 2 zb3 (za4 (dVar 0) (za4 (dBin aAdd (dBin aSub (dVar 2) (dVar 1)) (dCon (.int 1))) dNil))))) zC6)
def zs0:DS:=(dSeq (dSet 3 (dLst (za4 (dCon (.str "a")) (za4 (dCon (.str "ab")) (za4 (dCon (.str "abc")) (za4 (dCon (.str "begin")) (za4 (dCon (.str "end")) (za4 (dCon (.str "gap")) (za4 (dCon (.str "may")) (za4 (dCon (.str "o")) (za4 (dCon (.str "point")) (za4 (dCon (.str "strict")) (za4 (dCon (.str "zzzzzzzz")) dNil))))))))))))) zD6)
abbrev zf2:Stmt:=top 28
abbrev zC3:List Str:=["_law_kinds_here","_law_some"]
abbrev zd7:List Str:=["_law_kinds_here"]
theorem zK8:FnScope zC3 zd7 (za7 zf2):=⟨rfl,rfl,rfl,by decide +kernel,rfl,by decide +kernel,by decide +kernel⟩
def zG1:DS:=(dSeq (dRet (dBin aAdd (dVar 1) (dTup (za4 (dCon (.str "met")) (za4 (dCon (.str "behind")) dNil))))) zb9)
def zH7:DS:=(dSeq (dSet 1 (dTup (za4 (dCon (.str "ahead")) (za4 (dCon (.str "meets")) (za4 (dCon (.str "overlaps")) (za4 (dCon (.str "begins")) (za4 (dCon (.str "within")) (za4 (dCon (.str "ends")) (za4 (dCon (.str "same")) (za4 (dCon (.str "ended")) (za4 (dCon (.str "holds")) (za4 (dCon (.str "begun")) (za4 (dCon (.str "lapped")) dNil))))))))))))) zG1)
def zG6:DS:=(dSeq (dIf (dTst (dBin aEq (dVar 0) (dTup (za4 (dCon (.str "stretch")) (za4 (dCon (.str "point")) dNil))))) (dSeq (dRet (dTup (za4 (dCon (.str "ahead")) (za4 (dCon (.str "ended")) (za4 (dCon (.str "holds")) (za4 (dCon (.str "begun")) (za4 (dCon (.str "behind")) dNil))))))) zb9) zb9) zH7)
def zG3:DS:=(dSeq (dIf (dTst (dBin aEq (dVar 0) (dTup (za4 (dCon (.str "point")) (za4 (dCon (.str "stretch")) dNil))))) (dSeq (dRet (dTup (za4 (dCon (.str "ahead")) (za4 (dCon (.str "begins")) (za4 (dCon (.str "within")) (za4 (dCon (.str "ends")) (za4 (dCon (.str "behind")) dNil))))))) zb9) zb9) zG6)
def zv4:DS:=(dSeq (dIf (dTst (dBin aEq (dVar 0) (dTup (za4 (dCon (.str "point")) (za4 (dCon (.str "point")) dNil))))) (dSeq (dRet (dTup (za4 (dCon (.str "ahead")) (za4 (dCon (.str "same")) (za4 (dCon (.str "behind")) dNil))))) zb9) zb9) zG3)
abbrev zm2:Stmt:=top 29
abbrev zI3:List Str:=["_law_word_here","_law_order_here"]
abbrev zl7:List Str:=["_law_word_here"]
theorem zR4:FnScope zI3 zl7 (za7 zm2):=⟨rfl,rfl,rfl,by decide +kernel,rfl,by decide +kernel,by decide +kernel⟩
def zL9:DS:=(dSeq (dRet (dBin aIx (dVar 1) (dBin aSub (dCon (.int 12)) (zaJ6 (dVar 1) (dVar 0))))) zb9)
def zy5:DS:=(dSeq (dSet 1 (zc2 1 ze4 (za4 (dTup (za4 (dCon (.str "stretch")) (za4 (dCon (.str "stretch")) dNil))) dNil))) zL9)
abbrev zg2:Stmt:=top 30
abbrev zo1:List Str:=["_law_kinds_here","_law_word_here","_law_x","_law_y","_law_some"]
abbrev zd4:List Str:=["_law_kinds_here","_law_word_here","_law_x","_law_y"]
theorem zQ6:FnScope zo1 zd4 (za7 zg2):=⟨rfl,rfl,rfl,by decide +kernel,rfl,by decide +kernel,by decide +kernel⟩
def zK4 (j:Nat):DS:=(dSeq (dRet (dBin aIx (zaD3 (dVar 4) (dVar 1)) (dIte (dTst (dBin aEq (dVar 0) (dTup (za4 (dCon (.str "stretch")) (za4 (dCon (.str "stretch")) dNil))))) (dBin aAdd (dBin aMul (dCon (.int 2)) (dVar 2)) (dVar 3)) (dBin aMul (dCon (.int 3)) (dBin aAdd (dVar 2) (dVar 3)))))) zb9)
def zK9 (j:Nat):DS:=(dSeq (dIf (dTst (dBin zao1 (dVar 1) (dVar 4))) (dSeq (dRet (dBin aSub (dCon (.int 0)) (zc2 4 (zd1 j) (za4 (dTup (za4 (dBin aIx (dVar 0) (dCon (.int 1))) (za4 (dBin aIx (dVar 0) (dCon (.int 0))) dNil))) (za4 (zc2 1 zq9 (za4 (dVar 1) dNil)) (za4 (dVar 3) (za4 (dVar 2) dNil))))))) zb9) zb9) (zK4 j))
def zL5 (j:Nat):DS:=(dSeq (zaf9 (zaQ1 (dVar 4) (zaG6 [((dCon (.str "begins")),(dTup (za4 (dCon (.int 0)) (za4 (dNeg (dCon (.int 1))) (za4 (dCon (.int 1)) (za4 (dNeg (dCon (.int 1))) dNil)))))),((dCon (.str "within")),(dTup (za4 (dCon (.int 1)) (za4 (dNeg (dCon (.int 1))) (za4 (dCon (.int 1)) (za4 (dNeg (dCon (.int 1))) dNil)))))),((dCon (.str "ends")),(dTup (za4 (dCon (.int 1)) (za4 (dNeg (dCon (.int 1))) (za4 (dCon (.int 1)) (za4 (dCon (.int 0)) dNil)))))),((dCon (.str "same")),(dTup (za4 (dCon (.int 0)) (za4 (dNeg (dCon (.int 1))) (za4 (dCon (.int 1)) (za4 (dCon (.int 0)) dNil))))))]))) (zK9 j))
def zl6 (j:Nat):DS:=(dSeq (dSet 4 (zaG6 [((dCon (.str "ahead")),(dTup (za4 (dNeg (dCon (.int 1))) (za4 (dNeg (dCon (.int 1))) (za4 (dNeg (dCon (.int 1))) (za4 (dNeg (dCon (.int 1))) dNil)))))),((dCon (.str "meets")),(dTup (za4 (dNeg (dCon (.int 1))) (za4 (dNeg (dCon (.int 1))) (za4 (dCon (.int 0)) (za4 (dNeg (dCon (.int 1))) dNil)))))),((dCon (.str "overlaps")),(dTup (za4 (dNeg (dCon (.int 1))) (za4 (dNeg (dCon (.int 1))) (za4 (dCon (.int 1)) (za4 (dNeg (dCon (.int 1))) dNil))))))])) (zL5 j))
abbrev ze5:Stmt:=top 31
abbrev zE6:List Str:=["_law_kind"]
abbrev zd0:List Str:=["_law_kind"]
theorem zJ0:FnScope zE6 zd0 (za7 ze5):=⟨rfl,rfl,rfl,by decide +kernel,rfl,by decide +kernel,by decide +kernel⟩
def zu8:DS:=(dSeq (dRet (dIte (dTst (dBin aEq (dVar 0) (dCon (.str "stretch")))) (dLst (za4 (dCon (.int 0)) (za4 (dCon (.int 1)) dNil))) (dLst (za4 (dCon (.int 0)) dNil)))) zb9)
abbrev zd9:Stmt:=top 32
abbrev zr3:List Str:=["_law_kinds_here","_law_word_here","_law_found","_law_x"]
abbrev zd8:List Str:=["_law_kinds_here","_law_word_here"]
theorem zx3:FnScope zr3 zd8 (za7 zd9):=⟨rfl,rfl,rfl,by decide +kernel,rfl,by decide +kernel,by decide +kernel⟩
theorem zI7:List.Nodup (["_law_y","_law_kinds_here","_law_word_here","_law_x"]:List Str):=by decide +kernel
def zm3:DS:=(dSeq (zaf9 (dExt (dVar 2) (dLCC [none,some 0,some 1,some 3] (zr6 (zc2 1 zc8 (za4 (dBin aIx (dVar 0) (dCon (.int 1))) dNil))) (gN 0) zK2 (zc2 4 (zd1 3) (za4 (dVar 1) (za4 (dVar 2) (za4 (dVar 3) (za4 (dVar 0) dNil)))))))) zb9)
def zm9:DS:=(dSeq (dRet (zd6 zU7 (za4 (dVar 2) dNil))) zb9)
def zv3:DS:=(dSeq (dFor (zr6 (zc2 1 zc8 (za4 (dBin aIx (dVar 0) (dCon (.int 0))) dNil))) (gN 3) zm3) zm9)
def zl0:DS:=(dSeq (dSet 2 (zaf6 dNil)) zv3)
abbrev zh1:Stmt:=top 33
abbrev zD3:List Str:=["_law_things_here","_law_names","_law_own"]
abbrev zf3:List Str:=["_law_things_here","_law_names"]
theorem zK3:FnScope zD3 zf3 (za7 zh1):=⟨rfl,rfl,rfl,by decide +kernel,rfl,by decide +kernel,by decide +kernel⟩
theorem zU5:List.Nodup (["_law_name","_law_own"]:List Str):=by decide +kernel
def zH8:DS:=(dSeq (dRet (zd6 zU7 (za4 (dLC [none,some 2] (zr6 (dVar 1)) (gN 0) zK2 (zaD3 (dVar 1) (dVar 0))) dNil))) zb9)
def zv6:DS:=(dSeq (dSet 2 (zar8 (dVar 0))) zH8)
abbrev ze8:Stmt:=top 34
abbrev zs8:List Str:=["_law_things_here","_law_found","_law_name","_law_kind"]
abbrev ze7:List Str:=["_law_things_here"]
theorem zA5:FnScope zs8 ze7 (za7 ze8):=⟨rfl,rfl,rfl,by decide +kernel,rfl,by decide +kernel,by decide +kernel⟩
theorem zM0:List.Nodup (["_law_side","_law_name"]:List Str):=by decide +kernel
def zi5:DS:=(dSeq (zaf9 (dExt (dVar 1) (dLCC [none,some 2] (zr6 (zc2 1 zc8 (za4 (dVar 3) dNil))) (gN 0) zK2 (dTup (za4 (dVar 1) (za4 (dVar 0) dNil)))))) zb9)
def zo8:DS:=(dSeq (dRet (dVar 1)) zb9)
def zw9:DS:=(dSeq (dFor (zr6 (dVar 0)) (gT 2 (gNs (gN 2) (gNs (gN 3) gN0))) zi5) zo8)
def zn0:DS:=(dSeq (dSet 1 (zaf6 dNil)) zw9)
abbrev zf5:Stmt:=top 35
abbrev zy0:List Str:=["_law_top","_law_bottom","_law_one","_law_other"]
abbrev ze3:List Str:=["_law_top","_law_bottom"]
theorem zH1:FnScope zy0 ze3 (za7 zf5):=⟨rfl,rfl,rfl,by decide +kernel,rfl,by decide +kernel,by decide +kernel⟩
def zA1:DS:=(dSeq (dPar 2 3 (za4 (dVar 3) (za4 (dBin aMod (dVar 2) (dVar 3)) dNil))) zb9)
def zE2:DS:=(dSeq (dRet (dTup (za4 (dBin aDiv (dVar 0) (dVar 2)) (za4 (dBin aDiv (dVar 1) (dVar 2)) dNil)))) zb9)
def zB3:DS:=(dSeq (zas7 (dTst (dBin aGt (dVar 3) (dCon (.int 0)))) zA1) zE2)
def zB6:DS:=(dSeq (dSet 3 (dVar 1)) zB3)
def zr9:DS:=(dSeq (dSet 2 (zd6 bAbs (za4 (dVar 0) dNil))) zB6)
abbrev zh2:Stmt:=top 36
abbrev zC2:List Str:=["_law_one","_law_other","_law_sign_here","_law_top"]
abbrev zf6:List Str:=["_law_one","_law_other","_law_sign_here"]
theorem zJ6:FnScope zC2 zf6 (za7 zh2):=⟨rfl,rfl,rfl,by decide +kernel,rfl,by decide +kernel,by decide +kernel⟩
def zG8:DS:=(dSeq (dRet (zc2 2 zg0 (za4 (dVar 3) (za4 (dBin aMul (dBin aIx (dVar 0) (dCon (.int 1))) (dBin aIx (dVar 1) (dCon (.int 1)))) dNil)))) zb9)
def zv5:DS:=(dSeq (dSet 3 (dBin aAdd (dBin aMul (dBin aIx (dVar 0) (dCon (.int 0))) (dBin aIx (dVar 1) (dCon (.int 1)))) (dBin aMul (dBin aMul (dVar 2) (dBin aIx (dVar 1) (dCon (.int 0)))) (dBin aIx (dVar 0) (dCon (.int 1)))))) zG8)
abbrev zl8:Stmt:=top 37
abbrev zI4:List Str:=["_law_feed_here","_law_top","_law_bottom"]
abbrev zl2:List Str:=["_law_feed_here"]
theorem zR3:FnScope zI4 zl2 (za7 zl8):=⟨rfl,rfl,rfl,by decide +kernel,rfl,by decide +kernel,by decide +kernel⟩
def zJ3:DS:=(dSeq (dRet (zc2 2 zg0 (za4 (dVar 1) (za4 (dVar 2) dNil)))) zb9)
def zM7:DS:=(dSeq (dSet 2 (dBin aIx (dLst (za4 (dCon (.int 1)) (za4 (dCon (.int 1)) (za4 (dCon (.int 2)) (za4 (dCon (.int 3)) dNil))))) (zc2 2 zb3 (za4 (dVar 0) (za4 (dCon (.int 4)) dNil))))) zJ3)
def zz3:DS:=(dSeq (dSet 1 (dBin aSub (zc2 2 zb3 (za4 (dVar 0) (za4 (dCon (.int 7)) dNil))) (dCon (.int 2)))) zM7)
abbrev zg5:Stmt:=top 38
abbrev zw1:List Str:=["_law_feed_here","_law_things_here","_law_found","_law_name","_law_kind","_law_one","_law_other"]
abbrev zg1:List Str:=["_law_feed_here","_law_things_here"]
theorem zE3:FnScope zw1 zg1 (za7 zg5):=⟨rfl,rfl,rfl,by decide +kernel,rfl,by decide +kernel,by decide +kernel⟩
def zl3:DS:=(dSeq (zaf9 (dApp (dVar 2) (dIte (dTst (dBin aEq (dVar 4) (dCon (.str "point")))) (dVar 5) (dTup (za4 (dVar 5) (za4 (dVar 6) dNil)))))) zb9)
def zm0:DS:=(dSeq (dIf (dTst (dBin aLt (dBin aMul (dBin aIx (dVar 6) (dCon (.int 0))) (dBin aIx (dVar 5) (dCon (.int 1)))) (dBin aMul (dBin aIx (dVar 5) (dCon (.int 0))) (dBin aIx (dVar 6) (dCon (.int 1)))))) (dSeq (dPar 5 6 (za4 (dVar 6) (za4 (dVar 5) dNil))) zb9) zb9) zl3)
def zu3:DS:=(dSeq (dIf (dTst (dBin aEq (dVar 5) (dVar 6))) (dSeq (dSet 6 (dTup (za4 (dBin aAdd (dBin aIx (dVar 5) (dCon (.int 0))) (dBin aIx (dVar 5) (dCon (.int 1)))) (za4 (dBin aIx (dVar 5) (dCon (.int 1))) dNil)))) zb9) zb9) zm0)
def zu2:DS:=(dSeq (dSet 6 (zc2 1 zi7 (za4 (dVar 0) dNil))) zu3)
def zk0:DS:=(dSeq (dSet 5 (zc2 1 zi7 (za4 (dVar 0) dNil))) zu2)
def zk9:DS:=(dSeq (dRet (zd6 zU7 (za4 (dVar 2) dNil))) zb9)
def zA8:DS:=(dSeq (dFor (zr6 (dVar 1)) (gT 2 (gNs (gN 3) (gNs (gN 4) gN0))) zk0) zk9)
def zq0:DS:=(dSeq (dSet 2 (zaf6 dNil)) zA8)
abbrev zj7:Stmt:=top 39
abbrev zE4:List Str:=["_law_things_here","_law_telling_here","_law_found","_law_thing","_law_own","_law_side"]
abbrev zi8:List Str:=["_law_things_here","_law_telling_here"]
theorem zL1:FnScope zE4 zi8 (za7 zj7):=⟨rfl,rfl,rfl,by decide +kernel,rfl,by decide +kernel,by decide +kernel⟩
def zs9:DS:=(dSeq (zaR7 (dVar 2) (za4 (dBin aIx (dVar 3) (dCon (.int 0))) (za4 (dVar 5) dNil)) (dIte (dTst (dBin aEq (dBin aIx (dVar 3) (dCon (.int 1))) (dCon (.str "stretch")))) (dBin aIx (dVar 4) (dVar 5)) (dVar 4))) zb9)
def zn1:DS:=(dSeq (dFor (zr6 (zc2 1 zc8 (za4 (dBin aIx (dVar 3) (dCon (.int 1))) dNil))) (gN 5) zs9) zb9)
def zw5:DS:=(dSeq (dRet (dVar 2)) zb9)
def zG5:DS:=(dSeq (dFor (zaF8 (dVar 0) (dVar 1)) (gT 2 (gNs (gN 3) (gNs (gN 4) gN0))) zn1) zw5)
def zu9:DS:=(dSeq (dSet 2 zaW2) zG5)
abbrev zj8:Stmt:=top 40
abbrev zB1:List Str:=["_law_clock_here","_law_x","_law_y","_law_one","_law_other","_law_apart"]
abbrev zj5:List Str:=["_law_clock_here","_law_x","_law_y"]
theorem zL4:FnScope zB1 zj5 (za7 zj8):=⟨rfl,rfl,rfl,by decide +kernel,rfl,by decide +kernel,by decide +kernel⟩
def zH6:DS:=(dSeq (dRet (dBin aSub (zd6 bInt (za4 (dBin aGt (dVar 5) (dCon (.int 0))) dNil)) (zd6 bInt (za4 (dBin aLt (dVar 5) (dCon (.int 0))) dNil)))) zb9)
def zH9:DS:=(dSeq (dSet 5 (dBin aSub (dBin aMul (dBin aIx (dVar 3) (dCon (.int 0))) (dBin aIx (dVar 4) (dCon (.int 1)))) (dBin aMul (dBin aIx (dVar 4) (dCon (.int 0))) (dBin aIx (dVar 3) (dCon (.int 1)))))) zH6)
def zH2:DS:=(dSeq (dSet 4 (zA4 (dVar 0) (dVar 2))) zH9)
def zv0:DS:=(dSeq (dSet 3 (zA4 (dVar 0) (dVar 1))) zH2)
abbrev zl5:Stmt:=top 41
abbrev zI8:List Str:=["_law_things_here","_law_clock_here","_law_a","_law_b","_law_kinds_here","_law_due","_law_x","_law_y","_law_word_here"]
abbrev zm1:List Str:=["_law_things_here","_law_clock_here","_law_a","_law_b"]
theorem zP5:FnScope zI8 zm1 (za7 zl5):=⟨rfl,rfl,rfl,by decide +kernel,rfl,by decide +kernel,by decide +kernel⟩
def zv9:DS:=(dSeq (zaf9 (dApp (dVar 5) (zc2 3 zk1 (za4 (dVar 1) (za4 (dTup (za4 (dVar 2) (za4 (dVar 6) dNil))) (za4 (dTup (za4 (dVar 3) (za4 (dVar 7) dNil))) dNil)))))) zb9)
def zv8:DS:=(dSeq (dFor (zr6 (zc2 1 zc8 (za4 (dBin aIx (dVar 4) (dCon (.int 1))) dNil))) (gN 7) zv9) zb9)
def zq8:DS:=(dSeq (dIf (dTst (dBin aEqX (zd6 zaL9 (za4 (zc2 2 zg7 (za4 (dVar 4) (za4 (dVar 8) dNil))) dNil)) (dVar 5))) (dSeq (dRet (dVar 8)) zb9) zb9) zb9)
def zac5:DS:=(dSeq (dRet (dCon .none)) zb9)
def zy6:DS:=(dSeq (dFor (zr6 (zc2 1 ze4 (za4 (dVar 4) dNil))) (gN 8) zq8) zac5)
def zL6:DS:=(dSeq (dFor (zr6 (zc2 1 zc8 (za4 (dBin aIx (dVar 4) (dCon (.int 0))) dNil))) (gN 6) zv8) zy6)
def zM6:DS:=(dSeq (dSet 5 (zaf6 dNil)) zL6)
def zx8:DS:=(dSeq (dSet 4 (zc2 2 zh6 (za4 (dVar 0) (za4 (dTup (za4 (dVar 2) (za4 (dVar 3) dNil))) dNil)))) zM6)
abbrev zn5:Stmt:=top 42
abbrev zN2:List Str:=["_law_feed_here","_law_kinds_here","_law_order_here","_law_way","_law_some","_law_k"]
abbrev zn4:List Str:=["_law_feed_here","_law_kinds_here"]
theorem zW5:FnScope zN2 zn4 (za7 zn5):=⟨rfl,rfl,rfl,by decide +kernel,rfl,by decide +kernel,by decide +kernel⟩
theorem zae4:List.Nodup (["_law_word_here","_law_some"]:List Str):=by decide +kernel
def zJ4:DS:=(dSeq (zaf9 (dApp (dVar 4) (dBin aIx (dVar 2) (zc2 2 zb3 (za4 (dVar 0) (za4 (zd6 bLen (za4 (dVar 2) dNil)) dNil)))))) zb9)
def zR5:DS:=(dSeq (dRet (zd6 zU7 (za4 (dLC [none,some 4] (zr6 (dVar 2)) (gN 0) (dTst (dBin aInC (dVar 0) (dVar 1))) (dVar 0)) dNil))) zb9)
def zQ3:DS:=(dSeq (dFor (zal4 (dBin aIx (dLst (za4 (dCon (.int 0)) (za4 (dCon (.int 0)) (za4 (dCon (.int 2)) (za4 (dCon (.int 6)) (za4 (dCon (.int 1)) dNil)))))) (dVar 3))) (gN 5) zJ4) zR5)
def zR1:DS:=(dSeq (dSet 4 (zaf6 (za4 (dBin aIx (dVar 2) (zc2 2 zb3 (za4 (dVar 0) (za4 (zd6 bLen (za4 (dVar 2) dNil)) dNil)))) dNil))) zQ3)
def zQ2:DS:=(dSeq (dIf (dTst (dBin aEq (dVar 3) (dCon (.int 0)))) (dSeq (dRet (dVar 2)) zb9) zb9) zR1)
def zR6:DS:=(dSeq (dSet 3 (zc2 2 zb3 (za4 (dVar 0) (za4 (dCon (.int 5)) dNil)))) zQ2)
def zF4:DS:=(dSeq (dSet 2 (zc2 1 ze4 (za4 (dVar 1) dNil))) zR6)
abbrev zo3:Stmt:=top 43
abbrev zN8:List Str:=["_law_feed_here","_law_things_here","_law_one","_law_other"]
abbrev zp6:List Str:=["_law_feed_here","_law_things_here"]
theorem zV2:FnScope zN8 zp6 (za7 zo3):=⟨rfl,rfl,rfl,by decide +kernel,rfl,by decide +kernel,by decide +kernel⟩
def zP6:DS:=(dSeq (dRet (dTup (za4 (dBin aIx (dBin aIx (dVar 1) (dVar 2)) (dCon (.int 0))) (za4 (dBin aIx (dBin aIx (dVar 1) (dVar 3)) (dCon (.int 0))) dNil)))) zb9)
def zP7:DS:=(dSeq (dSet 3 (dBin aMod (dBin aAdd (dBin aAdd (dVar 2) (dCon (.int 1))) (zc2 2 zb3 (za4 (dVar 0) (za4 (dBin aSub (zd6 bLen (za4 (dVar 1) dNil)) (dCon (.int 1))) dNil)))) (zd6 bLen (za4 (dVar 1) dNil)))) zP6)
def zF5:DS:=(dSeq (dSet 2 (zc2 2 zb3 (za4 (dVar 0) (za4 (zd6 bLen (za4 (dVar 1) dNil)) dNil)))) zP7)
abbrev zo5:Stmt:=top 44
abbrev zN7:List Str:=["_law_feed_here","_law_things_here","_law_clock_here","_law_some","_law_x","_law_y","_law_more","_law_number"]
abbrev zo9:List Str:=["_law_feed_here","_law_things_here","_law_clock_here"]
theorem zT7:FnScope zN7 zo9 (za7 zo5):=⟨rfl,rfl,rfl,by decide +kernel,rfl,by decide +kernel,by decide +kernel⟩
def zD4:DS:=(dSeq (dRet (dTup (za4 (dVar 4) (za4 (dVar 5) (za4 (dVar 7) (za4 (dBin aEq (zc2 2 zb3 (za4 (dVar 0) (za4 (dCon (.int 2)) dNil))) (dCon (.int 1))) dNil)))))) zb9)
def zO9:DS:=(dSeq (dSet 7 (zc2 3 zf7 (za4 (dVar 7) (za4 (dBin aIx (dVar 6) (zc2 2 zb3 (za4 (dVar 0) (za4 (dCon (.int 7)) dNil)))) (za4 (dCon (.int 1)) dNil))))) zD4)
def zP0:DS:=(dSeq (dSet 7 (zc2 3 zf7 (za4 (zA4 (dVar 2) (dVar 4)) (za4 (zA4 (dVar 2) (dVar 5)) (za4 (dNeg (dCon (.int 1))) dNil))))) zO9)
def zQ4:DS:=(dSeq (dSet 6 (dLst (za4 (dTup (za4 (dCon (.int 0)) (za4 (dCon (.int 1)) dNil))) (za4 (dTup (za4 (dCon (.int 1)) (za4 (dCon (.int 1)) dNil))) (za4 (dTup (za4 (dNeg (dCon (.int 1))) (za4 (dCon (.int 1)) dNil))) (za4 (dTup (za4 (dCon (.int 1)) (za4 (dCon (.int 999983)) dNil))) (za4 (dTup (za4 (dNeg (dCon (.int 1))) (za4 (dCon (.int 999983)) dNil))) (za4 (dTup (za4 (dBin aPow (dCon (.int 10)) (dCon (.int 30))) (za4 (dCon (.int 7)) dNil))) (za4 (dTup (za4 (dNeg (dBin aPow (dCon (.int 10)) (dCon (.int 30)))) (za4 (dCon (.int 7)) dNil))) dNil))))))))) zP0)
def zQ0:DS:=(dSeq (dSet 5 (dBin aIx (dLst (za4 (dVar 4) (za4 (dBin aIx (dVar 3) (zc2 2 zb3 (za4 (dVar 0) (za4 (zd6 bLen (za4 (dVar 3) dNil)) dNil)))) dNil))) (zd6 bInt (za4 (dBin aGt (zc2 2 zb3 (za4 (dVar 0) (za4 (dCon (.int 3)) dNil))) (dCon (.int 0))) dNil)))) zQ4)
def zQ8:DS:=(dSeq (dSet 4 (dBin aIx (dVar 3) (zc2 2 zb3 (za4 (dVar 0) (za4 (zd6 bLen (za4 (dVar 3) dNil)) dNil))))) zQ0)
def zE7:DS:=(dSeq (dSet 3 (zc2 1 zi1 (za4 (dVar 1) dNil))) zQ8)
abbrev zf9:Stmt:=top 45
abbrev zw0:List Str:=["_law_clock_here","_law_row","_law_x","_law_y","_law_number","_law_strict","_law_apart","_law_over"]
abbrev zg4:List Str:=["_law_clock_here","_law_row"]
theorem zB7:FnScope zw0 zg4 (za7 zf9):=⟨rfl,rfl,rfl,by decide +kernel,rfl,by decide +kernel,by decide +kernel⟩
def zi0:DS:=(dSeq (dRet (dOr (dBin aLt (dVar 7) (dCon (.int 0))) (dAnd (dBin aEq (dVar 7) (dCon (.int 0))) (dNot (dVar 5))))) zb9)
def zA7:DS:=(dSeq (dSet 7 (dBin aSub (dBin aMul (dBin aIx (dVar 6) (dCon (.int 0))) (dBin aIx (dVar 4) (dCon (.int 1)))) (dBin aMul (dBin aIx (dVar 4) (dCon (.int 0))) (dBin aIx (dVar 6) (dCon (.int 1)))))) zi0)
def zA0:DS:=(dSeq (dSet 6 (zc2 3 zf7 (za4 (zA4 (dVar 0) (dVar 2)) (za4 (zA4 (dVar 0) (dVar 3)) (za4 (dNeg (dCon (.int 1))) dNil))))) zA7)
def zq6:DS:=(dSeq (dAsg (dVar 1) (gT 4 (gNs (gN 2) (gNs (gN 3) (gNs (gN 4) (gNs (gN 5) gN0)))))) zA0)
abbrev zi9:Stmt:=top 46
abbrev zD7:List Str:=["_law_things_here","_law_telling_here","_law_row","_law_fault","_law_due","_law_stood"]
abbrev zj2:List Str:=["_law_things_here","_law_telling_here","_law_row","_law_fault","_law_due"]
theorem zL7:FnScope zD7 zj2 (za7 zi9):=⟨rfl,rfl,rfl,by decide +kernel,rfl,by decide +kernel,by decide +kernel⟩
def zH4:DS:=(dSeq (dRet (dBin aEq (zd6 zav1 (za4 (dTup (za4 (dVar 0) (za4 (dVar 1) (za4 (dVar 2) dNil)))) dNil)) (dVar 5))) zb9)
def zG2:DS:=(dSeq (dIf (dTst (dBin aNe (zd6 zav1 (za4 (dTup (za4 (zc2 1 zs5 (za4 (dVar 2) dNil)) (za4 (zc2 3 zx2 (za4 (dVar 0) (za4 (dVar 1) (za4 (dVar 2) dNil)))) dNil))) dNil)) (zd6 zav1 (za4 (dTup (za4 (dVar 3) (za4 (dVar 4) dNil))) dNil)))) (dSeq (dRet (dCon (.bool false))) zb9) zb9) zH4)
def zv1:DS:=(dSeq (dSet 5 (zd6 zav1 (za4 (dTup (za4 (dVar 0) (za4 (dVar 1) (za4 (dVar 2) dNil)))) dNil))) zG2)
abbrev zab8:Stmt:=top 47
abbrev zaV1:List Str:=["_law_script","_law_feed_here","_law_k","_law_things_here","_law_telling_here","_law_clock_here","_law_j","_law_row","_law_fault","_law_a","_law_b","_law_words_here","_law_due"]
abbrev zaH9:List Str:=["_law_script"]
theorem zaO3:FnScope zaV1 zaH9 (za7 zab8):=⟨rfl,rfl,rfl,by decide +kernel,rfl,by decide +kernel,by decide +kernel⟩
def zN3:DS:=(dSeq (dIf (zaH2 (dTst (zc2 5 zj9 (za4 (dVar 3) (za4 (dVar 4) (za4 (dVar 7) (za4 (dVar 8) (za4 (zc2 2 zj1 (za4 (dVar 5) (za4 (dVar 7) dNil))) dNil)))))))) (dSeq (dRet (dCon (.bool false))) zb9) zb9) zb9)
def zO3:DS:=(dSeq (dSet 8 (dAnd (dBin aEq (dBin aIx (dVar 7) (dCon (.int 0))) (dBin aIx (dVar 7) (dCon (.int 1)))) (dOr (dBin aLt (dBin aIx (dBin aIx (dVar 7) (dCon (.int 2))) (dCon (.int 0))) (dCon (.int 0))) (dAnd (dBin aEq (dBin aIx (dBin aIx (dVar 7) (dCon (.int 2))) (dCon (.int 0))) (dCon (.int 0))) (dBin aIx (dVar 7) (dCon (.int 3))))))) zN3)
def zaq6:DS:=(dSeq (dSet 7 (zc2 3 zu6 (za4 (dVar 1) (za4 (dVar 3) (za4 (dVar 5) dNil))))) zO3)
def zY7:DS:=(dSeq (dIf (zaH2 (dTst (zc2 5 zj9 (za4 (dVar 3) (za4 (dVar 4) (za4 (dVar 7) (za4 (dBin aEq (dBin aIx (dVar 7) (dCon (.int 2))) (dTup dNil)) (za4 (dVar 12) dNil)))))))) (dSeq (dRet (dCon (.bool false))) zb9) zb9) zb9)
def zO6:DS:=(dSeq (dSet 12 (dBin aIn (zc2 4 zr0 (za4 (dVar 3) (za4 (dVar 5) (za4 (dVar 9) (za4 (dVar 10) dNil))))) (dBin aIx (dVar 7) (dCon (.int 2))))) zY7)
def zZ8:DS:=(dSeq (dSet 7 (dTup (za4 (dVar 9) (za4 (dVar 10) (za4 (dBin zaP9 (dVar 11) (zd6 bInt (za4 (dBin aGt (zc2 2 zb3 (za4 (dVar 1) (za4 (dCon (.int 6)) dNil))) (dCon (.int 0))) dNil))) dNil))))) zO6)
def zZ2:DS:=(dSeq (dSet 11 (zc2 2 zs7 (za4 (dVar 1) (za4 (zc2 2 zh6 (za4 (dVar 3) (za4 (dTup (za4 (dVar 9) (za4 (dVar 10) dNil))) dNil))) dNil)))) zZ8)
def zat4:DS:=(dSeq (dAsg (zc2 2 zt5 (za4 (dVar 1) (za4 (dVar 3) dNil))) (gT 2 (gNs (gN 9) (gNs (gN 10) gN0)))) zZ2)
def zZ9:DS:=(dSeq (dFor (zal4 (dBin aMul (dCon (.int 5)) (zd6 bInt (za4 (dBin aGt (zd6 bLen (za4 (dVar 3) dNil)) (dCon (.int 1))) dNil)))) (gN 6) zat4) zb9)
def zY5:DS:=(dSeq (dFor (zal4 (dCon (.int 5))) (gN 6) zaq6) zZ9)
def zY2:DS:=(dSeq (dSet 5 (zc2 2 zm7 (za4 (dVar 3) (za4 (dVar 4) dNil)))) zY5)
def zaa5:DS:=(dSeq (dSet 4 (zc2 2 zj4 (za4 (dVar 1) (za4 (dVar 3) dNil)))) zY2)
def zas0:DS:=(dSeq (dSet 3 (zc2 3 zk7 (za4 (dVar 1) (za4 (dCon (.int 1)) (za4 (dCon (.int 6)) dNil))))) zaa5)
def zaz9:DS:=(dSeq (dRet (dCon (.bool true))) zb9)
def zax1:DS:=(dSeq (dFor (zal4 (dCon (.int 6))) (gN 2) zas0) zaz9)
def zaK3:DS:=(dSeq (dSet 1 (zc2 1 zr2 (za4 (dVar 0) dNil))) zax1)
end K19
namespace K19
open PySem PySem.Spec PyProof.Rows L2 DL
section
variable {P:Program} {w:World} {K:PySem.W.Frag} {mg:Str→Option Value} {base:Heap}
theorem zaF1 {a_common:Addr} {fd_common:FuncData} (F_common:Fun K "common" "common" zy4 a_common fd_common) (m_abs:mg "abs"=none)
  (vc:∀ ds m R,ds.length=zy2.length→zu1 ds m R→zT1 { nx:=fun _ m=>R (.dat .none) m,rt:=R } (zb2 zad6 ds) m):FnOk P w K mg base CX0 1 a_common fd_common zy2 (LSp K 2 zu1) :=
 zb8 (k:=0) F_common zaj3 (body:=zT1) (fun cdv A outer s H E hr=>have nd:=(zaj3).nd; (za2 (zag9 PassesOwn.never (ze2 (zbb1 hr.u100) (za1 1) za3) (za2 (zal3 0 1 rfl nd (za0 (za1 1) (za0 (za9 zE0 (za1 0) (za1 1)) za5))) za6)) (za2 (zb6 (zd5 zaO5 rfl m_abs zai0 (za0 (za1 0) za5))) za6))) vc
theorem zan8 {a_fraction:Addr} {fd_fraction:FuncData} (F_fraction:Fun K "fraction" "fraction" zo4 a_fraction fd_fraction) {a_common:Addr} {fd_common:FuncData} (F_common:Fun K "common" "common" zy4 a_common fd_common) (B_common:Binds K fd_common zy2 []) (M_common:mg "common"=some (.ref a_common)) (C_common:FnOk P w K mg base CX0 1 a_common fd_common zy2 (LSp K 2 zu1))
  (vc:∀ ds m R,ds.length=zn7.length→zn8 ds m R→zx5 { nx:=fun _ m=>R (.dat .none) m,rt:=R } (zb2 zN6 ds) m):FnOk P w K mg base CX0 2 a_fraction fd_fraction zn7 (LSp K 2 zn8) :=
 zb8 (k:=1) F_fraction zV6 (body:=zx5) (fun cdv A outer s H E hr=>have nd:=(zV6).nd; (za2 (zb5 2 nd (za8 C_common (hr.mono (by decide)) M_common F_common.kp B_common rfl (za0 (za1 0) (za0 (za1 1) za5)))) (za2 (zk6 (ze2 zaa8 (za1 1) za3) (za2 (zb5 2 nd (ze9 (za1 2))) za6) za6) (za2 (zb6 (zc1 (za0 (za9 zY9 (za1 0) (za1 2)) (za0 (za9 zY9 (za1 1) (za1 2)) za5)))) za6)))) vc
theorem zaW7 {a_less:Addr} {fd_less:FuncData} (F_less:Fun K "less" "less" zV1 a_less fd_less) {a_fraction:Addr} {fd_fraction:FuncData} (F_fraction:Fun K "fraction" "fraction" zo4 a_fraction fd_fraction) (B_fraction:Binds K fd_fraction zn7 []) (M_fraction:mg "fraction"=some (.ref a_fraction)) (C_fraction:FnOk P w K mg base CX0 2 a_fraction fd_fraction zn7 (LSp K 2 zn8))
  (vc:∀ ds m R,ds.length=zU6.length→zO8 ds m R→zat6 { nx:=fun _ m=>R (.dat .none) m,rt:=R } (zb2 zaE4 ds) m):FnOk P w K mg base CX0 3 a_less fd_less zU6 (LSp K 2 zO8) :=
 zb8 (k:=2) F_less zax2 (body:=zat6) (fun cdv A outer s H E hr=>have nd:=(zax2).nd; (za2 (zb6 (za8 C_fraction (hr.mono (by decide)) M_fraction F_fraction.kp B_fraction rfl (za0 (za9 zK0 (za9 zi4 (zb4 (za1 0) za3) (zb4 (za1 1) za3)) (za9 zi4 (zb4 (za1 1) za3) (zb4 (za1 0) za3))) (za0 (za9 zi4 (zb4 (za1 0) za3) (zb4 (za1 1) za3)) za5)))) za6)) vc
theorem zan3 {a_is_below:Addr} {fd_is_below:FuncData} (F_is_below:Fun K "is_below" "is_below" zm6 a_is_below fd_is_below) 
  (vc:∀ ds m R,ds.length=zk3.length→zh5 ds m R→zE9 { nx:=fun _ m=>R (.dat .none) m,rt:=R } (zb2 zN4 ds) m):FnOk P w K mg base CX0 1 a_is_below fd_is_below zk3 (LSp K 2 zh5) :=
 zb8 (k:=0) F_is_below zU4 (body:=zE9) (fun cdv A outer s H E hr=>have nd:=(zU4).nd; (za2 (zb6 (zf1 zaa8 (za9 zi4 (zb4 (za1 0) za3) (zb4 (za1 1) za3)) (za9 zi4 (zb4 (za1 1) za3) (zb4 (za1 0) za3)))) za6)) vc
theorem zal5 {a_words_of:Addr} {fd_words_of:FuncData} (F_words_of:Fun K "words_of" "words_of" zp1 a_words_of fd_words_of) {c_POINT_WORDS:Addr} (M_POINT_WORDS:mg "POINT_WORDS"=some (.ref c_POINT_WORDS)) (K_POINT_WORDS:KTD K w c_POINT_WORDS zw2) {c_ORDER:Addr} (M_ORDER:mg "ORDER"=some (.ref c_ORDER)) (K_ORDER:KT K c_ORDER ["ahead","meets","overlaps","begins","within","ends","same","ended","holds","begun","lapped","met","behind"])
  (vc:∀ ds m R,ds.length=zp3.length→zp0 ds m R→zF0 { nx:=fun _ m=>R (.dat .none) m,rt:=R } (zb2 zN1 ds) m):FnOk P w K mg base CX0 1 a_words_of fd_words_of zp3 (LSp K 1 zp0) :=
 zb8 (k:=0) F_words_of zX2 (body:=zF0) (fun cdv A outer s H E hr=>have nd:=(zX2).nd; (za2 (zb6 (zaw0 hr.u100 rfl M_POINT_WORDS K_POINT_WORDS (za1 0) (zaS2 rfl M_ORDER K_ORDER))) za6)) vc
theorem zav0 {a_ways_by:Addr} {fd_ways_by:FuncData} (F_ways_by:Fun K "ways_by" "ways_by" zs6 a_ways_by fd_ways_by) {c_WAYS:Addr} (M_WAYS:mg "WAYS"=some (.ref c_WAYS)) (K_WAYS:KD K w c_WAYS zab6)
  (vc:∀ ds m R,ds.length=zu7.length→zo6 ds m R→zJ7 { nx:=fun _ m=>R (.dat .none) m,rt:=R } (zb2 zV9 ds) m):FnOk P w K mg base CX0 1 a_ways_by fd_ways_by zu7 (LSp K 2 zo6) :=
 zb8 (k:=0) F_ways_by zaa6 (body:=zJ7) (fun cdv A outer s H E hr=>have nd:=(zaa6).nd; (za2 (zb5 2 nd (zaA4 rfl M_WAYS K_WAYS (za1 1))) (za2 (zk6 (ze2 (zr5 hr.u100) (za1 0) (zc1 (za0 zb0 (za0 zb0 za5)))) (za2 (zb6 (za1 2)) za6) za6) (za2 (zk6 (ze2 (zr5 hr.u100) (za1 0) (zc1 (za0 zb0 (za0 zb0 za5)))) (za2 (zb6 (zaC0 (za1 2) zar4 (zat1 za3))) za6) za6) (za2 (zb6 (zc1 (za0 (zb4 (za1 2) za3) (za0 (zb4 (za1 2) za3) za5)))) za6))))) vc
theorem zal0 {a_is_point:Addr} {fd_is_point:FuncData} (F_is_point:Fun K "is_point" "is_point" zp4 a_is_point fd_is_point) (m_isinstance:mg "isinstance"=none) (m_tuple:mg "tuple"=none)
  (vc:∀ ds m R,ds.length=zo7.length→zh3 ds m R→zF8 { nx:=fun _ m=>R (.dat .none) m,rt:=R } (zb2 zO0 ds) m):FnOk P w K mg base CX0 1 a_is_point fd_is_point zo7 (LSp K 1 zh3) :=
 zb8 (k:=0) F_is_point zV8 (body:=zF8) (fun cdv A outer s H E hr=>have nd:=(zV8).nd; (za2 (zb6 (zan4 (zaO8 rfl m_isinstance rfl m_tuple zl4 (Or.inr (Or.inr (Or.inr (Or.inl rfl)))) (zb4 (za1 0) za3)))) za6)) vc
theorem zaF2 {a_way_of:Addr} {fd_way_of:FuncData} (F_way_of:Fun K "way_of" "way_of" zy9 a_way_of fd_way_of) {a_is_below:Addr} {fd_is_below:FuncData} (F_is_below:Fun K "is_below" "is_below" zm6 a_is_below fd_is_below) (B_is_below:Binds K fd_is_below zk3 []) (M_is_below:mg "is_below"=some (.ref a_is_below)) (C_is_below:FnOk P w K mg base CX0 1 a_is_below fd_is_below zk3 (LSp K 2 zh5))
  (vc:∀ ds m R,ds.length=zz4.length→zx1 ds m R→zS8 { nx:=fun _ m=>R (.dat .none) m,rt:=R } (zb2 zad8 ds) m):FnOk P w K mg base CX0 2 a_way_of fd_way_of zz4 (LSp K 2 zx1) :=
 zb8 (k:=1) F_way_of zag2 (body:=zS8) (fun cdv A outer s H E hr=>have nd:=(zag2).nd; (za2 (zk6 (zt1 (za8 C_is_below (hr.mono (by decide)) M_is_below F_is_below.kp B_is_below rfl (za0 (za1 0) (za0 (za1 1) za5)))) (za2 (zb6 (ze9 za3)) za6) za6) (za2 (zk6 (zt1 (za8 C_is_below (hr.mono (by decide)) M_is_below F_is_below.kp B_is_below rfl (za0 (za1 1) (za0 (za1 0) za5)))) (za2 (zb6 za3) za6) za6) (za2 (zb6 za3) za6)))) vc
theorem zaw2 {a_word_of:Addr} {fd_word_of:FuncData} (F_word_of:Fun K "word_of" "word_of" zu5 a_word_of fd_word_of) {a_is_point:Addr} {fd_is_point:FuncData} (F_is_point:Fun K "is_point" "is_point" zp4 a_is_point fd_is_point) (B_is_point:Binds K fd_is_point zo7 []) (M_is_point:mg "is_point"=some (.ref a_is_point)) (C_is_point:FnOk P w K mg base CX0 1 a_is_point fd_is_point zo7 (LSp K 1 zh3)) {a_way_of:Addr} {fd_way_of:FuncData} (F_way_of:Fun K "way_of" "way_of" zy9 a_way_of fd_way_of) (B_way_of:Binds K fd_way_of zz4 []) (M_way_of:mg "way_of"=some (.ref a_way_of)) (C_way_of:FnOk P w K mg base CX0 2 a_way_of fd_way_of zz4 (LSp K 2 zx1)) {a_words_of:Addr} {fd_words_of:FuncData} (F_words_of:Fun K "words_of" "words_of" zp1 a_words_of fd_words_of) (B_words_of:Binds K fd_words_of zp3 []) (M_words_of:mg "words_of"=some (.ref a_words_of)) (C_words_of:FnOk P w K mg base CX0 1 a_words_of fd_words_of zp3 (LSp K 1 zp0)) {a_ways_by:Addr} {fd_ways_by:FuncData} (F_ways_by:Fun K "ways_by" "ways_by" zs6 a_ways_by fd_ways_by) (B_ways_by:Binds K fd_ways_by zu7 []) (M_ways_by:mg "ways_by"=some (.ref a_ways_by)) (C_ways_by:FnOk P w K mg base CX0 1 a_ways_by fd_ways_by zu7 (LSp K 2 zo6)) (m_tuple:mg "tuple"=none)
  (vc:∀ ds m R,ds.length=zu4.length→zw8 ds m R→zs3 { nx:=fun _ m=>R (.dat .none) m,rt:=R } (zb2 zX7 ds) m):FnOk P w K mg base CX0 3 a_word_of fd_word_of zu4 (LSp K 2 zw8) :=
 zb8 (k:=2) F_word_of zaa1 (body:=zs3) (fun cdv A outer s H E hr=>have nd:=(zaa1).nd; (za2 (zb5 2 nd (zc1 (za0 (zv7 (zt1 (za8 C_is_point (hr.mono (by decide)) M_is_point F_is_point.kp B_is_point rfl (za0 (za1 0) za5))) zb0 zb0) (za0 (zv7 (zt1 (za8 C_is_point (hr.mono (by decide)) M_is_point F_is_point.kp B_is_point rfl (za0 (za1 1) za5))) zb0 zb0) za5)))) (za2 (zb5 3 nd (zv7 (zt1 (za8 C_is_point (hr.mono (by decide)) M_is_point F_is_point.kp B_is_point rfl (za0 (za1 0) za5))) (zc1 (za0 (za1 0) za5)) (za1 0))) (za2 (zb5 4 nd (zv7 (zt1 (za8 C_is_point (hr.mono (by decide)) M_is_point F_is_point.kp B_is_point rfl (za0 (za1 1) za5))) (zc1 (za0 (za1 1) za5)) (za1 1))) (za2 (zb5 5 nd (ze6 zK6 rfl m_tuple zl4 (za0 (zaH1 ["x","y","others"] [none,none,some 4] rfl (zj3 (za1 3)) (fun cl C s2 H2 pins fp=>(zb7 0 zP3)) (fun cl C s2 H2 pins fp=>zy1) (fun cl C s2 H2 pins fp=>(zj3 (za1 2))) (fun cl C s2 H2 pins fp=>(zb7 1 zP3)) (fun cl C s2 H2 pins fp=>zy1) (fun cl C s2 H2 pins fp=>(za8 C_way_of (hr.mono (by decide)) M_way_of F_way_of.kp B_way_of rfl (za0 (za1 0) (za0 (za1 1) za5))))) za5))) (za2 (zb6 (zb4 (zX1 ["word","kinds","ways"] [none,some 2,some 5] rfl (zj3 (za8 C_words_of (hr.mono (by decide)) M_words_of F_words_of.kp B_words_of rfl (za0 (za1 2) za5))) (fun cl C s2 H2 pins fp=>(zb7 0 zaj5)) (fun cl C s2 H2 pins fp=>(zaB8 (ze2 (zr5 hr.u100) (za8 C_ways_by (hr.mono (by decide)) M_ways_by F_ways_by.kp B_ways_by rfl (za0 (za1 1) (za0 (za1 0) za5))) (za1 2)))) (fun cl C s2 H2 pins fp=>(za1 0))) za3)) za6)))))) vc
theorem zao0 {a_names_of:Addr} {fd_names_of:FuncData} (F_names_of:Fun K "names_of" "names_of" zn9 a_names_of fd_names_of) 
  (vc:∀ ds m R,ds.length=zp5.length→zs4 ds m R→zF6 { nx:=fun _ m=>R (.dat .none) m,rt:=R } (zb2 zO1 ds) m):FnOk P w K mg base CX0 1 a_names_of fd_names_of zp5 (LSp K 1 zs4) :=
 zb8 (k:=0) F_names_of zX5 (body:=zF6) (fun cdv A outer s H E hr=>have nd:=(zX5).nd; (za2 (zb6 (zX1 ["name","kind"] [none,none] rfl (zj3 (za1 0)) (fun cl C s2 H2 pins fp=>(zx9 rfl (zc4 (zb7 0 zJ9) (zc4 (zb7 1 zJ9) zr8)))) (fun cl C s2 H2 pins fp=>zy1) (fun cl C s2 H2 pins fp=>(za1 0)))) za6)) vc
theorem zam3 {a_times_of:Addr} {fd_times_of:FuncData} (F_times_of:Fun K "times_of" "times_of" zm4 a_times_of fd_times_of) {a_names_of:Addr} {fd_names_of:FuncData} (F_names_of:Fun K "names_of" "names_of" zn9 a_names_of fd_names_of) (B_names_of:Binds K fd_names_of zp5 []) (M_names_of:mg "names_of"=some (.ref a_names_of)) (C_names_of:FnOk P w K mg base CX0 1 a_names_of fd_names_of zp5 (LSp K 1 zs4))
  (vc:∀ ds m R,ds.length=zk2.length→zj6 ds m R→zF3 { nx:=fun _ m=>R (.dat .none) m,rt:=R } (zb2 zO2 ds) m):FnOk P w K mg base CX0 2 a_times_of fd_times_of zk2 (LSp K 3 zj6) :=
 zb8 (k:=1) F_times_of zW2 (body:=zF3) (fun cdv A outer s H E hr=>have nd:=(zW2).nd; (za2 (zb6 (zb4 (za1 1) (zas4 (za8 C_names_of (hr.mono (by decide)) M_names_of F_names_of.kp B_names_of rfl (za0 (za1 0) za5)) (za1 2)))) za6)) vc
theorem zaw6 {a_time_of:Addr} {fd_time_of:FuncData} (F_time_of:Fun K "time_of" "time_of" zt3 a_time_of fd_time_of) {a_times_of:Addr} {fd_times_of:FuncData} (F_times_of:Fun K "times_of" "times_of" zm4 a_times_of fd_times_of) (B_times_of:Binds K fd_times_of zk2 []) (M_times_of:mg "times_of"=some (.ref a_times_of)) (C_times_of:FnOk P w K mg base CX0 2 a_times_of fd_times_of zk2 (LSp K 3 zj6)) (m_dict:mg "dict"=none)
  (vc:∀ ds m R,ds.length=zt7.length→zs1 ds m R→zM2 { nx:=fun _ m=>R (.dat .none) m,rt:=R } (zb2 zV4 ds) m):FnOk P w K mg base CX0 3 a_time_of fd_time_of zt7 (LSp K 3 zs1) :=
 zb8 (k:=2) F_time_of zZ5 (body:=zM2) (fun cdv A outer s H E hr=>have nd:=(zZ5).nd; (za2 (zU1 (za1 2) (zx9 rfl (zc4 (zb7 3 nd) (zc4 (zb7 4 nd) zr8)))) (za2 (zb5 5 nd (za8 C_times_of (hr.mono (by decide)) M_times_of F_times_of.kp B_times_of rfl (za0 (za1 0) (za0 (za1 1) (za0 (za1 3) za5))))) (za2 (zb6 (zv7 (ze2 (zr5 hr.u100) (zad0 hr.u100 (zah6 rfl rfl m_dict (za1 0)) (za1 3)) zb0) (za1 5) (zb4 (za1 5) (za1 4)))) za6)))) vc
theorem zW4 {a_word_between:Addr} {fd_word_between:FuncData} (F_word_between:Fun K "word_between" "word_between" zg3 a_word_between fd_word_between) {a_word_of:Addr} {fd_word_of:FuncData} (F_word_of:Fun K "word_of" "word_of" zu5 a_word_of fd_word_of) (B_word_of:Binds K fd_word_of zu4 []) (M_word_of:mg "word_of"=some (.ref a_word_of)) (C_word_of:FnOk P w K mg base CX0 3 a_word_of fd_word_of zu4 (LSp K 2 zw8)) {a_times_of:Addr} {fd_times_of:FuncData} (F_times_of:Fun K "times_of" "times_of" zm4 a_times_of fd_times_of) (B_times_of:Binds K fd_times_of zk2 []) (M_times_of:mg "times_of"=some (.ref a_times_of)) (C_times_of:FnOk P w K mg base CX0 2 a_times_of fd_times_of zk2 (LSp K 3 zj6))
  (vc:∀ ds m R,ds.length=zf8.length→zg8 ds m R→zp8 { nx:=fun _ m=>R (.dat .none) m,rt:=R } (zb2 zw3 ds) m):FnOk P w K mg base CX0 4 a_word_between fd_word_between zf8 (LSp K 4 zg8) :=
 zb8 (k:=3) F_word_between zC0 (body:=zp8) (fun cdv A outer s H E hr=>have nd:=(zC0).nd; (za2 (zb6 (za8 C_word_of (hr.mono (by decide)) M_word_of F_word_of.kp B_word_of rfl (za0 (za8 C_times_of (hr.mono (by decide)) M_times_of F_times_of.kp B_times_of rfl (za0 (za1 0) (za0 (za1 1) (za0 (za1 2) za5)))) (za0 (za8 C_times_of (hr.mono (by decide)) M_times_of F_times_of.kp B_times_of rfl (za0 (za1 0) (za0 (za1 1) (za0 (za1 3) za5)))) za5)))) za6)) vc
theorem zae9 {a_is_gap_met:Addr} {fd_is_gap_met:FuncData} (F_is_gap_met:Fun K "is_gap_met" "is_gap_met" zi6 a_is_gap_met fd_is_gap_met) {a_less:Addr} {fd_less:FuncData} (F_less:Fun K "less" "less" zV1 a_less fd_less) (B_less:Binds K fd_less zU6 []) (M_less:mg "less"=some (.ref a_less)) (C_less:FnOk P w K mg base CX0 3 a_less fd_less zU6 (LSp K 2 zO8)) {a_time_of:Addr} {fd_time_of:FuncData} (F_time_of:Fun K "time_of" "time_of" zt3 a_time_of fd_time_of) (B_time_of:Binds K fd_time_of zt7 []) (M_time_of:mg "time_of"=some (.ref a_time_of)) (C_time_of:FnOk P w K mg base CX0 3 a_time_of fd_time_of zt7 (LSp K 3 zs1)) {a_is_below:Addr} {fd_is_below:FuncData} (F_is_below:Fun K "is_below" "is_below" zm6 a_is_below fd_is_below) (B_is_below:Binds K fd_is_below zk3 []) (M_is_below:mg "is_below"=some (.ref a_is_below)) (C_is_below:FnOk P w K mg base CX0 1 a_is_below fd_is_below zk3 (LSp K 2 zh5))
  (vc:∀ ds m R,ds.length=zj0.length→zm8 ds m R→zv2 { nx:=fun _ m=>R (.dat .none) m,rt:=R } (zb2 zE1 ds) m):FnOk P w K mg base CX0 4 a_is_gap_met fd_is_gap_met zj0 (LSp K 3 zm8) :=
 zb8 (k:=3) F_is_gap_met zL0 (body:=zv2) (fun cdv A outer s H E hr=>have nd:=(zL0).nd; (za2 (zU1 (za1 2) (zx9 rfl (zc4 (zb7 3 nd) (zc4 (zb7 4 nd) (zc4 (zb7 5 nd) (zc4 (zb7 6 nd) zr8)))))) (za2 (zb5 7 nd (za8 C_less (hr.mono (by decide)) M_less F_less.kp B_less rfl (za0 (za8 C_time_of (hr.mono (by decide)) M_time_of F_time_of.kp B_time_of rfl (za0 (za1 0) (za0 (za1 1) (za0 (za1 3) za5)))) (za0 (za8 C_time_of (hr.mono (by decide)) M_time_of F_time_of.kp B_time_of rfl (za0 (za1 0) (za0 (za1 1) (za0 (za1 4) za5)))) za5)))) (za2 (zb6 (zv7 (zt1 (za1 6)) (za8 C_is_below (hr.mono (by decide)) M_is_below F_is_below.kp B_is_below rfl (za0 (za1 7) (za0 (za1 5) za5))) (zan4 (za8 C_is_below (hr.mono (by decide)) M_is_below F_is_below.kp B_is_below rfl (za0 (za1 5) (za0 (za1 7) za5)))))) za6)))) vc
theorem zaa9 {a_is_may_row:Addr} {fd_is_may_row:FuncData} (F_is_may_row:Fun K "is_may_row" "is_may_row" zh0 a_is_may_row fd_is_may_row) (m_len:mg "len"=none)
  (vc:∀ ds m R,ds.length=zf4.length→zh8 ds m R→zr1 { nx:=fun _ m=>R (.dat .none) m,rt:=R } (zb2 zB8 ds) m):FnOk P w K mg base CX0 1 a_is_may_row fd_is_may_row zf4 (LSp K 1 zh8) :=
 zb8 (k:=0) F_is_may_row zL8 (body:=zr1) (fun cdv A outer s H E hr=>have nd:=(zL8).nd; (za2 (zb6 (zf1 (zr5 hr.u100) (zd5 zH3 rfl m_len zk8 (za0 (za1 0) za5)) za3)) za6)) vc
theorem zal1 {a_is_fault:Addr} {fd_is_fault:FuncData} (F_is_fault:Fun K "is_fault" "is_fault" zo2 a_is_fault fd_is_fault) {a_is_may_row:Addr} {fd_is_may_row:FuncData} (F_is_may_row:Fun K "is_may_row" "is_may_row" zh0 a_is_may_row fd_is_may_row) (B_is_may_row:Binds K fd_is_may_row zf4 []) (M_is_may_row:mg "is_may_row"=some (.ref a_is_may_row)) (C_is_may_row:FnOk P w K mg base CX0 1 a_is_may_row fd_is_may_row zf4 (LSp K 1 zh8))
  (vc:∀ ds m R,ds.length=zo0.length→zs5 ds m R→zx4 { nx:=fun _ m=>R (.dat .none) m,rt:=R } (zb2 zN9 ds) m):FnOk P w K mg base CX0 2 a_is_fault fd_is_fault zo0 (LSp K 1 zs5) :=
 zb8 (k:=1) F_is_fault zW9 (body:=zx4) (fun cdv A outer s H E hr=>have nd:=(zW9).nd; (za2 (zk6 (zt1 (za8 C_is_may_row (hr.mono (by decide)) M_is_may_row F_is_may_row.kp B_is_may_row rfl (za0 (za1 0) za5))) (za2 (zb6 (zf1 (zr5 hr.u100) (zb4 (za1 0) za3) (zc1 za5))) za6) za6) (za2 (zU1 (za1 0) (zx9 rfl (zc4 (zb7 1 nd) (zc4 (zb7 2 nd) (zc4 (zb7 3 nd) (zc4 (zb7 4 nd) zr8)))))) (za2 (zb6 (zV3 (zf1 (zr5 hr.u100) (za1 1) (za1 2)) (zD1 (zaE6 (zf1 zaa8 (zb4 (za1 3) za3) za3) (zD1 (zV3 (zf1 (zr5 hr.u100) (zb4 (za1 3) za3) za3) (zD1 (za1 4)))))))) za6)))) vc
theorem zat9 {a_has_row:Addr} {fd_has_row:FuncData} (F_has_row:Fun K "has_row" "has_row" zt9 a_has_row fd_has_row) {a_is_may_row:Addr} {fd_is_may_row:FuncData} (F_is_may_row:Fun K "is_may_row" "is_may_row" zh0 a_is_may_row fd_is_may_row) (B_is_may_row:Binds K fd_is_may_row zf4 []) (M_is_may_row:mg "is_may_row"=some (.ref a_is_may_row)) (C_is_may_row:FnOk P w K mg base CX0 1 a_is_may_row fd_is_may_row zf4 (LSp K 1 zh8)) {a_word_between:Addr} {fd_word_between:FuncData} (F_word_between:Fun K "word_between" "word_between" zg3 a_word_between fd_word_between) (B_word_between:Binds K fd_word_between zf8 []) (M_word_between:mg "word_between"=some (.ref a_word_between)) (C_word_between:FnOk P w K mg base CX0 4 a_word_between fd_word_between zf8 (LSp K 4 zg8)) {a_is_gap_met:Addr} {fd_is_gap_met:FuncData} (F_is_gap_met:Fun K "is_gap_met" "is_gap_met" zi6 a_is_gap_met fd_is_gap_met) (B_is_gap_met:Binds K fd_is_gap_met zj0 []) (M_is_gap_met:mg "is_gap_met"=some (.ref a_is_gap_met)) (C_is_gap_met:FnOk P w K mg base CX0 4 a_is_gap_met fd_is_gap_met zj0 (LSp K 3 zm8))
  (vc:∀ ds m R,ds.length=zt0.length→zx2 ds m R→zE5 { nx:=fun _ m=>R (.dat .none) m,rt:=R } (zb2 zX6 ds) m):FnOk P w K mg base CX0 5 a_has_row fd_has_row zt0 (LSp K 3 zx2) :=
 zb8 (k:=4) F_has_row zY3 (body:=zE5) (fun cdv A outer s H E hr=>have nd:=(zY3).nd; (za2 (zk6 (zt1 (za8 C_is_may_row (hr.mono (by decide)) M_is_may_row F_is_may_row.kp B_is_may_row rfl (za0 (za1 2) za5))) (za2 (zb6 (zf1 zba7 (za8 C_word_between (hr.mono (by decide)) M_word_between F_word_between.kp B_word_between rfl (za0 (za1 0) (za0 (za1 1) (za0 (zb4 (za1 2) za3) (za0 (zb4 (za1 2) za3) za5))))) (zb4 (za1 2) za3) (hm:=by with_unfolding_all rfl))) za6) za6) (za2 (zb6 (za8 C_is_gap_met (hr.mono (by decide)) M_is_gap_met F_is_gap_met.kp B_is_gap_met rfl (za0 (za1 0) (za0 (za1 1) (za0 (za1 2) za5))))) za6))) vc
theorem zah8 {a__law_feed:Addr} {fd__law_feed:FuncData} (F__law_feed:Fun K "_law_feed" "_law_feed" zl9 a__law_feed fd__law_feed) (m_list:mg "list"=none) (m_int:mg "int"=none)
  (vc:∀ ds m R,ds.length=zl1.length→zr2 ds m R→zz1 { nx:=fun _ m=>R (.dat .none) m,rt:=R } (zb2 zI2 ds) m):FnOk P w K mg base CX0 1 a__law_feed fd__law_feed zl1 (LSp K 1 zr2) :=
 zb8 (k:=0) F__law_feed zP1 (body:=zz1) (fun cdv A outer s H E hr=>have nd:=(zP1).nd; (za2 (zb6 (zz7 (za0 (za9 zn2 (ze6 zaA5 rfl m_list zZ6 (za0 (zaC0 (za1 0) zar4 (zat1 za3)) za5)) (za9 zaR9 (zz7 (za0 za3 za5)) (ze6 zaa4 rfl m_int zx6 (za0 (zf1 (zr5 hr.u100) (za1 0) (zw7 za5)) za5)))) (za0 za3 (za0 za3 (za0 za3 za5)))))) za6)) vc
theorem zaj1 {a__law_draw:Addr} {fd__law_draw:FuncData} (F__law_draw:Fun K "_law_draw" "_law_draw" ze0 a__law_draw fd__law_draw) (m_len:mg "len"=none)
  (vc:∀ ds m R,ds.length=zc7.length→zb3 ds m R→zz8 { nx:=fun _ m=>R (.dat .none) m,rt:=R } (zb2 zI9 ds) m):FnOk P w K mg base CX0 1 a__law_draw fd__law_draw zc7 (LSp K 2 zb3) :=
 zb8 (k:=0) F__law_draw zP8 (body:=zz8) (fun cdv A outer s H E hr=>have nd:=(zP8).nd; (za2 (zac4 (za9 zn2 (zb4 (za1 0) za3) za3) (za1 0) za3) (za2 (zb5 2 nd (zb4 (za1 0) za3)) (za2 (zk6 (ze2 (zr5 hr.u100) (zb4 (za1 0) za3) za3) (za2 (zb5 3 nd (zb4 (zb4 (za1 0) za3) (za9 zE0 (zb4 (za1 0) za3) (zd5 zH3 rfl m_len zk8 (za0 (zb4 (za1 0) za3) za5))))) (za2 (zac4 (za9 zn2 (zb4 (za1 0) za3) za3) (za1 0) za3) (za2 (zk6 (ze2 zaa8 (za1 3) (za9 zay3 za3 za3)) (za2 (zb5 4 nd (za9 zE0 (za9 zi4 (za9 zn2 (za9 zE0 (za1 3) za3) za3) (za9 zn2 (za9 zn2 (za9 zi4 (za9 zi4 za3 (za1 2)) (za1 2)) (za9 zi4 za3 (za1 2))) za3)) za3)) (za2 (zb5 4 nd (za9 zn2 (za9 zi4 (za1 4) (za9 zn2 (za9 zE0 (za1 4) za3) za3)) (za1 2))) (za2 (zb6 (za9 zE0 (za9 zY9 (za9 zE0 (za1 4) za3) za3) (za1 1))) za6))) za6) (za2 (zac4 (za1 3) (za1 0) za3) za6)))) za6) (za2 (zb5 5 nd (za9 zE0 (zb4 (za1 0) za3) (za1 1))) (za2 (zac4 (za9 zY9 (zb4 (za1 0) za3) (za1 1)) (za1 0) za3) (za2 (zb6 (za1 5)) za6))))))) vc
theorem zY1 {a__law_things:Addr} {fd__law_things:FuncData} (F__law_things:Fun K "_law_things" "_law_things" zh4 a__law_things fd__law_things) {a__law_draw:Addr} {fd__law_draw:FuncData} (F__law_draw:Fun K "_law_draw" "_law_draw" ze0 a__law_draw fd__law_draw) (B__law_draw:Binds K fd__law_draw zc7 []) (M__law_draw:mg "_law_draw"=some (.ref a__law_draw)) (C__law_draw:FnOk P w K mg base CX0 1 a__law_draw fd__law_draw zc7 (LSp K 2 zb3)) (m_sorted:mg "sorted"=none) (m_range:mg "range"=none) (m_tuple:mg "tuple"=none) (m_zip:mg "zip"=none)
  (vc:∀ ds m R,ds.length=zh7.length→zk7 ds m R→zs0 { nx:=fun _ m=>R (.dat .none) m,rt:=R } (zb2 zy3 ds) m):FnOk P w K mg base CX0 2 a__law_things fd__law_things zh7 (LSp K 3 zk7) :=
 zb8 (k:=1) F__law_things zG4 (body:=zs0) (fun cdv A outer s H E hr=>have nd:=(zG4).nd; (za2 (zb5 3 nd (zw7 (za0 zb0 (za0 zb0 (za0 zb0 (za0 zb0 (za0 zb0 (za0 zb0 (za0 zb0 (za0 zb0 (za0 zb0 (za0 zb0 (za0 zb0 za5))))))))))))) (za2 (zb5 4 nd (za9 zn2 (za1 1) (za8 C__law_draw (hr.mono (by decide)) M__law_draw F__law_draw.kp B__law_draw rfl (za0 (za1 0) (za0 (za9 zn2 (za9 zK0 (za1 2) (za1 1)) za3) za5))))) (za2 (zb5 5 nd (za8 C__law_draw (hr.mono (by decide)) M__law_draw F__law_draw.kp B__law_draw rfl (za0 (za1 0) (za0 za3 za5)))) (za2 (zb5 6 nd (za9 zn2 za3 (za8 C__law_draw (hr.mono (by decide)) M__law_draw F__law_draw.kp B__law_draw rfl (za0 (za1 0) (za0 za3 za5))))) (za2 (zb5 7 nd (zd5 zaC5 rfl m_sorted zak3 (za0 (zX1 ["_law_k","_law_some","_law_first","_law_step"] [none,some 3,some 5,some 6] rfl (zB9 rfl m_range (za1 4)) (fun cl C s2 H2 pins fp=>(zb7 0 zR7)) (fun cl C s2 H2 pins fp=>zy1) (fun cl C s2 H2 pins fp=>(zb4 (za1 1) (za9 zE0 (za9 zn2 (za1 2) (za9 zi4 (za1 3) (za1 0))) za3)))) za5))) (za2 (zb5 8 nd (za8 C__law_draw (hr.mono (by decide)) M__law_draw F__law_draw.kp B__law_draw rfl (za0 (za1 0) (za0 za3 za5)))) (za2 (zax9 9 ["_law_name","_law_feed_here"] [none,some 0] rfl nd (zj3 (za1 7)) (fun cl C s2 H2 pins fp=>(zb7 0 zR9)) (fun cl C s2 H2 pins fp=>zy1) (fun cl C s2 H2 pins fp=>(zb4 (zw7 (za0 zb0 (za0 zb0 (za0 zb0 za5)))) (za8 C__law_draw (hr.mono (by decide)) M__law_draw F__law_draw.kp B__law_draw rfl (za0 (za1 1) (za0 za3 za5)))))) (za2 (zk6 (ze2 zaa8 (za1 8) za3) (za2 (zax9 9 ["_law_name","_law_way"] [none,some 8] rfl nd (zj3 (za1 7)) (fun cl C s2 H2 pins fp=>(zb7 0 zS2)) (fun cl C s2 H2 pins fp=>zy1) (fun cl C s2 H2 pins fp=>(zb4 (zw7 (za0 zb0 (za0 zb0 za5))) (za1 1)))) za6) za6) (za2 (zb6 (zau6 rfl rfl m_tuple rfl m_zip (za1 7) (za1 9))) za6)))))))))) vc
theorem zac6 {a__law_words:Addr} {fd__law_words:FuncData} (F__law_words:Fun K "_law_words" "_law_words" zf2 a__law_words fd__law_words) 
  (vc:∀ ds m R,ds.length=zd7.length→ze4 ds m R→zv4 { nx:=fun _ m=>R (.dat .none) m,rt:=R } (zb2 zC3 ds) m):FnOk P w K mg base CX0 1 a__law_words fd__law_words zd7 (LSp K 1 ze4) :=
 zb8 (k:=0) F__law_words zK8 (body:=zv4) (fun cdv A outer s H E hr=>have nd:=(zK8).nd; (za2 (zk6 (ze2 (zr5 hr.u100) (za1 0) (zc1 (za0 zb0 (za0 zb0 za5)))) (za2 (zb6 (zc1 (za0 zb0 (za0 zb0 (za0 zb0 za5))))) za6) za6) (za2 (zk6 (ze2 (zr5 hr.u100) (za1 0) (zc1 (za0 zb0 (za0 zb0 za5)))) (za2 (zb6 (zc1 (za0 zb0 (za0 zb0 (za0 zb0 (za0 zb0 (za0 zb0 za5))))))) za6) za6) (za2 (zk6 (ze2 (zr5 hr.u100) (za1 0) (zc1 (za0 zb0 (za0 zb0 za5)))) (za2 (zb6 (zc1 (za0 zb0 (za0 zb0 (za0 zb0 (za0 zb0 (za0 zb0 za5))))))) za6) za6) (za2 (zb5 1 nd (zc1 (za0 zb0 (za0 zb0 (za0 zb0 (za0 zb0 (za0 zb0 (za0 zb0 (za0 zb0 (za0 zb0 (za0 zb0 (za0 zb0 (za0 zb0 za5))))))))))))) (za2 (zb6 (za9 zn2 (za1 1) (zc1 (za0 zb0 (za0 zb0 za5))))) za6)))))) vc
theorem zai2 {a__law_back:Addr} {fd__law_back:FuncData} (F__law_back:Fun K "_law_back" "_law_back" zm2 a__law_back fd__law_back) {a__law_words:Addr} {fd__law_words:FuncData} (F__law_words:Fun K "_law_words" "_law_words" zf2 a__law_words fd__law_words) (B__law_words:Binds K fd__law_words zd7 []) (M__law_words:mg "_law_words"=some (.ref a__law_words)) (C__law_words:FnOk P w K mg base CX0 1 a__law_words fd__law_words zd7 (LSp K 1 ze4))
  (vc:∀ ds m R,ds.length=zl7.length→zq9 ds m R→zy5 { nx:=fun _ m=>R (.dat .none) m,rt:=R } (zb2 zI3 ds) m):FnOk P w K mg base CX0 2 a__law_back fd__law_back zl7 (LSp K 1 zq9) :=
 zb8 (k:=1) F__law_back zR4 (body:=zy5) (fun cdv A outer s H E hr=>have nd:=(zR4).nd; (za2 (zb5 1 nd (za8 C__law_words (hr.mono (by decide)) M__law_words F__law_words.kp B__law_words rfl (za0 (zc1 (za0 zb0 (za0 zb0 za5))) za5))) (za2 (zb6 (zb4 (za1 1) (za9 zK0 za3 (zas4 (za1 1) (za1 0))))) za6))) vc
theorem zD0 {j:Nat} {a__law_sign:Addr} {fd__law_sign:FuncData} (F__law_sign:Fun K "_law_sign" "_law_sign" zg2 a__law_sign fd__law_sign) (B__law_sign:Binds K fd__law_sign zd4 []) (M__law_sign:mg "_law_sign"=some (.ref a__law_sign)) (C__law_sign:FnOk P w K mg base CX0 (j + 3) a__law_sign fd__law_sign zd4 (LSp K 4 (zd1 j))) {a__law_back:Addr} {fd__law_back:FuncData} (F__law_back:Fun K "_law_back" "_law_back" zm2 a__law_back fd__law_back) (B__law_back:Binds K fd__law_back zl7 []) (M__law_back:mg "_law_back"=some (.ref a__law_back)) (C__law_back:FnOk P w K mg base CX0 2 a__law_back fd__law_back zl7 (LSp K 1 zq9))
  (vc:∀ ds m R,ds.length=zd4.length→(zd1 (j + 1)) ds m R→zl6 j { nx:=fun _ m=>R (.dat .none) m,rt:=R } (zb2 zo1 ds) m):FnOk P w K mg base CX0 (j + 3 + 1) a__law_sign fd__law_sign zd4 (LSp K 4 (zd1 (j + 1))) :=
 zb8 (k:=j + 3) F__law_sign zQ6 (body:=(zl6 j)) (fun cdv A outer s H E hr=>have nd:=(zQ6).nd; (za2 (zb5 4 nd (zas2 (zy7 zb0 (zc1 (za0 (ze9 za3) (za0 (ze9 za3) (za0 (ze9 za3) (za0 (ze9 za3) za5))))) (zy7 zb0 (zc1 (za0 (ze9 za3) (za0 (ze9 za3) (za0 za3 (za0 (ze9 za3) za5))))) (zy7 zb0 (zc1 (za0 (ze9 za3) (za0 (ze9 za3) (za0 za3 (za0 (ze9 za3) za5))))) zaE2))))) (za2 (zF7 (zaG5 (za1 4) (zas2 (zy7 zb0 (zc1 (za0 za3 (za0 (ze9 za3) (za0 za3 (za0 (ze9 za3) za5))))) (zy7 zb0 (zc1 (za0 za3 (za0 (ze9 za3) (za0 za3 (za0 (ze9 za3) za5))))) (zy7 zb0 (zc1 (za0 za3 (za0 (ze9 za3) (za0 za3 (za0 za3 za5))))) (zy7 zb0 (zc1 (za0 za3 (za0 (ze9 za3) (za0 za3 (za0 za3 za5))))) zaE2))))))) (za2 (zk6 (ze2 (zaF0 hr.u100) (za1 1) (za1 4) (hm:=by with_unfolding_all rfl)) (za2 (zb6 (za9 zK0 za3 (za8 C__law_sign (hr.mono (by omega)) M__law_sign F__law_sign.kp B__law_sign rfl (za0 (zc1 (za0 (zb4 (za1 0) za3) (za0 (zb4 (za1 0) za3) za5))) (za0 (za8 C__law_back (hr.mono (by omega)) M__law_back F__law_back.kp B__law_back rfl (za0 (za1 1) za5)) (za0 (za1 3) (za0 (za1 2) za5))))))) za6) za6) (za2 (zb6 (zb4 (zad0 hr.u100 (za1 4) (za1 1)) (zv7 (ze2 (zr5 hr.u100) (za1 0) (zc1 (za0 zb0 (za0 zb0 za5)))) (za9 zn2 (za9 zi4 za3 (za1 2)) (za1 3)) (za9 zi4 za3 (za9 zn2 (za1 2) (za1 3)))))) za6))))) vc
theorem zab4 {a__law_sides:Addr} {fd__law_sides:FuncData} (F__law_sides:Fun K "_law_sides" "_law_sides" ze5 a__law_sides fd__law_sides) 
  (vc:∀ ds m R,ds.length=zd0.length→zc8 ds m R→zu8 { nx:=fun _ m=>R (.dat .none) m,rt:=R } (zb2 zE6 ds) m):FnOk P w K mg base CX0 1 a__law_sides fd__law_sides zd0 (LSp K 1 zc8) :=
 zb8 (k:=0) F__law_sides zJ0 (body:=zu8) (fun cdv A outer s H E hr=>have nd:=(zJ0).nd; (za2 (zb6 (zv7 (ze2 (zr5 hr.u100) (za1 0) zb0) (zw7 (za0 za3 (za0 za3 za5))) (zw7 (za0 za3 za5)))) za6)) vc
theorem zM8 {a__law_all_signs:Addr} {fd__law_all_signs:FuncData} (F__law_all_signs:Fun K "_law_all_signs" "_law_all_signs" zd9 a__law_all_signs fd__law_all_signs) {a__law_sides:Addr} {fd__law_sides:FuncData} (F__law_sides:Fun K "_law_sides" "_law_sides" ze5 a__law_sides fd__law_sides) (B__law_sides:Binds K fd__law_sides zd0 []) (M__law_sides:mg "_law_sides"=some (.ref a__law_sides)) (C__law_sides:FnOk P w K mg base CX0 1 a__law_sides fd__law_sides zd0 (LSp K 1 zc8)) {a__law_sign:Addr} {fd__law_sign:FuncData} (F__law_sign:Fun K "_law_sign" "_law_sign" zg2 a__law_sign fd__law_sign) (B__law_sign:Binds K fd__law_sign zd4 []) (M__law_sign:mg "_law_sign"=some (.ref a__law_sign)) (C__law_sign:FnOk P w K mg base CX0 6 a__law_sign fd__law_sign zd4 (LSp K 4 (zd1 3))) (m_tuple:mg "tuple"=none)
  (vc:∀ ds m R,ds.length=zd8.length→zg7 ds m R→zl0 { nx:=fun _ m=>R (.dat .none) m,rt:=R } (zb2 zr3 ds) m):FnOk P w K mg base CX0 7 a__law_all_signs fd__law_all_signs zd8 (LSp K 2 zg7) :=
 zb8 (k:=6) F__law_all_signs zx3 (body:=zl0) (fun cdv A outer s H E hr=>have nd:=(zx3).nd; (za2 (zb5 2 nd (zz7 za5)) (za2 (zr4 PassesOwn.never rfl (zj3 (za8 C__law_sides (hr.mono (by decide)) M__law_sides F__law_sides.kp B__law_sides rfl (za0 (zb4 (za1 0) za3) za5))) (zb7 3 nd) (za2 (zF7 (zaC3 (za1 2) (zar2 ["_law_y","_law_kinds_here","_law_word_here","_law_x"] [none,some 0,some 1,some 3] rfl (zj3 (za8 C__law_sides (hr.mono (by decide)) M__law_sides F__law_sides.kp B__law_sides rfl (za0 (zb4 (za1 0) za3) za5))) (fun cl C s2 H2 pins fp=>(zb7 0 zI7)) (fun cl C s2 H2 pins fp=>zy1) (fun cl C s2 H2 pins fp=>(za8 C__law_sign (hr.mono (by decide)) M__law_sign F__law_sign.kp B__law_sign rfl (za0 (za1 1) (za0 (za1 2) (za0 (za1 3) (za0 (za1 0) za5))))))))) za6)) (za2 (zb6 (ze6 zK6 rfl m_tuple zl4 (za0 (za1 2) za5))) za6)))) vc
theorem zad7 {a__law_kinds:Addr} {fd__law_kinds:FuncData} (F__law_kinds:Fun K "_law_kinds" "_law_kinds" zh1 a__law_kinds fd__law_kinds) (m_dict:mg "dict"=none) (m_tuple:mg "tuple"=none)
  (vc:∀ ds m R,ds.length=zf3.length→zh6 ds m R→zv6 { nx:=fun _ m=>R (.dat .none) m,rt:=R } (zb2 zD3 ds) m):FnOk P w K mg base CX0 1 a__law_kinds fd__law_kinds zf3 (LSp K 2 zh6) :=
 zb8 (k:=0) F__law_kinds zK3 (body:=zv6) (fun cdv A outer s H E hr=>have nd:=(zK3).nd; (za2 (zb5 2 nd (zah6 rfl rfl m_dict (za1 0))) (za2 (zb6 (ze6 zK6 rfl m_tuple zl4 (za0 (zX1 ["_law_name","_law_own"] [none,some 2] rfl (zj3 (za1 1)) (fun cl C s2 H2 pins fp=>(zb7 0 zU5)) (fun cl C s2 H2 pins fp=>zy1) (fun cl C s2 H2 pins fp=>(zad0 hr.u100 (za1 1) (za1 0)))) za5))) za6))) vc
theorem zS1 {a__law_all_ends:Addr} {fd__law_all_ends:FuncData} (F__law_all_ends:Fun K "_law_all_ends" "_law_all_ends" ze8 a__law_all_ends fd__law_all_ends) {a__law_sides:Addr} {fd__law_sides:FuncData} (F__law_sides:Fun K "_law_sides" "_law_sides" ze5 a__law_sides fd__law_sides) (B__law_sides:Binds K fd__law_sides zd0 []) (M__law_sides:mg "_law_sides"=some (.ref a__law_sides)) (C__law_sides:FnOk P w K mg base CX0 1 a__law_sides fd__law_sides zd0 (LSp K 1 zc8))
  (vc:∀ ds m R,ds.length=ze7.length→zi1 ds m R→zn0 { nx:=fun _ m=>R (.dat .none) m,rt:=R } (zb2 zs8 ds) m):FnOk P w K mg base CX0 2 a__law_all_ends fd__law_all_ends ze7 (LSp K 1 zi1) :=
 zb8 (k:=1) F__law_all_ends zA5 (body:=zn0) (fun cdv A outer s H E hr=>have nd:=(zA5).nd; (za2 (zb5 1 nd (zz7 za5)) (za2 (zr4 PassesOwn.never rfl (zj3 (za1 0)) (zx9 rfl (zc4 (zb7 2 nd) (zc4 (zb7 3 nd) zr8))) (za2 (zF7 (zaC3 (za1 1) (zar2 ["_law_side","_law_name"] [none,some 2] rfl (zj3 (za8 C__law_sides (hr.mono (by decide)) M__law_sides F__law_sides.kp B__law_sides rfl (za0 (za1 3) za5))) (fun cl C s2 H2 pins fp=>(zb7 0 zM0)) (fun cl C s2 H2 pins fp=>zy1) (fun cl C s2 H2 pins fp=>(zc1 (za0 (za1 1) (za0 (za1 0) za5))))))) za6)) (za2 (zb6 (za1 1)) za6)))) vc
theorem zX9 {a__law_lowest:Addr} {fd__law_lowest:FuncData} (F__law_lowest:Fun K "_law_lowest" "_law_lowest" zf5 a__law_lowest fd__law_lowest) (m_abs:mg "abs"=none)
  (vc:∀ ds m R,ds.length=ze3.length→zg0 ds m R→zr9 { nx:=fun _ m=>R (.dat .none) m,rt:=R } (zb2 zy0 ds) m):FnOk P w K mg base CX0 1 a__law_lowest fd__law_lowest ze3 (LSp K 2 zg0) :=
 zb8 (k:=0) F__law_lowest zH1 (body:=zr9) (fun cdv A outer s H E hr=>have nd:=(zH1).nd; (za2 (zb5 2 nd (zd5 zaO5 rfl m_abs zai0 (za0 (za1 0) za5))) (za2 (zb5 3 nd (za1 1)) (za2 (zag9 PassesOwn.never (ze2 zaD7 (za1 3) za3) (za2 (zal3 2 3 rfl nd (za0 (za1 3) (za0 (za9 zE0 (za1 2) (za1 3)) za5))) za6)) (za2 (zb6 (zc1 (za0 (za9 zY9 (za1 0) (za1 2)) (za0 (za9 zY9 (za1 1) (za1 2)) za5)))) za6))))) vc
theorem zac7 {a__law_added:Addr} {fd__law_added:FuncData} (F__law_added:Fun K "_law_added" "_law_added" zh2 a__law_added fd__law_added) {a__law_lowest:Addr} {fd__law_lowest:FuncData} (F__law_lowest:Fun K "_law_lowest" "_law_lowest" zf5 a__law_lowest fd__law_lowest) (B__law_lowest:Binds K fd__law_lowest ze3 []) (M__law_lowest:mg "_law_lowest"=some (.ref a__law_lowest)) (C__law_lowest:FnOk P w K mg base CX0 1 a__law_lowest fd__law_lowest ze3 (LSp K 2 zg0))
  (vc:∀ ds m R,ds.length=zf6.length→zf7 ds m R→zv5 { nx:=fun _ m=>R (.dat .none) m,rt:=R } (zb2 zC2 ds) m):FnOk P w K mg base CX0 2 a__law_added fd__law_added zf6 (LSp K 3 zf7) :=
 zb8 (k:=1) F__law_added zJ6 (body:=zv5) (fun cdv A outer s H E hr=>have nd:=(zJ6).nd; (za2 (zb5 3 nd (za9 zn2 (za9 zi4 (zb4 (za1 0) za3) (zb4 (za1 1) za3)) (za9 zi4 (za9 zi4 (za1 2) (zb4 (za1 1) za3)) (zb4 (za1 0) za3)))) (za2 (zb6 (za8 C__law_lowest (hr.mono (by decide)) M__law_lowest F__law_lowest.kp B__law_lowest rfl (za0 (za1 3) (za0 (za9 zi4 (zb4 (za1 0) za3) (zb4 (za1 1) za3)) za5)))) za6))) vc
theorem zai8 {a__law_time:Addr} {fd__law_time:FuncData} (F__law_time:Fun K "_law_time" "_law_time" zl8 a__law_time fd__law_time) {a__law_draw:Addr} {fd__law_draw:FuncData} (F__law_draw:Fun K "_law_draw" "_law_draw" ze0 a__law_draw fd__law_draw) (B__law_draw:Binds K fd__law_draw zc7 []) (M__law_draw:mg "_law_draw"=some (.ref a__law_draw)) (C__law_draw:FnOk P w K mg base CX0 1 a__law_draw fd__law_draw zc7 (LSp K 2 zb3)) {a__law_lowest:Addr} {fd__law_lowest:FuncData} (F__law_lowest:Fun K "_law_lowest" "_law_lowest" zf5 a__law_lowest fd__law_lowest) (B__law_lowest:Binds K fd__law_lowest ze3 []) (M__law_lowest:mg "_law_lowest"=some (.ref a__law_lowest)) (C__law_lowest:FnOk P w K mg base CX0 1 a__law_lowest fd__law_lowest ze3 (LSp K 2 zg0))
  (vc:∀ ds m R,ds.length=zl2.length→zi7 ds m R→zz3 { nx:=fun _ m=>R (.dat .none) m,rt:=R } (zb2 zI4 ds) m):FnOk P w K mg base CX0 2 a__law_time fd__law_time zl2 (LSp K 1 zi7) :=
 zb8 (k:=1) F__law_time zR3 (body:=zz3) (fun cdv A outer s H E hr=>have nd:=(zR3).nd; (za2 (zb5 1 nd (za9 zK0 (za8 C__law_draw (hr.mono (by decide)) M__law_draw F__law_draw.kp B__law_draw rfl (za0 (za1 0) (za0 za3 za5))) za3)) (za2 (zb5 2 nd (zb4 (zw7 (za0 za3 (za0 za3 (za0 za3 (za0 za3 za5))))) (za8 C__law_draw (hr.mono (by decide)) M__law_draw F__law_draw.kp B__law_draw rfl (za0 (za1 0) (za0 za3 za5))))) (za2 (zb6 (za8 C__law_lowest (hr.mono (by decide)) M__law_lowest F__law_lowest.kp B__law_lowest rfl (za0 (za1 1) (za0 (za1 2) za5)))) za6)))) vc
theorem zV7 {a__law_telling:Addr} {fd__law_telling:FuncData} (F__law_telling:Fun K "_law_telling" "_law_telling" zg5 a__law_telling fd__law_telling) {a__law_time:Addr} {fd__law_time:FuncData} (F__law_time:Fun K "_law_time" "_law_time" zl8 a__law_time fd__law_time) (B__law_time:Binds K fd__law_time zl2 []) (M__law_time:mg "_law_time"=some (.ref a__law_time)) (C__law_time:FnOk P w K mg base CX0 2 a__law_time fd__law_time zl2 (LSp K 1 zi7)) (m_tuple:mg "tuple"=none)
  (vc:∀ ds m R,ds.length=zg1.length→zj4 ds m R→zq0 { nx:=fun _ m=>R (.dat .none) m,rt:=R } (zb2 zw1 ds) m):FnOk P w K mg base CX0 3 a__law_telling fd__law_telling zg1 (LSp K 2 zj4) :=
 zb8 (k:=2) F__law_telling zE3 (body:=zq0) (fun cdv A outer s H E hr=>have nd:=(zE3).nd; (za2 (zb5 2 nd (zz7 za5)) (za2 (zr4 PassesOwn.never rfl (zj3 (za1 1)) (zx9 rfl (zc4 (zb7 3 nd) (zc4 (zb7 4 nd) zr8))) (za2 (zb5 5 nd (za8 C__law_time (hr.mono (by decide)) M__law_time F__law_time.kp B__law_time rfl (za0 (za1 0) za5))) (za2 (zb5 6 nd (za8 C__law_time (hr.mono (by decide)) M__law_time F__law_time.kp B__law_time rfl (za0 (za1 0) za5))) (za2 (zk6 (ze2 (zr5 hr.u100) (za1 5) (za1 6)) (za2 (zb5 6 nd (zc1 (za0 (za9 zn2 (zb4 (za1 5) za3) (zb4 (za1 5) za3)) (za0 (zb4 (za1 5) za3) za5)))) za6) za6) (za2 (zk6 (ze2 zaa8 (za9 zi4 (zb4 (za1 6) za3) (zb4 (za1 5) za3)) (za9 zi4 (zb4 (za1 5) za3) (zb4 (za1 6) za3))) (za2 (zal3 5 6 rfl nd (za0 (za1 6) (za0 (za1 5) za5))) za6) za6) (za2 (zF7 (zap2 (za1 2) (zv7 (ze2 (zr5 hr.u100) (za1 4) zb0) (za1 5) (zc1 (za0 (za1 5) (za0 (za1 6) za5)))))) za6)))))) (za2 (zb6 (ze6 zK6 rfl m_tuple zl4 (za0 (za1 2) za5))) za6)))) vc
theorem zae2 {a__law_clock:Addr} {fd__law_clock:FuncData} (F__law_clock:Fun K "_law_clock" "_law_clock" zj7 a__law_clock fd__law_clock) {a__law_sides:Addr} {fd__law_sides:FuncData} (F__law_sides:Fun K "_law_sides" "_law_sides" ze5 a__law_sides fd__law_sides) (B__law_sides:Binds K fd__law_sides zd0 []) (M__law_sides:mg "_law_sides"=some (.ref a__law_sides)) (C__law_sides:FnOk P w K mg base CX0 1 a__law_sides fd__law_sides zd0 (LSp K 1 zc8)) (m_zip:mg "zip"=none)
  (vc:∀ ds m R,ds.length=zi8.length→zm7 ds m R→zu9 { nx:=fun _ m=>R (.dat .none) m,rt:=R } (zb2 zE4 ds) m):FnOk P w K mg base CX0 2 a__law_clock fd__law_clock zi8 (LSp K 2 zm7) :=
 zb8 (k:=1) F__law_clock zL1 (body:=zu9) (fun cdv A outer s H E hr=>have nd:=(zL1).nd; (za2 (zb5 2 nd zaL7) (za2 (zr4 PassesOwn.never rfl (zaU2 rfl m_zip (za1 0) (za1 1)) (zx9 rfl (zc4 (zb7 3 nd) (zc4 (zb7 4 nd) zr8))) (za2 (zr4 PassesOwn.never rfl (zj3 (za8 C__law_sides (hr.mono (by decide)) M__law_sides F__law_sides.kp B__law_sides rfl (za0 (zb4 (za1 3) za3) za5))) (zb7 5 nd) (za2 (zaI5 hr.u100 (zv7 (ze2 (zr5 hr.u100) (zb4 (za1 3) za3) zb0) (zb4 (za1 4) (za1 5)) (za1 4)) (za1 2) (za0 (zb4 (za1 3) za3) (za0 (za1 5) za5))) za6)) za6)) (za2 (zb6 (za1 2)) za6)))) vc
theorem zac9 {a__law_order:Addr} {fd__law_order:FuncData} (F__law_order:Fun K "_law_order" "_law_order" zj8 a__law_order fd__law_order) (m_int:mg "int"=none)
  (vc:∀ ds m R,ds.length=zj5.length→zk1 ds m R→zv0 { nx:=fun _ m=>R (.dat .none) m,rt:=R } (zb2 zB1 ds) m):FnOk P w K mg base CX0 1 a__law_order fd__law_order zj5 (LSp K 3 zk1) :=
 zb8 (k:=0) F__law_order zL4 (body:=zv0) (fun cdv A outer s H E hr=>have nd:=(zL4).nd; (za2 (zb5 3 nd (zx0 hr.u100 (za1 0) (za1 1))) (za2 (zb5 4 nd (zx0 hr.u100 (za1 0) (za1 2))) (za2 (zb5 5 nd (za9 zK0 (za9 zi4 (zb4 (za1 3) za3) (zb4 (za1 4) za3)) (za9 zi4 (zb4 (za1 4) za3) (zb4 (za1 3) za3)))) (za2 (zb6 (za9 zK0 (ze6 zaa4 rfl m_int zx6 (za0 (zf1 zaD7 (za1 5) za3) za5)) (ze6 zaa4 rfl m_int zx6 (za0 (zf1 zaa8 (za1 5) za3) za5)))) za6))))) vc
theorem zag7 {a__law_word:Addr} {fd__law_word:FuncData} (F__law_word:Fun K "_law_word" "_law_word" zl5 a__law_word fd__law_word) {a__law_kinds:Addr} {fd__law_kinds:FuncData} (F__law_kinds:Fun K "_law_kinds" "_law_kinds" zh1 a__law_kinds fd__law_kinds) (B__law_kinds:Binds K fd__law_kinds zf3 []) (M__law_kinds:mg "_law_kinds"=some (.ref a__law_kinds)) (C__law_kinds:FnOk P w K mg base CX0 1 a__law_kinds fd__law_kinds zf3 (LSp K 2 zh6)) {a__law_order:Addr} {fd__law_order:FuncData} (F__law_order:Fun K "_law_order" "_law_order" zj8 a__law_order fd__law_order) (B__law_order:Binds K fd__law_order zj5 []) (M__law_order:mg "_law_order"=some (.ref a__law_order)) (C__law_order:FnOk P w K mg base CX0 1 a__law_order fd__law_order zj5 (LSp K 3 zk1)) {a__law_sides:Addr} {fd__law_sides:FuncData} (F__law_sides:Fun K "_law_sides" "_law_sides" ze5 a__law_sides fd__law_sides) (B__law_sides:Binds K fd__law_sides zd0 []) (M__law_sides:mg "_law_sides"=some (.ref a__law_sides)) (C__law_sides:FnOk P w K mg base CX0 1 a__law_sides fd__law_sides zd0 (LSp K 1 zc8)) {a__law_all_signs:Addr} {fd__law_all_signs:FuncData} (F__law_all_signs:Fun K "_law_all_signs" "_law_all_signs" zd9 a__law_all_signs fd__law_all_signs) (B__law_all_signs:Binds K fd__law_all_signs zd8 []) (M__law_all_signs:mg "_law_all_signs"=some (.ref a__law_all_signs)) (C__law_all_signs:FnOk P w K mg base CX0 7 a__law_all_signs fd__law_all_signs zd8 (LSp K 2 zg7)) {a__law_words:Addr} {fd__law_words:FuncData} (F__law_words:Fun K "_law_words" "_law_words" zf2 a__law_words fd__law_words) (B__law_words:Binds K fd__law_words zd7 []) (M__law_words:mg "_law_words"=some (.ref a__law_words)) (C__law_words:FnOk P w K mg base CX0 1 a__law_words fd__law_words zd7 (LSp K 1 ze4)) (m_list:mg "list"=none)
  (vc:∀ ds m R,ds.length=zm1.length→zr0 ds m R→zx8 { nx:=fun _ m=>R (.dat .none) m,rt:=R } (zb2 zI8 ds) m):FnOk P w K mg base CX0 8 a__law_word fd__law_word zm1 (LSp K 4 zr0) :=
 zb8 (k:=7) F__law_word zP5 (body:=zx8) (fun cdv A outer s H E hr=>have nd:=(zP5).nd; (za2 (zb5 4 nd (za8 C__law_kinds (hr.mono (by decide)) M__law_kinds F__law_kinds.kp B__law_kinds rfl (za0 (za1 0) (za0 (zc1 (za0 (za1 2) (za0 (za1 3) za5))) za5)))) (za2 (zb5 5 nd (zz7 za5)) (za2 (zr4 PassesOwn.never rfl (zj3 (za8 C__law_sides (hr.mono (by decide)) M__law_sides F__law_sides.kp B__law_sides rfl (za0 (zb4 (za1 4) za3) za5))) (zb7 6 nd) (za2 (zr4 PassesOwn.never rfl (zj3 (za8 C__law_sides (hr.mono (by decide)) M__law_sides F__law_sides.kp B__law_sides rfl (za0 (zb4 (za1 4) za3) za5))) (zb7 7 nd) (za2 (zF7 (zap2 (za1 5) (za8 C__law_order (hr.mono (by decide)) M__law_order F__law_order.kp B__law_order rfl (za0 (za1 1) (za0 (zc1 (za0 (za1 2) (za0 (za1 6) za5))) (za0 (zc1 (za0 (za1 3) (za0 (za1 7) za5))) za5)))))) za6)) za6)) (za2 (zr4 PassesOwn.never rfl (zj3 (za8 C__law_words (hr.mono (by decide)) M__law_words F__law_words.kp B__law_words rfl (za0 (za1 4) za5))) (zb7 8 nd) (za2 (zk6 (ze2 (zbd8 hr.u100) (ze6 zaA5 rfl m_list zZ6 (za0 (za8 C__law_all_signs (hr.mono (by decide)) M__law_all_signs F__law_all_signs.kp B__law_all_signs rfl (za0 (za1 4) (za0 (za1 8) za5))) za5)) (za1 5)) (za2 (zb6 (za1 8)) za6) za6) za6)) (za2 (zb6 zaV9) za6)))))) vc
theorem zao3 {a__law_may:Addr} {fd__law_may:FuncData} (F__law_may:Fun K "_law_may" "_law_may" zn5 a__law_may fd__law_may) {a__law_words:Addr} {fd__law_words:FuncData} (F__law_words:Fun K "_law_words" "_law_words" zf2 a__law_words fd__law_words) (B__law_words:Binds K fd__law_words zd7 []) (M__law_words:mg "_law_words"=some (.ref a__law_words)) (C__law_words:FnOk P w K mg base CX0 1 a__law_words fd__law_words zd7 (LSp K 1 ze4)) {a__law_draw:Addr} {fd__law_draw:FuncData} (F__law_draw:Fun K "_law_draw" "_law_draw" ze0 a__law_draw fd__law_draw) (B__law_draw:Binds K fd__law_draw zc7 []) (M__law_draw:mg "_law_draw"=some (.ref a__law_draw)) (C__law_draw:FnOk P w K mg base CX0 1 a__law_draw fd__law_draw zc7 (LSp K 2 zb3)) (m_len:mg "len"=none) (m_range:mg "range"=none) (m_tuple:mg "tuple"=none)
  (vc:∀ ds m R,ds.length=zn4.length→zs7 ds m R→zF4 { nx:=fun _ m=>R (.dat .none) m,rt:=R } (zb2 zN2 ds) m):FnOk P w K mg base CX0 2 a__law_may fd__law_may zn4 (LSp K 2 zs7) :=
 zb8 (k:=1) F__law_may zW5 (body:=zF4) (fun cdv A outer s H E hr=>have nd:=(zW5).nd; (za2 (zb5 2 nd (za8 C__law_words (hr.mono (by decide)) M__law_words F__law_words.kp B__law_words rfl (za0 (za1 1) za5))) (za2 (zb5 3 nd (za8 C__law_draw (hr.mono (by decide)) M__law_draw F__law_draw.kp B__law_draw rfl (za0 (za1 0) (za0 za3 za5)))) (za2 (zk6 (ze2 (zr5 hr.u100) (za1 3) za3) (za2 (zb6 (za1 2)) za6) za6) (za2 (zb5 4 nd (zz7 (za0 (zb4 (za1 2) (za8 C__law_draw (hr.mono (by decide)) M__law_draw F__law_draw.kp B__law_draw rfl (za0 (za1 0) (za0 (zd5 zH3 rfl m_len zk8 (za0 (za1 2) za5)) za5)))) za5))) (za2 (zr4 PassesOwn.never rfl (zB9 rfl m_range (zb4 (zw7 (za0 za3 (za0 za3 (za0 za3 (za0 za3 (za0 za3 za5)))))) (za1 3))) (zb7 5 nd) (za2 (zF7 (zap2 (za1 4) (zb4 (za1 2) (za8 C__law_draw (hr.mono (by decide)) M__law_draw F__law_draw.kp B__law_draw rfl (za0 (za1 0) (za0 (zd5 zH3 rfl m_len zk8 (za0 (za1 2) za5)) za5)))))) za6)) (za2 (zb6 (ze6 zK6 rfl m_tuple zl4 (za0 (zX1 ["_law_word_here","_law_some"] [none,some 4] rfl (zj3 (za1 2)) (fun cl C s2 H2 pins fp=>(zb7 0 zae4)) (fun cl C s2 H2 pins fp=>(zaB8 (ze2 zbb8 (za1 0) (za1 1) (hm:=by with_unfolding_all rfl)))) (fun cl C s2 H2 pins fp=>(za1 0))) za5))) za6))))))) vc
theorem zao6 {a__law_two:Addr} {fd__law_two:FuncData} (F__law_two:Fun K "_law_two" "_law_two" zo3 a__law_two fd__law_two) {a__law_draw:Addr} {fd__law_draw:FuncData} (F__law_draw:Fun K "_law_draw" "_law_draw" ze0 a__law_draw fd__law_draw) (B__law_draw:Binds K fd__law_draw zc7 []) (M__law_draw:mg "_law_draw"=some (.ref a__law_draw)) (C__law_draw:FnOk P w K mg base CX0 1 a__law_draw fd__law_draw zc7 (LSp K 2 zb3)) (m_len:mg "len"=none)
  (vc:∀ ds m R,ds.length=zp6.length→zt5 ds m R→zF5 { nx:=fun _ m=>R (.dat .none) m,rt:=R } (zb2 zN8 ds) m):FnOk P w K mg base CX0 2 a__law_two fd__law_two zp6 (LSp K 2 zt5) :=
 zb8 (k:=1) F__law_two zV2 (body:=zF5) (fun cdv A outer s H E hr=>have nd:=(zV2).nd; (za2 (zb5 2 nd (za8 C__law_draw (hr.mono (by decide)) M__law_draw F__law_draw.kp B__law_draw rfl (za0 (za1 0) (za0 (zd5 zH3 rfl m_len zk8 (za0 (za1 1) za5)) za5)))) (za2 (zb5 3 nd (za9 zE0 (za9 zn2 (za9 zn2 (za1 2) za3) (za8 C__law_draw (hr.mono (by decide)) M__law_draw F__law_draw.kp B__law_draw rfl (za0 (za1 0) (za0 (za9 zK0 (zd5 zH3 rfl m_len zk8 (za0 (za1 1) za5)) za3) za5)))) (zd5 zH3 rfl m_len zk8 (za0 (za1 1) za5)))) (za2 (zb6 (zc1 (za0 (zb4 (zb4 (za1 1) (za1 2)) za3) (za0 (zb4 (zb4 (za1 1) (za1 3)) za3) za5)))) za6)))) vc
theorem zam9 {a__law_gap:Addr} {fd__law_gap:FuncData} (F__law_gap:Fun K "_law_gap" "_law_gap" zo5 a__law_gap fd__law_gap) {a__law_all_ends:Addr} {fd__law_all_ends:FuncData} (F__law_all_ends:Fun K "_law_all_ends" "_law_all_ends" ze8 a__law_all_ends fd__law_all_ends) (B__law_all_ends:Binds K fd__law_all_ends ze7 []) (M__law_all_ends:mg "_law_all_ends"=some (.ref a__law_all_ends)) (C__law_all_ends:FnOk P w K mg base CX0 2 a__law_all_ends fd__law_all_ends ze7 (LSp K 1 zi1)) {a__law_draw:Addr} {fd__law_draw:FuncData} (F__law_draw:Fun K "_law_draw" "_law_draw" ze0 a__law_draw fd__law_draw) (B__law_draw:Binds K fd__law_draw zc7 []) (M__law_draw:mg "_law_draw"=some (.ref a__law_draw)) (C__law_draw:FnOk P w K mg base CX0 1 a__law_draw fd__law_draw zc7 (LSp K 2 zb3)) {a__law_added:Addr} {fd__law_added:FuncData} (F__law_added:Fun K "_law_added" "_law_added" zh2 a__law_added fd__law_added) (B__law_added:Binds K fd__law_added zf6 []) (M__law_added:mg "_law_added"=some (.ref a__law_added)) (C__law_added:FnOk P w K mg base CX0 2 a__law_added fd__law_added zf6 (LSp K 3 zf7)) (m_len:mg "len"=none) (m_int:mg "int"=none)
  (vc:∀ ds m R,ds.length=zo9.length→zu6 ds m R→zE7 { nx:=fun _ m=>R (.dat .none) m,rt:=R } (zb2 zN7 ds) m):FnOk P w K mg base CX0 3 a__law_gap fd__law_gap zo9 (LSp K 3 zu6) :=
 zb8 (k:=2) F__law_gap zT7 (body:=zE7) (fun cdv A outer s H E hr=>have nd:=(zT7).nd; (za2 (zb5 3 nd (za8 C__law_all_ends (hr.mono (by decide)) M__law_all_ends F__law_all_ends.kp B__law_all_ends rfl (za0 (za1 1) za5))) (za2 (zb5 4 nd (zb4 (za1 3) (za8 C__law_draw (hr.mono (by decide)) M__law_draw F__law_draw.kp B__law_draw rfl (za0 (za1 0) (za0 (zd5 zH3 rfl m_len zk8 (za0 (za1 3) za5)) za5))))) (za2 (zb5 5 nd (zb4 (zw7 (za0 (za1 4) (za0 (zb4 (za1 3) (za8 C__law_draw (hr.mono (by decide)) M__law_draw F__law_draw.kp B__law_draw rfl (za0 (za1 0) (za0 (zd5 zH3 rfl m_len zk8 (za0 (za1 3) za5)) za5)))) za5))) (ze6 zaa4 rfl m_int zx6 (za0 (zf1 zaD7 (za8 C__law_draw (hr.mono (by decide)) M__law_draw F__law_draw.kp B__law_draw rfl (za0 (za1 0) (za0 za3 za5))) za3) za5)))) (za2 (zb5 6 nd (zw7 (za0 (zc1 (za0 za3 (za0 za3 za5))) (za0 (zc1 (za0 za3 (za0 za3 za5))) (za0 (zc1 (za0 (ze9 za3) (za0 za3 za5))) (za0 (zc1 (za0 za3 (za0 za3 za5))) (za0 (zc1 (za0 (ze9 za3) (za0 za3 za5))) (za0 (zc1 (za0 (za9 zay3 za3 za3) (za0 za3 za5))) (za0 (zc1 (za0 (ze9 (za9 zay3 za3 za3)) (za0 za3 za5))) za5))))))))) (za2 (zb5 7 nd (za8 C__law_added (hr.mono (by decide)) M__law_added F__law_added.kp B__law_added rfl (za0 (zx0 hr.u100 (za1 2) (za1 4)) (za0 (zx0 hr.u100 (za1 2) (za1 5)) (za0 (ze9 za3) za5))))) (za2 (zb5 7 nd (za8 C__law_added (hr.mono (by decide)) M__law_added F__law_added.kp B__law_added rfl (za0 (za1 7) (za0 (zb4 (za1 6) (za8 C__law_draw (hr.mono (by decide)) M__law_draw F__law_draw.kp B__law_draw rfl (za0 (za1 0) (za0 za3 za5)))) (za0 za3 za5))))) (za2 (zb6 (zc1 (za0 (za1 4) (za0 (za1 5) (za0 (za1 7) (za0 (zf1 (zr5 hr.u100) (za8 C__law_draw (hr.mono (by decide)) M__law_draw F__law_draw.kp B__law_draw rfl (za0 (za1 0) (za0 za3 za5))) za3) za5)))))) za6)))))))) vc
theorem zX4 {a__law_gap_due:Addr} {fd__law_gap_due:FuncData} (F__law_gap_due:Fun K "_law_gap_due" "_law_gap_due" zf9 a__law_gap_due fd__law_gap_due) {a__law_added:Addr} {fd__law_added:FuncData} (F__law_added:Fun K "_law_added" "_law_added" zh2 a__law_added fd__law_added) (B__law_added:Binds K fd__law_added zf6 []) (M__law_added:mg "_law_added"=some (.ref a__law_added)) (C__law_added:FnOk P w K mg base CX0 2 a__law_added fd__law_added zf6 (LSp K 3 zf7))
  (vc:∀ ds m R,ds.length=zg4.length→zj1 ds m R→zq6 { nx:=fun _ m=>R (.dat .none) m,rt:=R } (zb2 zw0 ds) m):FnOk P w K mg base CX0 3 a__law_gap_due fd__law_gap_due zg4 (LSp K 2 zj1) :=
 zb8 (k:=2) F__law_gap_due zB7 (body:=zq6) (fun cdv A outer s H E hr=>have nd:=(zB7).nd; (za2 (zU1 (za1 1) (zx9 rfl (zc4 (zb7 2 nd) (zc4 (zb7 3 nd) (zc4 (zb7 4 nd) (zc4 (zb7 5 nd) zr8)))))) (za2 (zb5 6 nd (za8 C__law_added (hr.mono (by decide)) M__law_added F__law_added.kp B__law_added rfl (za0 (zx0 hr.u100 (za1 0) (za1 2)) (za0 (zx0 hr.u100 (za1 0) (za1 3)) (za0 (ze9 za3) za5))))) (za2 (zb5 7 nd (za9 zK0 (za9 zi4 (zb4 (za1 6) za3) (zb4 (za1 4) za3)) (za9 zi4 (zb4 (za1 4) za3) (zb4 (za1 6) za3)))) (za2 (zb6 (zaE6 (zf1 zaa8 (za1 7) za3) (zD1 (zV3 (zf1 (zr5 hr.u100) (za1 7) za3) (zD1 (zan4 (za1 5))))))) za6))))) vc
theorem zab1 {a__law_right:Addr} {fd__law_right:FuncData} (F__law_right:Fun K "_law_right" "_law_right" zi9 a__law_right fd__law_right) {a_has_row:Addr} {fd_has_row:FuncData} (F_has_row:Fun K "has_row" "has_row" zt9 a_has_row fd_has_row) (B_has_row:Binds K fd_has_row zt0 []) (M_has_row:mg "has_row"=some (.ref a_has_row)) (C_has_row:FnOk P w K mg base CX0 5 a_has_row fd_has_row zt0 (LSp K 3 zx2)) {a_is_fault:Addr} {fd_is_fault:FuncData} (F_is_fault:Fun K "is_fault" "is_fault" zo2 a_is_fault fd_is_fault) (B_is_fault:Binds K fd_is_fault zo0 []) (M_is_fault:mg "is_fault"=some (.ref a_is_fault)) (C_is_fault:FnOk P w K mg base CX0 2 a_is_fault fd_is_fault zo0 (LSp K 1 zs5)) (m_repr:mg "repr"=none)
  (vc:∀ ds m R,ds.length=zj2.length→zj9 ds m R→zv1 { nx:=fun _ m=>R (.dat .none) m,rt:=R } (zb2 zD7 ds) m):FnOk P w K mg base CX0 6 a__law_right fd__law_right zj2 (LSp K 5 zj9) :=
 zb8 (k:=5) F__law_right zL7 (body:=zv1) (fun cdv A outer s H E hr=>have nd:=(zL7).nd; (za2 (zb5 5 nd (zd5 (zab9 hr.u200 hr.gd) rfl m_repr zF9 (za0 (zc1 (za0 (za1 0) (za0 (za1 1) (za0 (za1 2) za5)))) za5))) (za2 (zk6 (ze2 (zbb1 hr.u100) (zd5 (zab9 hr.u200 hr.gd) rfl m_repr zF9 (za0 (zc1 (za0 (za8 C_is_fault (hr.mono (by decide)) M_is_fault F_is_fault.kp B_is_fault rfl (za0 (za1 2) za5)) (za0 (za8 C_has_row (hr.mono (by decide)) M_has_row F_has_row.kp B_has_row rfl (za0 (za1 0) (za0 (za1 1) (za0 (za1 2) za5)))) za5))) za5)) (zd5 (zab9 hr.u200 hr.gd) rfl m_repr zF9 (za0 (zc1 (za0 (za1 3) (za0 (za1 4) za5))) za5))) (za2 (zb6 zaq0) za6) za6) (za2 (zb6 (zf1 (zr5 hr.u100) (zd5 (zab9 hr.u200 hr.gd) rfl m_repr zF9 (za0 (zc1 (za0 (za1 0) (za0 (za1 1) (za0 (za1 2) za5)))) za5)) (za1 5))) za6)))) vc
theorem zbg5 {a_law:Addr} {fd_law:FuncData} (F_law:Fun K "law" "law" zab8 a_law fd_law) {a__law_feed:Addr} {fd__law_feed:FuncData} (F__law_feed:Fun K "_law_feed" "_law_feed" zl9 a__law_feed fd__law_feed) (B__law_feed:Binds K fd__law_feed zl1 []) (M__law_feed:mg "_law_feed"=some (.ref a__law_feed)) (C__law_feed:FnOk P w K mg base CX0 1 a__law_feed fd__law_feed zl1 (LSp K 1 zr2)) {a__law_things:Addr} {fd__law_things:FuncData} (F__law_things:Fun K "_law_things" "_law_things" zh4 a__law_things fd__law_things) (B__law_things:Binds K fd__law_things zh7 []) (M__law_things:mg "_law_things"=some (.ref a__law_things)) (C__law_things:FnOk P w K mg base CX0 2 a__law_things fd__law_things zh7 (LSp K 3 zk7)) {a__law_telling:Addr} {fd__law_telling:FuncData} (F__law_telling:Fun K "_law_telling" "_law_telling" zg5 a__law_telling fd__law_telling) (B__law_telling:Binds K fd__law_telling zg1 []) (M__law_telling:mg "_law_telling"=some (.ref a__law_telling)) (C__law_telling:FnOk P w K mg base CX0 3 a__law_telling fd__law_telling zg1 (LSp K 2 zj4)) {a__law_clock:Addr} {fd__law_clock:FuncData} (F__law_clock:Fun K "_law_clock" "_law_clock" zj7 a__law_clock fd__law_clock) (B__law_clock:Binds K fd__law_clock zi8 []) (M__law_clock:mg "_law_clock"=some (.ref a__law_clock)) (C__law_clock:FnOk P w K mg base CX0 2 a__law_clock fd__law_clock zi8 (LSp K 2 zm7)) {a__law_gap:Addr} {fd__law_gap:FuncData} (F__law_gap:Fun K "_law_gap" "_law_gap" zo5 a__law_gap fd__law_gap) (B__law_gap:Binds K fd__law_gap zo9 []) (M__law_gap:mg "_law_gap"=some (.ref a__law_gap)) (C__law_gap:FnOk P w K mg base CX0 3 a__law_gap fd__law_gap zo9 (LSp K 3 zu6)) {a__law_right:Addr} {fd__law_right:FuncData} (F__law_right:Fun K "_law_right" "_law_right" zi9 a__law_right fd__law_right) (B__law_right:Binds K fd__law_right zj2 []) (M__law_right:mg "_law_right"=some (.ref a__law_right)) (C__law_right:FnOk P w K mg base CX0 6 a__law_right fd__law_right zj2 (LSp K 5 zj9)) {a__law_gap_due:Addr} {fd__law_gap_due:FuncData} (F__law_gap_due:Fun K "_law_gap_due" "_law_gap_due" zf9 a__law_gap_due fd__law_gap_due) (B__law_gap_due:Binds K fd__law_gap_due zg4 []) (M__law_gap_due:mg "_law_gap_due"=some (.ref a__law_gap_due)) (C__law_gap_due:FnOk P w K mg base CX0 3 a__law_gap_due fd__law_gap_due zg4 (LSp K 2 zj1)) {a__law_two:Addr} {fd__law_two:FuncData} (F__law_two:Fun K "_law_two" "_law_two" zo3 a__law_two fd__law_two) (B__law_two:Binds K fd__law_two zp6 []) (M__law_two:mg "_law_two"=some (.ref a__law_two)) (C__law_two:FnOk P w K mg base CX0 2 a__law_two fd__law_two zp6 (LSp K 2 zt5)) {a__law_may:Addr} {fd__law_may:FuncData} (F__law_may:Fun K "_law_may" "_law_may" zn5 a__law_may fd__law_may) (B__law_may:Binds K fd__law_may zn4 []) (M__law_may:mg "_law_may"=some (.ref a__law_may)) (C__law_may:FnOk P w K mg base CX0 2 a__law_may fd__law_may zn4 (LSp K 2 zs7)) {a__law_kinds:Addr} {fd__law_kinds:FuncData} (F__law_kinds:Fun K "_law_kinds" "_law_kinds" zh1 a__law_kinds fd__law_kinds) (B__law_kinds:Binds K fd__law_kinds zf3 []) (M__law_kinds:mg "_law_kinds"=some (.ref a__law_kinds)) (C__law_kinds:FnOk P w K mg base CX0 1 a__law_kinds fd__law_kinds zf3 (LSp K 2 zh6)) {a__law_draw:Addr} {fd__law_draw:FuncData} (F__law_draw:Fun K "_law_draw" "_law_draw" ze0 a__law_draw fd__law_draw) (B__law_draw:Binds K fd__law_draw zc7 []) (M__law_draw:mg "_law_draw"=some (.ref a__law_draw)) (C__law_draw:FnOk P w K mg base CX0 1 a__law_draw fd__law_draw zc7 (LSp K 2 zb3)) {a__law_word:Addr} {fd__law_word:FuncData} (F__law_word:Fun K "_law_word" "_law_word" zl5 a__law_word fd__law_word) (B__law_word:Binds K fd__law_word zm1 []) (M__law_word:mg "_law_word"=some (.ref a__law_word)) (C__law_word:FnOk P w K mg base CX0 8 a__law_word fd__law_word zm1 (LSp K 4 zr0)) (m_range:mg "range"=none) (m_int:mg "int"=none) (m_len:mg "len"=none)
  (vc:∀ ds m R,ds.length=zaH9.length→zZ1 ds m R→zaK3 { nx:=fun _ m=>R (.dat .none) m,rt:=R } (zb2 zaV1 ds) m):FnOk P w K mg base CX0 9 a_law fd_law zaH9 (LSp K 1 zZ1) :=
 zb8 (k:=8) F_law zaO3 (body:=zaK3) (fun cdv A outer s H E hr=>have nd:=(zaO3).nd; (za2 (zb5 1 nd (za8 C__law_feed (hr.mono (by decide)) M__law_feed F__law_feed.kp B__law_feed rfl (za0 (za1 0) za5))) (za2 (zr4 PassesOwn.never rfl (zB9 rfl m_range za3) (zb7 2 nd) (za2 (zb5 3 nd (za8 C__law_things (hr.mono (by decide)) M__law_things F__law_things.kp B__law_things rfl (za0 (za1 1) (za0 za3 (za0 za3 za5))))) (za2 (zb5 4 nd (za8 C__law_telling (hr.mono (by decide)) M__law_telling F__law_telling.kp B__law_telling rfl (za0 (za1 1) (za0 (za1 3) za5)))) (za2 (zb5 5 nd (za8 C__law_clock (hr.mono (by decide)) M__law_clock F__law_clock.kp B__law_clock rfl (za0 (za1 3) (za0 (za1 4) za5)))) (za2 (zr4 PassesOwn.never rfl (zB9 rfl m_range za3) (zb7 6 nd) (za2 (zb5 7 nd (za8 C__law_gap (hr.mono (by decide)) M__law_gap F__law_gap.kp B__law_gap rfl (za0 (za1 1) (za0 (za1 3) (za0 (za1 5) za5))))) (za2 (zb5 8 nd (zV3 (zf1 (zr5 hr.u100) (zb4 (za1 7) za3) (zb4 (za1 7) za3)) (zD1 (zaE6 (zf1 zaa8 (zb4 (zb4 (za1 7) za3) za3) za3) (zD1 (zV3 (zf1 (zr5 hr.u100) (zb4 (zb4 (za1 7) za3) za3) za3) (zD1 (zb4 (za1 7) za3)))))))) (za2 (zk6 (zaB5 (zt1 (za8 C__law_right (hr.mono (by decide)) M__law_right F__law_right.kp B__law_right rfl (za0 (za1 3) (za0 (za1 4) (za0 (za1 7) (za0 (za1 8) (za0 (za8 C__law_gap_due (hr.mono (by decide)) M__law_gap_due F__law_gap_due.kp B__law_gap_due rfl (za0 (za1 5) (za0 (za1 7) za5))) za5)))))))) (za2 (zb6 zaq0) za6) za6) za6)))) (za2 (zr4 PassesOwn.never rfl (zB9 rfl m_range (za9 zi4 za3 (ze6 zaa4 rfl m_int zx6 (za0 (zf1 zaD7 (zd5 zH3 rfl m_len zk8 (za0 (za1 3) za5)) za3) za5)))) (zb7 6 nd) (za2 (zU1 (za8 C__law_two (hr.mono (by decide)) M__law_two F__law_two.kp B__law_two rfl (za0 (za1 1) (za0 (za1 3) za5))) (zx9 rfl (zc4 (zb7 9 nd) (zc4 (zb7 10 nd) zr8)))) (za2 (zb5 11 nd (za8 C__law_may (hr.mono (by decide)) M__law_may F__law_may.kp B__law_may rfl (za0 (za1 1) (za0 (za8 C__law_kinds (hr.mono (by decide)) M__law_kinds F__law_kinds.kp B__law_kinds rfl (za0 (za1 3) (za0 (zc1 (za0 (za1 9) (za0 (za1 10) za5))) za5))) za5)))) (za2 (zb5 7 nd (zc1 (za0 (za1 9) (za0 (za1 10) (za0 (za9 zaV8 (za1 11) (ze6 zaa4 rfl m_int zx6 (za0 (zf1 zaD7 (za8 C__law_draw (hr.mono (by decide)) M__law_draw F__law_draw.kp B__law_draw rfl (za0 (za1 1) (za0 za3 za5))) za3) za5))) za5))))) (za2 (zb5 12 nd (zf1 zba7 (za8 C__law_word (hr.mono (by decide)) M__law_word F__law_word.kp B__law_word rfl (za0 (za1 3) (za0 (za1 5) (za0 (za1 9) (za0 (za1 10) za5))))) (zb4 (za1 7) za3) (hm:=by with_unfolding_all rfl))) (za2 (zk6 (zaB5 (zt1 (za8 C__law_right (hr.mono (by decide)) M__law_right F__law_right.kp B__law_right rfl (za0 (za1 3) (za0 (za1 4) (za0 (za1 7) (za0 (zf1 (zr5 hr.u100) (zb4 (za1 7) za3) (zc1 za5)) (za0 (za1 12) za5)))))))) (za2 (zb6 zaq0) za6) za6) za6)))))) za6)))))) (za2 (zb6 zaq0) za6)))) vc
end
end K19
namespace K19
open PySem PySem.Spec PyProof.Rows L2 DL K01
abbrev EN (R:DK):Ends2:={ nx:=fun _ m=>R (.dat .none) m,rt:=R }
theorem sz {n:Nat} (h:n≤1000):n≤sizeLine:=Nat.le_trans h (by rw [sizeLine_eq]; decide)
theorem zaW5 {ns:List Int} {i:Int} (h0:0≤i) (h:i < (ns.length:Int)):∃ v:Int,atI (ns.map PyData.int) i=some (.int v):=by
 obtain ⟨k,rfl⟩:∃ k:Nat,i=k:=⟨i.toNat,by omega⟩
 have hk:k < ns.length:=by omega
 exact ⟨ns[k],zw4 (by rw [List.getElem?_map,List.getElem?_eq_getElem hk] <;> rfl)⟩
theorem mulL {i j:Int} (h:Bd 64 i):IntMulOk i j:=IntMulOk.of_left (intBits_le_iff.mpr h)
theorem mulR {i j:Int} (h:Bd 64 j):IntMulOk i j:=IntMulOk.of_right (intBits_le_iff.mpr h)
set_option exponentiation.threshold 3000 in
theorem zah9 {i:Int} {n:Nat} (h:i.natAbs < 2 ^ n:=by decide):Bd n i:=h
theorem zaY0 {xs:List PyData} {P:PyData→Prop} {r:Int} (h:∀ p∈xs,P p) (h0:0≤r) (h1:r < (xs.length:Int)):∃ p,atI xs r=some p∧P p:=by
 obtain ⟨k,rfl⟩:∃ k:Nat,r=k:=⟨r.toNat,by omega⟩
 have hk:k < xs.length:=by omega
 exact ⟨xs[k],zw4 (List.getElem?_eq_getElem hk),h _ (List.getElem_mem hk)⟩
theorem zz6 {g:DG} {t:DT} {f:DE} {Q:List PyData→Mu→Prop} (J:List D→List PyData→St2→Mu→Prop) (fin:∀ acc d m,J [] acc d m→Q acc m)
  (step:∀ x xs acc d m (k:List PyData→St2→Mu→Prop),J (x :: xs) acc d m→(∀ acc' d' m',J xs acc' d' m'→k acc' d' m')→g x d m fun d1 m1=>t d1 m1 fun b m2=>if b=true then f d1 m2 fun y m3=>∃ p,y=.dat p∧acc.length < sizeLine∧k (acc++[p]) d1 m3 else k acc d1 m2) :
  ∀ xs acc d m,J xs acc d m→zp7 g t f xs acc d m Q
 | [],acc,d,m,h=>fin acc d m h
 | x :: xs,acc,d,m,h=>step x xs acc d m (fun acc' d' m'=>zp7 g t f xs acc' d' m' Q) h (zz6 J fin step xs)
@[simp] theorem zbn9:PyData.strOk (Str.ofString "point")=true:=by decide +kernel
@[simp] theorem zbo0:PyData.strOk (Str.ofString "stretch")=true:=by decide +kernel
@[simp] theorem at0 (x:PyData) (xs:List PyData):atI (x :: xs) 0=some x:=by simp [atI,ixN]
@[simp] theorem at1 (x y:PyData) (xs:List PyData):atI (x :: y :: xs) 1=some y:=by
 have:(1:Int) < xs.length + 1 + 1:=by omega
 simp [atI,ixN,this]
theorem zax7 (k l:Bool):1≤(WS k l).length∧(WS k l).length≤13:=by cases k <;> cases l <;> decide
theorem zE8:∀ ns:List Int,PyData.canLayAll0 (ns.map .int)=true∧PyData.depthAll (ns.map .int)≤1
 | []=>by simp [PyData.canLayAll0,PyData.depthAll]
 | n :: ns=>by
  obtain ⟨h1,h2⟩:=zE8 ns
  simp only [List.map_cons,PyData.canLayAll0,PyData.depthAll,PyData.canLay0,PyData.depth,h1,Bool.and_self]
  exact ⟨trivial,by omega⟩
theorem bds {i:Int} (h0:-100000000≤i) (h1:i≤100000000):Bd 64 i:=by
 unfold Bd
 have e:(2:Nat) ^ 64=18446744073709551616:=by decide
 omega
theorem Fed.trans {b c n:Int} {m m1 m2:Mu} {a:Addr} (h:Fed b n m m1 a) (q:Fed c (n + b) m1 m2 a):Fed (b + c) n m m2 a:=by
 refine ⟨by have:=q.1; rwa [Int.add_assoc] at this,fun x hx hs=>?_⟩
 have e:=h.2 x hx hs
 rw [q.2 x hx (by rw [e]; exact hs),e]
theorem Fed.refl {n:Int} {m:Mu} {a:Addr} (h:Tp n m a):Fed 0 n m m a:=⟨by simpa using h,fun _ _ _=>rfl⟩
theorem zk4 {a:Addr} {n b L:Int} {m0 m:Mu} {R:DK} (h0:0 < n) (hb:n < 1000000) (hL:L≤9000000) (hbb:b≤100000) (hf:Fed b L m0 m a) (h:∀ (r:Int) m',0≤r→r < n→Fed (b + 1) L m0 m' a→R (I r) m'):zb3 [.cel a,I n] m R:=by
 refine ⟨a,n,L + b,rfl,h0,?_,by omega,hf.1,fun r m' q0 q1 q2=>h r m' q0 q1 (hf.trans q2)⟩
 refine Bd.mono (m:=20) ?_ (by decide)
 unfold Bd
 have e:(2:Nat) ^ 20=1048576:=by decide
 omega
theorem zai5 {n i:Nat} (h:i < n):(zD8 0 n).drop i=I (i:Int) :: (zD8 0 n).drop (i + 1):=by
 have hl:i < (zD8 0 n).length:=by unfold zD8; simpa using h
 rw [List.drop_eq_getElem_cons hl]
 congr 1
 unfold zD8
 simp
theorem zaI4 {n:Nat}:(zD8 0 n).drop n=[]:=by
 rw [List.drop_eq_nil_iff]
 unfold zD8
 simp
theorem zay0 {g:DG} {t:DT} {f:DE} {Q:List PyData→Mu→Prop} {n:Nat} (J:Nat→List PyData→St2→Mu→Prop) (fin:∀ acc d m,J n acc d m→Q acc m)
  (step:∀ i acc d m (k:List PyData→St2→Mu→Prop),i < n→J i acc d m→(∀ acc' d' m',J (i + 1) acc' d' m'→k acc' d' m')→g (I (i:Int)) d m fun d1 m1=>t d1 m1 fun b m2=>if b=true then f d1 m2 fun y m3=>∃ p,y=.dat p∧acc.length < sizeLine∧k (acc++[p]) d1 m3 else k acc d1 m2) :
  ∀ acc d m,J 0 acc d m→zp7 g t f (zD8 0 n) acc d m Q:=by
 intro acc d m h
 refine zz6 (fun rest acc d m=>∃ i,i≤n∧rest=(zD8 0 n).drop i∧J i acc d m) ?_ ?_ _ _ _ _ ⟨0,Nat.zero_le _,rfl,h⟩
 ·rintro acc d m ⟨i,hi,e,hj⟩
  have:i=n:=by
   have:=congrArg List.length e
   unfold zD8 at this
   simp at this
   omega
  subst this
  exact fin _ _ _ hj
 ·rintro x xs acc d m k ⟨i,hi,e,hj⟩ hk
  have hlt:i < n:=by
   have:=congrArg List.length e
   unfold zD8 at this
   simp at this
   omega
  rw [zai5 hlt] at e
  obtain ⟨rfl,rfl⟩:=List.cons.inj e
  exact step i acc d m k hlt hj fun acc' d' m' h'=>hk _ _ _ ⟨i + 1,hlt,rfl,h'⟩
theorem zM5 {g:DG} {b:DS} {E:Ends2} {n:Nat} (J:Nat→St2→Mu→Prop) (hd:∀ d m,J n d m→E.nx d m)
  (step:∀ i,i < n→∀ (k:St2→Mu→Prop),(∀ d m,J (i + 1) d m→k d m)→∀ d m,J i d m→g (I (i:Int)) d m fun d' m'=>b { E with nx:=k,ct:=k,bk:=E.nx } d' m'):∀ d m,J 0 d m→zk5 g b E (zD8 0 n) d m:=by
 have key:∀ (r i:Nat),r + i=n→∀ d m,J i d m→zk5 g b E ((zD8 0 n).drop i) d m:=by
  intro r
  induction r with
  | zero =>
   intro i hi d m hj
   have:i=n:=by omega
   subst this
   rw [zaI4]
   exact hd d m hj
  | succ r ih =>
   intro i hi d m hj
   rw [zai5 (by omega)]
   exact step i (by omega) _ (ih (i + 1) (by omega)) d m hj
 intro d m h
 have:=key n 0 (by omega) d m h
 simpa using this
theorem zbl7:∀ z∈ORD,atI (ORD.map PyData.str) (12 - (ORD.idxOf z:Int))=some (.str (tn z)):=by
 intro z hz
 have h1:ORD.idxOf z < ORD.length:=List.idxOf_lt_length_iff.mpr hz
 have h2:ORD.length=13:=rfl
 obtain ⟨k,hk⟩:∃ k,ORD.idxOf z=k:=⟨_,rfl⟩
 rw [h2,hk] at h1
 unfold tn
 rw [hk,show (12:Int) - (k:Int)=((12 - k:Nat):Int) by omega]
 refine zw4 ?_
 rw [List.getElem?_map,List.getD_eq_getElem?_getD,List.getElem?_eq_getElem (by omega)]
 rfl
theorem zam2:∀ ds m R,ds.length=zp3.length→zp0 ds m R→zF0 (EN R) (zb2 zN1 ds) m:=by
 rintro ds m R hl ⟨k,l,rfl,h⟩
 unfold zF0
 simp only [dSeq,dRet,zaf3,dVar,dCon,zb2]
 refine ⟨_,rfl,[kd k,kd l],rfl,?_⟩
 cases k <;> cases l <;> exact h
theorem zaq7 {zs:List Str} (h:∀ z∈zs,PyData.strOk z=true):PyData.canLayAll0 (zs.map .str)=true:=by
 induction zs with
 | nil=>simp [PyData.canLayAll0]
 | cons z zs ih =>
  simp only [List.map_cons,PyData.canLayAll0,PyData.canLay0,h z List.mem_cons_self,ih fun y hy=>h y (List.mem_cons_of_mem _ hy),Bool.and_self]
theorem zaO6:∀ z∈ORD,PyData.strOk z=true:=by decide +kernel
theorem zaq8 (k l:Bool):∀ z∈WS k l,z∈ORD:=by cases k <;> cases l <;> decide +kernel
theorem zaq4 {k j:Key} {p:PyData}:∀ {kvs:List (Key×PyData)},(∃ q,valP kvs j=some q)∨j=k→∃ q,valP (putP kvs k p) j=some q:=by
 intro kvs h
 unfold putP
 split
 ·rename_i ha
  rcases h with ⟨q,hq⟩ | rfl
  ·unfold valP at hq ⊢
   rw [List.find?_map]
   cases e:kvs.find? (fun kv=>decide (kv.1=j)) with
   | none=>rw [e] at hq; cases hq
   | some kv =>
    have:(fun kv:Key×PyData=>decide (kv.1=j))∘(fun kv=>if kv.1=k then (kv.1,p) else kv)=fun kv=>decide (kv.1=j):=by
     funext kv
     simp only [Function.comp]
     split <;> rfl
    rw [this,e]
    exact ⟨_,rfl⟩
  ·unfold valP
   rw [List.find?_map]
   have:(fun kv:Key×PyData=>decide (kv.1=j))∘(fun kv=>if kv.1=j then (kv.1,p) else kv)=fun kv=>decide (kv.1=j):=by
    funext kv
    simp only [Function.comp]
    split <;> rfl
   rw [this]
   obtain ⟨kv,hm,hd⟩:=List.any_eq_true.mp ha
   cases e:kvs.find? (fun kv=>decide (kv.1=j)) with
   | none=>exact absurd hd (by simpa using List.find?_eq_none.mp e kv hm)
   | some kv=>exact ⟨_,rfl⟩
 ·rename_i ha
  unfold valP
  rw [List.find?_append]
  rcases h with ⟨q,hq⟩ | rfl
  ·unfold valP at hq
   cases e:kvs.find? (fun kv=>decide (kv.1=j)) with
   | none=>rw [e] at hq; cases hq
   | some kv=>exact ⟨_,rfl⟩
  ·cases e:kvs.find? (fun kv=>decide (kv.1=j)) with
   | none=>exact ⟨p,by simp⟩
   | some kv=>exact ⟨_,rfl⟩
theorem zaY2 {k:Key} {p:PyData} {kvs:List (Key×PyData)} {kv:Key×PyData} (h:kv∈putP kvs k p):kv∈kvs∨kv=(k,p):=by
 unfold putP at h
 split at h
 ·obtain ⟨x,hx,e⟩:=List.mem_map.mp h
  split at e
  ·rename_i hk
   subst e
   exact .inr (by rw [hk])
  ·subst e; exact .inl hx
 ·rcases List.mem_append.mp h with h | h
  ·exact .inl h
  ·exact .inr (by simpa using h)
theorem zat7:∀ {r acc:List (Key×PyData)} {kv:Key×PyData},kv∈zw6 acc r→kv∈acc∨kv∈r
 | [],acc,kv,h=>.inl h
 | x :: r,acc,kv,h=>by
  have:kv∈zw6 (putP acc x.1 x.2) r:=h
  rcases zat7 this with h | h
  ·rcases zaY2 h with h | h
   ·exact .inl h
   ·exact .inr (by rw [h]; exact List.mem_cons_self)
  ·exact .inr (List.mem_cons_of_mem _ h)
theorem zar0:∀ {r acc:List (Key×PyData)} {j:Key},((∃ q,valP acc j=some q)∨∃ kv∈r,kv.1=j)→∃ q,valP (zw6 acc r) j=some q
 | [],acc,j,h=>by
  rcases h with h | ⟨kv,h,_⟩
  ·exact h
  ·cases h
 | x :: r,acc,j,h=>by
  show ∃ q,valP (zw6 (putP acc x.1 x.2) r) j=some q
  refine zar0 ?_
  rcases h with h | ⟨kv,h,e⟩
  ·exact .inl (zaq4 (.inl h))
  ·rcases List.mem_cons.mp h with rfl | h
   ·exact .inl (zaq4 (.inr e.symm))
   ·exact .inr ⟨kv,h,e⟩
theorem zaK1 {k:Key} {p:PyData} {kvs:List (Key×PyData)} (h:valP kvs k=some p):(k,p)∈kvs:=by
 unfold valP at h
 cases e:kvs.find? (fun kv=>decide (kv.1=k)) with
 | none=>rw [e] at h; cases h
 | some kv =>
  rw [e] at h
  cases h
  have:=List.find?_some e
  have hk:kv.1=k:=by simpa using this
  rw [← hk]
  exact List.mem_of_find?_eq_some e
def kvT (ts:List (Str×Bool)):List (Key×PyData):=ts.map fun t=>(Sum.inr t.1,PyData.str (kd t.2))
theorem zaM1 (ts:List (Str×Bool)):TH ts=.tuple ((kvT ts).map fun kv=>.tuple [keyP kv.1,kv.2]):=by
 unfold kvT
 simp [keyP,Function.comp_def]
theorem zaQ3 {ts:List (Str×Bool)} (nd:(ts.map (·.1)).Nodup) {a:Str} {k l:Bool} (h:(a,k)∈ts) (g:(a,l)∈ts):k=l:=by
 induction ts with
 | nil=>cases h
 | cons t ts ih =>
  rw [List.map_cons,List.nodup_cons] at nd
  rcases List.mem_cons.mp h with h1 | h1 <;> rcases List.mem_cons.mp g with g1 | g1
  ·rw [← h1] at g1; cases g1; rfl
  ·exact absurd (List.mem_map.mpr ⟨_,g1,by rw [← h1]⟩) nd.1
  ·exact absurd (List.mem_map.mpr ⟨_,h1,by rw [← g1]⟩) nd.1
  ·exact ih nd.2 h1 g1
theorem zab5 {ts:List (Str×Bool)} (nd:(ts.map (·.1)).Nodup) {a:Str} {k:Bool} (h:(a,k)∈ts):valP (zw6 [] (kvT ts)) (.inr a)=some (.str (kd k)):=by
 obtain ⟨q,hq⟩:=zar0 (r:=kvT ts) (acc:=[]) (j:=.inr a) (.inr ⟨_,List.mem_map.mpr ⟨(a,k),h,rfl⟩,rfl⟩)
 rcases zat7 (zaK1 hq) with g | g
 ·cases g
 ·obtain ⟨u,hu,e⟩:=List.mem_map.mp g
  obtain ⟨u1,u2⟩:=u
  simp at e
  obtain ⟨rfl,rfl⟩:=e
  rw [hq,zaQ3 nd hu h]
@[simp] theorem at2 (x y z:PyData) (xs:List PyData):atI (x :: y :: z :: xs) 2=some z:=by
 have:(2:Int) < xs.length + 1 + 1 + 1:=by omega
 simp [atI,ixN,this]
theorem zaf4 {z:Str} (h:good z):PyData.strOk z=true:=by
 unfold PyData.strOk
 rw [← Array.all_toList]
 exact h.1
theorem zaJ4:∀ z∈ORD,z.cps.toList.all (fun c=>decide (c < 1114112))=true∧z.length≤20:=by decide +kernel
@[simp] theorem at3 (x y z w:PyData) (xs:List PyData):atI (x :: y :: z :: w :: xs) 3=some w:=by
 have:(3:Int) < xs.length + 1 + 1 + 1 + 1:=by omega
 simp [atI,ixN,this]
theorem Fed.tp {b n:Int} {m0 m:Mu} {a:Addr} (h:Fed b n m0 m a):(m a).isSome=true:=by
 obtain ⟨⟨ns,i,j,t,q,_⟩,_⟩:=h
 rw [q]; rfl
theorem Fed.mono {b c n:Int} {m m1:Mu} {a:Addr} (h:Fed b n m m1 a) (hb:b≤c):Fed c n m m1 a:=by
 obtain ⟨⟨ns,i,j,t,q1,q2,q3,q4⟩,q⟩:=h
 exact ⟨⟨ns,i,j,t,q1,q2,q3,by omega⟩,q⟩
theorem Fed.new {b n:Int} {m0 m:Mu} {a c:Addr} (h:Fed b n m0 m a) (hc:m c=none):c≠a∧m0 c=none:=by
 have ne:c≠a:=by
  rintro rfl
  have:=h.tp
  rw [hc] at this
  cases this
 refine ⟨ne,?_⟩
 cases e:m0 c with
 | none=>rfl
 | some x =>
  have:=h.2 c ne (by rw [e]; rfl)
  rw [hc,e] at this
  cases this
theorem Fed.upd {b n:Int} {m0 m:Mu} {a c:Addr} {x:Cel} (h:Fed b n m0 m a) (hca:c≠a) (hc:m0 c=none):Fed b n m0 (updM m c x) a:=by
 obtain ⟨⟨ns,i,j,t,q1,q⟩,h2⟩:=h
 refine ⟨⟨ns,i,j,t,by rw [ze1 (Ne.symm hca)]; exact q1,q⟩,fun y hy hs=>?_⟩
 have ne:y≠c:=by rintro rfl; rw [hc] at hs; cases hs
 rw [ze1 ne]
 exact h2 y hy hs
theorem Fed.kn {b n:Int} {m0 m m':Mu} {a:Addr} (h:Fed b n m0 m a) (k:Kn m m'):Fed b n m0 m' a:=by
 have e:=k a h.tp
 obtain ⟨⟨ns,i,j,t,q1,q⟩,h2⟩:=h
 refine ⟨⟨ns,i,j,t,by rw [e]; exact q1,q⟩,fun y hy hs=>?_⟩
 have e2:=h2 y hy hs
 rw [k y (by rw [e2]; exact hs),e2]
theorem Tp.kn {n:Int} {m m':Mu} {a:Addr} (h:Tp n m a) (k:Kn m m'):Tp n m' a:=by
 have:=(Fed.refl h).kn k
 simpa using this.1
theorem Kn.refl {m:Mu}:Kn m m:=fun _ _=>rfl
theorem Kn.trans {m m1 m2:Mu} (h:Kn m m1) (g:Kn m1 m2):Kn m m2:=fun c hc=>by
 have e:=h c hc
 rw [g c (by rw [e]; exact hc),e]
theorem Kn.new {m m1:Mu} {c:Addr} {x:Cel} (h:Kn m m1) (hc:m c=none):Kn m (updM m1 c x):=fun y hy=>by
 have ne:y≠c:=by rintro rfl; rw [hc] at hy; cases hy
 rw [ze1 ne]
 exact h y hy
theorem Kn.none {m m1:Mu} {c:Addr} (h:Kn m m1) (hc:m1 c=Option.none):m c=Option.none:=by
 cases e:m c with
 | none=>rfl
 | some x =>
  have:=h c (by rw [e]; rfl)
  rw [hc,e] at this
  cases this
theorem zD9 {a:Addr} {n b L:Int} {m0 m:Mu} {R:DK} (h0:0 < n) (hb:n < 1000000) (hL:L≤9000000) (hbb:b≤100000) (hf:Fed b L m0 m a) (h:∀ (r:Int) m',0≤r→r < n→Fed (b + 1) L m0 m' a→(∀ c x,c≠a→m c=some x→m' c=some x)→R (I r) m'):zb3 [.cel a,I n] m R:=by
 refine ⟨a,n,L + b,rfl,h0,?_,by omega,hf.1,fun r m' q0 q1 q2=>h r m' q0 q1 (hf.trans q2) fun c x hc hx=>by rw [q2.2 c hc (by rw [hx]; rfl)]; exact hx⟩
 refine Bd.mono (m:=20) ?_ (by decide)
 unfold Bd
 have e:(2:Nat) ^ 20=1048576:=by decide
 omega
theorem zag1:∀ ds m R,ds.length=zl1.length→zr2 ds m R→zz1 (EN R) (zb2 zI2 ds) m:=by
 rintro ds m R hl ⟨ns,rfl,hn,h⟩
 have e:cutP (ns.map PyData.int) none (some 63)=ns.map PyData.int:=by
  refine zag6 _ ⟨rfl,?_⟩
  simp [HT.sIx]
  omega
 obtain ⟨y1,y2⟩:=zE8 ns
 simp [zz1,e,PyData.canLay0,PyData.canLayAll0,PyData.depth,y1]
 refine ⟨sz (by decide),fun c hc=>⟨by omega,?_⟩⟩
 cases ns with
 | nil =>
  simp [PyData.eqv,PyData.eqvAll,zb1]
  refine ⟨sz (by decide),sz (by decide),fun a _=>h a _ ⟨[7],0,0,0,zb1,by decide,by decide,by decide⟩⟩
 | cons x xs =>
  simp [PyData.eqv,PyData.eqvAll,zb1]
  refine ⟨sz (by simp at hn; omega),sz (by decide),fun a _=>h a _ ⟨x :: xs,0,0,0,by simpa using zb1,by simp,by decide,by decide⟩⟩
theorem zak1:∀ ds m R,ds.length=zc7.length→zb3 ds m R→zz8 (EN R) (zb2 zI9 ds) m:=by
 rintro ds m R hl ⟨a,n,L,rfl,h0,hb,hL,⟨ns,i,j,t,hm,hn,t0,t1⟩,h⟩
 have nl:n.natAbs.log2 < 9000:=Nat.lt_of_lt_of_le (hb.log (by decide)) (by decide)
 have n0:n≠0:=by omega
 have rng:∀ x:Int,0≤x.fmod n∧x.fmod n < n:=fun x=>⟨Int.fmod_nonneg_of_pos _ h0,Int.fmod_lt_of_pos _ h0⟩
 have hp:(0:Int) < ns.length:=by omega
 have hz:ns≠[]:=by rintro rfl; simp at hn
 obtain ⟨v,hv⟩:=zaW5 (ns:=ns) (i:=i.fmod ns.length) (Int.fmod_nonneg_of_pos _ hp) (Int.fmod_lt_of_pos _ hp)
 simp [zz8,zJ1,zM1,atI,ixN,hm,zb1,zM4,PyData.eqv,PyData.canLay0,PyData.depth]
 have fin:∀ (i j:Int) (o3 o4:Option D),zz2 (EN R) [some (.cel a),some (I n),some (I (t + 1)),o3,o4,none] (updM m a (.l [.list (ns.map .int),.int i,.int j,.int (t + 1)])):=fun i j o3 o4=>by
  simp [zz2,zL3,zL2,atI,ixN,zb1,zM4,n0,nl]
  exact h _ _ (rng _).1 (rng _).2 ⟨⟨ns,_,_,_,zb1,hn,by omega,by omega⟩,fun c hc _=>ze1 hc⟩
 by_cases hj:j=0
 ·right
  refine ⟨hj,?_⟩
  subst hj
  simp [zH0,zb1,hz]
  refine ⟨_,hv,?_⟩
  simp [zA2,zA6,zb1,zM4,atI,ixN]
  by_cases hc:v < 1000000000000000000
  ·right
   refine ⟨hc,?_⟩
   simp [zG0,zB0,zA9,n0]
   refine ⟨mulL (bds (by decide) (by decide)),mulR (bds (by omega) (by omega)),mulL (bds (by decide) (by decide)),mulL ?_,mulR ?_,by decide +kernel,h _ _ (rng _).1 (rng _).2 ⟨⟨ns,_,_,_,zb1,hn,by omega,by omega⟩,fun c hc _=>ze1 hc⟩⟩
   ·have q1:=Int.fmod_nonneg_of_pos v (show (0:Int) < 2147483629 by decide)
    have q2:=Int.fmod_lt_of_pos v (show (0:Int) < 2147483629 by decide)
    unfold Bd
    have e:(2:Nat) ^ 64=18446744073709551616:=by decide
    omega
   ·refine bds ?_ ?_
    ·have q1:=Int.fmod_nonneg_of_pos (Int.fmod ((v.fmod 2147483629 + 1) * (31 * (t + 1) * (t + 1) + 7919 * (t + 1) + 1)) 2147483647) (show (0:Int) < 65521 by decide)
     omega
    ·have q1:=Int.fmod_lt_of_pos (Int.fmod ((v.fmod 2147483629 + 1) * (31 * (t + 1) * (t + 1) + 7919 * (t + 1) + 1)) 2147483647) (show (0:Int) < 65521 by decide)
     omega
  ·left
   refine ⟨by omega,?_⟩
   simp [zz9,zb1,zM4,atI,ixN]
   exact fin _ _ _ _
 ·left
  exact ⟨hj,fin _ _ _ _⟩
theorem zad1:∀ ds m R,ds.length=zd7.length→ze4 ds m R→zv4 (EN R) (zb2 zC3 ds) m:=by
 rintro ds m R hl ⟨k,l,rfl,h⟩
 cases k <;> cases l <;> simp (decide:=true) [zv4,zG3,zG6,zH7,zG1,kd,PyData.eqv,PyData.eqvAll,PyData.canLay0,PyData.canLayAll0,PyData.depth,PyData.depthAll,atI,ixN,and_assoc,sz] <;> exact h
theorem zah0:∀ ds m R,ds.length=zl7.length→zq9 ds m R→zy5 (EN R) (zb2 zI3 ds) m:=by
 rintro ds m R hl ⟨z,rfl,hz,h⟩
 have q:=zbl7 z hz
 simp [zy5]
 refine ⟨sz (by decide),true,true,rfl,?_⟩
 simp [zL9,WS]
 exact ⟨ORD,rfl,hz,_,q,h⟩
theorem zae8:∀ ds m R,ds.length=zd0.length→zc8 ds m R→zu8 (EN R) (zb2 zE6 ds) m:=by
 rintro ds m R hl ⟨k,rfl,h⟩
 cases k <;> simp (decide:=true) [zu8,kd,sz] <;> exact h
theorem zag0:∀ ds m R,ds.length=zf3.length→zh6 ds m R→zv6 (EN R) (zb2 zD3 ds) m:=by
 rintro ds m R hl ⟨ts,a,b,k,l,rfl,hn,nd,ha,hb,h⟩
 have g1:=zab5 nd ha
 have g2:=zab5 nd hb
 simp [zv6]
 refine ⟨kvT ts,by simpa using zaM1 ts,sz (by simp [kvT]; omega),fun c hc=>?_⟩
 simp [zH8,zg9,zp7,zb1]
 exact ⟨_,g1,sz (by decide),_,g2,sz (by decide),h _ (Kn.refl.new hc)⟩
@[simp] theorem zbn2 (x y:Str):PyData.eqv (.str x) (.str y)=decide (x=y):=by
 rw [Bool.eq_iff_iff]
 simp [PyData.eqv]
def MENU:List Str:=["a","ab","abc","begin","end","gap","may","o","point","strict","zzzzzzzz"]
def nm (f s k:Nat):Str:=MENU.getD ((f + s * k) % 11) ""
theorem zbj0:∀ f < 11,∀ s < 11,0 < s→((List.range 6).map (nm f s)).Nodup:=by decide +kernel
theorem zay1:∀ i < 11,(MENU.getD i "").cps.toList.all (fun c=>decide (c < 1114112))=true∧(MENU.getD i "").length≤20:=by decide +kernel
theorem zaP6 {i:Int} (h0:0≤i) (h1:i < 11):atI (MENU.map PyData.str) i=some (.str (MENU.getD i.toNat "")):=by
 obtain ⟨k,rfl⟩:∃ k:Nat,i=k:=⟨i.toNat,by omega⟩
 have hk:k < 11:=by omega
 refine zw4 ?_
 have:k < MENU.length:=hk
 rw [List.getElem?_map,List.getD_eq_getElem?_getD,Int.toNat_natCast,List.getElem?_eq_getElem this]
 rfl
theorem zbf1 {i:Int} (h0:0≤i) (h1:i < 3):∃ b,atI [PyData.str "stretch",.str "stretch",.str "point"] i=some (.str (kd b)):=by
 obtain rfl | rfl | rfl:i=0∨i=1∨i=2:=by omega
 ·exact ⟨true,rfl⟩
 ·exact ⟨true,rfl⟩
 ·exact ⟨false,rfl⟩
theorem zbf6 {i:Int} (h0:0≤i) (h1:i < 2):∃ b,atI [PyData.str "stretch",.str "point"] i=some (.str (kd b)):=by
 obtain rfl | rfl:i=0∨i=1:=by omega
 ·exact ⟨true,rfl⟩
 ·exact ⟨false,rfl⟩
theorem zaC2 {ps:List PyData} {a:Addr} {b L:Int} {m0 m:Mu} {o:Option D} {Q:List PyData→Mu→Prop} (hn:ps.length≤6) (hL:L≤9000000) (hb:b≤1000) (hf:Fed b L m0 m a)
  (h:∀ (ks:List Bool) m',ks.length=ps.length→Fed (b + 6) L m0 m' a→Q (ks.map fun k=>.str (kd k)) m') :
  zp7 (gN 0) zK2 (dBin aIx (dLst (za4 (dCon (.str "stretch")) (za4 (dCon (.str "stretch")) (za4 (dCon (.str "point")) dNil)))) (zc2 2 zb3 (za4 (dVar 1) (za4 (dCon (.int 3)) dNil)))) (ps.map .dat) [] [o,some (.cel a)] m Q:=by
 refine zz6 (fun rest acc d m'=>∃ (ks:List Bool),Fed (b + ks.length) L m0 m' a∧(∃ o,d=[o,some (.cel a)])∧acc=ks.map (fun k=>.str (kd k))∧rest.length + ks.length=ps.length) ?_ ?_ _ _ _ _ ⟨[],by simpa using hf,⟨o,rfl⟩,rfl,by simp⟩
 ·rintro acc d m' ⟨ks,hf',_,rfl,e⟩
  simp at e
  exact h ks m' e (hf'.mono (by omega))
 ·rintro x xs acc d m' k ⟨ks,hf',⟨o,rfl⟩,rfl,e⟩ hk
  simp at e
  simp [sz]
  refine zk4 (by decide) (by decide) hL (by omega) hf' fun r m2 r0 r1 hf2=>?_
  obtain ⟨c,hc⟩:=zbf1 r0 r1
  refine ⟨_,hc,_,rfl,Nat.lt_of_lt_of_le (show ks.length < 7 by omega) (sz (by decide)),?_⟩
  refine hk _ _ _ ⟨ks++[c],?_,⟨_,rfl⟩,by simp,by simp; omega⟩
  refine hf2.mono ?_
  simp
  omega
theorem zay5 {ps:List PyData} {i:Int} {m:Mu} {o:Option D} {Q:List PyData→Mu→Prop} (hn:ps.length≤6) (i0:0≤i) (i1:i < 2)
  (h:∀ (ks:List Bool),ks.length=ps.length→Q (ks.map fun k=>.str (kd k)) m) :
  zp7 (gN 0) zK2 (dBin aIx (dLst (za4 (dCon (.str "stretch")) (za4 (dCon (.str "point")) dNil))) (dVar 1)) (ps.map .dat) [] [o,some (I i)] m Q:=by
 refine zz6 (fun rest acc d m'=>m'=m∧∃ (ks:List Bool),(∃ o,d=[o,some (I i)])∧acc=ks.map (fun k=>.str (kd k))∧rest.length + ks.length=ps.length) ?_ ?_ _ _ _ _ ⟨rfl,[],⟨o,rfl⟩,rfl,by simp⟩
 ·rintro acc d m' ⟨rfl,ks,_,rfl,e⟩
  simp at e
  exact h ks e
 ·rintro x xs acc d m' k ⟨rfl,ks,⟨o,rfl⟩,rfl,e⟩ hk
  simp at e
  obtain ⟨c,hc⟩:=zbf6 i0 i1
  simp [sz]
  refine ⟨_,hc,Nat.lt_of_lt_of_le (show ks.length < 7 by omega) (sz (by decide)),?_⟩
  exact hk _ _ _ ⟨rfl,ks++[c],⟨_,rfl⟩,by simp,by simp; omega⟩
theorem zX8:∀ ds m R,ds.length=zh7.length→zk7 ds m R→zs0 (EN R) (zb2 zy3 ds) m:=by
 rintro ds m R hl ⟨a,L,rfl,hL,hT,h⟩
 have hf:=Fed.refl hT
 simp [zs0,sz]
 simp [zD6]
 refine zk4 (by decide) (by decide) hL (by decide) hf fun r1 m1 r10 r11 hf1=>?_
 simp [zC6]
 refine zk4 (by decide) (by decide) hL (by decide) hf1 fun r2 m2 r20 r21 hf2=>?_
 simp [zC4]
 refine zk4 (by decide) (by decide) hL (by decide) hf2 fun r3 m3 r30 r31 hf3=>?_
 obtain ⟨n,rfl⟩:∃ n:Nat,r1=n:=⟨r1.toNat,by omega⟩
 obtain ⟨f,rfl⟩:∃ n:Nat,r2=n:=⟨r2.toNat,by omega⟩
 obtain ⟨s,rfl⟩:∃ n:Nat,r3=n:=⟨r3.toNat,by omega⟩
 simp [zC1,zg9]
 refine ⟨by omega,by omega,?_⟩
 refine zay0 (fun i acc d m'=>m'=m3∧acc=((List.range i).map (nm f (s + 1))).map .str∧∃ o,d=[o,some (.dat (.list (MENU.map .str))),some (I f),some (I (1 + s))]) ?_ ?_ _ _ _ ⟨rfl,rfl,none,rfl⟩
 ·rintro acc d m' ⟨rfl,rfl,_⟩
  have nd6:=zbj0 f (by omega) (s + 1) (by omega) (by omega)
  obtain ⟨N,hN⟩:∃ N:Nat,N=(1 + (n:Int)).toNat:=⟨_,rfl⟩
  rw [← hN]
  have hN2:N=1 + n:=by omega
  have ndN:((List.range N).map (nm f (s + 1))).Nodup:=by
   refine List.Nodup.sublist (List.Sublist.map _ ?_) nd6
   rw [show 6=N + (6 - N) by omega,List.range_add]
   exact List.sublist_append_left _ _
  refine ⟨(List.range N).map (nm f (s + 1)),by simp,by simp; omega,fun ys hp hs=>?_⟩
  have ly:ys.length=N:=by simpa using hp.length_eq
  have gy:∀ y∈ys,good y:=fun y hy=>by
   obtain ⟨i,_,rfl⟩:=List.mem_map.mp (hp.mem_iff.mp hy)
   exact zay1 _ (Nat.mod_lt _ (by decide))
  have ndY:ys.Nodup:=hp.nodup_iff.mpr ndN
  have fin:∀ (ks:List Bool) m' (o8:Option D),ks.length=ys.length→Fed 20 L m m' a→zt2 (EN R) [some (.cel a),some (I 1),some (I 6),some (.dat (.list (MENU.map .str))),some (I (1 + n)),some (I f),some (I (1 + s)),some (.dat (.list (ys.map .str))),o8,some (.dat (.list (ks.map fun k=>.str (kd k))))] m':=fun ks m' o8 hk hf'=>by
   have e1:((ys.zip ks).map (·.1))=ys:=by
    rw [List.map_fst_zip]
    omega
   simp [zt2]
   refine ⟨hk,by omega,by omega,?_⟩
   have:=h (ys.zip ks) m' (by simp; omega) (by simp; omega) (by rw [e1]; exact ⟨ndY,by omega,gy⟩) hf'
   have e2:((ys.map PyData.str).zip (ks.map fun k=>PyData.str (kd k))).map (fun z=>PyData.tuple [z.1,z.2])=(ys.zip ks).map fun t=>.tuple [.str t.1,.str (kd t.2)]:=by
    rw [List.zip_map,List.map_map]
    rfl
   rw [e2]
   exact this
  simp [zD2]
  refine zk4 (by decide) (by decide) hL (by decide) hf3 fun way m5 w0 w1 hf5=>?_
  simp [zB5,zg9]
  have e0:(ys.map (D.dat∘PyData.str))=(ys.map PyData.str).map .dat:=by rw [List.map_map]
  rw [e0]
  refine zaC2 (by simp; omega) hL (by decide) hf5 fun ks m6 hk hf6=>?_
  have hk:ks.length=ys.length:=by simpa using hk
  have hf6:=hf6.mono (c:=20) (by decide)
  simp [zC5,zg9]
  by_cases c:way < 2
  ·right
   refine ⟨c,?_⟩
   rw [e0]
   refine zay5 (by simp; omega) w0 c fun ks hk=>?_
   exact fin ks m6 _ (by simpa using hk) hf6
  ·left
   exact ⟨by omega,fin ks m6 _ hk hf6⟩
 ·rintro i acc d m' k hi ⟨rfl,rfl,o,rfl⟩ hk
  simp
  have q0:=Int.fmod_nonneg_of_pos ((f:Int) + (1 + s) * i) (show (0:Int) < 11 by decide)
  have q1:=Int.fmod_lt_of_pos ((f:Int) + (1 + s) * i) (show (0:Int) < 11 by decide)
  have e:(((f:Int) + (1 + s) * i).fmod 11).toNat=(f + (s + 1) * i) % 11:=by
   rw [Int.fmod_eq_emod_of_nonneg _ (by decide)]
   have:(f:Int) + (1 + s) * i=((f + (s + 1) * i:Nat):Int):=by
    push_cast
    rw [Int.add_comm (1:Int)]
   rw [this]
   omega
  refine ⟨mulL (bds (by omega) (by omega)),_,zaP6 q0 q1,Nat.lt_of_lt_of_le (show i < 10 by omega) (sz (by decide)),hk _ _ _ ⟨rfl,?_,_,rfl⟩⟩
  rw [e,List.range_succ]
  simp [nm]
theorem zaN7 {ws:List Str} {r:Int} (h0:0≤r) (h1:r < (ws.length:Int)):∃ z∈ws,atI (ws.map PyData.str) r=some (.str z):=by
 obtain ⟨k,rfl⟩:∃ k:Nat,r=k:=⟨r.toNat,by omega⟩
 have hk:k < ws.length:=by omega
 exact ⟨ws[k],List.getElem_mem hk,zw4 (by rw [List.getElem?_map,List.getElem?_eq_getElem hk]; rfl)⟩
theorem zaS8 {ws fs:List Str} {c:Addr} {m:Mu} {o:Option D} {Q:List PyData→Mu→Prop} (hm:m c=some (.l (fs.map .str))) (hn:ws.length≤13) (h:Q ((ws.filter fun w=>decide (w∈fs)).map .str) m) :
  zp7 (gN 0) (dTst (dBin aInC (dVar 0) (dVar 1))) (dVar 0) (ws.map (D.dat∘PyData.str)) [] [o,some (.cel c)] m Q:=by
 refine zz6 (fun rest acc d m'=>m'=m∧(∃ o,d=[o,some (.cel c)])∧∃ done todo,ws=done++todo∧rest=todo.map (fun z=>.dat (.str z))∧acc=(done.filter fun w=>decide (w∈fs)).map .str) ?_ ?_ _ _ _ _ ⟨rfl,⟨o,rfl⟩,[],ws,rfl,rfl,rfl⟩
 ·rintro acc d m' ⟨rfl,_,done,todo,e1,e2,rfl⟩
  have e3:todo=[]:=by simpa using e2.symm
  subst e3
  rw [List.append_nil] at e1
  rw [← e1]
  exact h
 ·rintro x xs acc d m' k ⟨rfl,⟨o,rfl⟩,done,todo,e1,e2,rfl⟩ hk
  cases todo with
  | nil=>simp at e2
  | cons z todo =>
   obtain ⟨rfl,rfl⟩:=List.cons.inj e2
   have hln:(done.filter fun w=>decide (w∈fs)).length < 14:=by
    have:=congrArg List.length e1
    have q:=List.length_filter_le (fun w=>decide (w∈fs)) done
    simp at this
    omega
   have e3:ws=(done++[z])++todo:=by rw [e1]; simp
   simp only [gN,dTst,dBin,dVar,aInC]
   refine ⟨_,rfl,_,rfl,fs,hm,?_⟩
   by_cases cc:z∈fs
   ·simp [cc]
    exact ⟨Nat.lt_of_lt_of_le hln (sz (by decide)),hk _ _ _ ⟨rfl,⟨_,rfl⟩,done++[z],todo,e3,rfl,by simp [cc]⟩⟩
   ·simp [cc]
    exact hk _ _ _ ⟨rfl,⟨_,rfl⟩,done++[z],todo,e3,rfl,by simp [cc]⟩
theorem zao9:∀ ds m R,ds.length=zn4.length→zs7 ds m R→zF4 (EN R) (zb2 zN2 ds) m:=by
 rintro ds m R hl ⟨a,k,l,L,rfl,hL,hT,h⟩
 have hf:=Fed.refl hT
 obtain ⟨w1,w2⟩:=zax7 k l
 simp [zF4]
 refine ⟨k,l,rfl,?_⟩
 simp [zR6]
 refine zk4 (by decide) (by decide) hL (by decide) hf fun way m1 y0 y1 hf1=>?_
 simp [zQ2,PyData.eqv,PyData.canLay0,PyData.depth]
 by_cases c0:way=0
 ·right
  exact ⟨c0,h (WS k l) m1 (List.Sublist.refl _) (hf1.mono (by decide))⟩
 left
 refine ⟨c0,?_⟩
 simp [zR1]
 refine zk4 (by omega) (by omega) hL (by decide) hf1 fun r m2 r0 r1 hf2=>?_
 obtain ⟨z,hz,ez⟩:=zaN7 r0 r1
 refine ⟨_,ez,?_⟩
 simp [sz]
 intro c hc
 obtain ⟨ca,cn⟩:=hf2.new hc
 simp [zQ3,sz]
 obtain ⟨n,hn,en⟩:∃ n:Nat,n≤6∧atI [PyData.int 0,.int 0,.int 2,.int 6,.int 1] way=some (.int n):=by
  obtain rfl | rfl | rfl | rfl:way=1∨way=2∨way=3∨way=4:=by omega
  ·exact ⟨0,by decide,rfl⟩
  ·exact ⟨2,by decide,rfl⟩
  ·exact ⟨6,by decide,rfl⟩
  ·exact ⟨1,by decide,rfl⟩
 refine ⟨_,en,n,rfl,by omega,by omega,?_⟩
 refine zM5 (fun i d m'=>Fed (2 + i) L m m' a∧(∃ fs:List Str,m' c=some (.l (fs.map .str))∧fs.length=i + 1)∧∃ o,d=[some (.cel a),some (.dat (kds k l)),some (.dat (.tuple ((WS k l).map .str))),some (I way),some (.cel c),o]) ?_ ?_ _ _ ⟨by simpa using hf2.upd ca cn,⟨[z],zb1,rfl⟩,none,rfl⟩
 ·rintro d m' ⟨hf',⟨fs,hfs,_⟩,o,rfl⟩
  simp [zR5,zg9]
  refine zaS8 hfs w2 ?_
  exact h _ m' (List.filter_sublist) (hf'.mono (by omega))
 ·rintro i hi K hK d m' ⟨hf',⟨fs,hfs,lfs⟩,o,rfl⟩
  simp [zJ4,hfs]
  refine zD9 (by omega) (by omega) hL (by omega) hf' fun q m4 q0 q1 hf4 keep=>?_
  obtain ⟨z',hz',ez'⟩:=zaN7 q0 q1
  refine ⟨_,ez',_,_,rfl,keep c _ ca hfs,?_,hK _ _ ⟨?_,⟨fs++[z'],by rw [zb1]; simp,by simp [lfs]⟩,_,rfl⟩⟩
  ·simp
   exact Nat.lt_of_lt_of_le (show fs.length < 10 by omega) (sz (by decide))
  ·have:=hf4.upd (x:=.l (fs.map .str++[.str z'])) ca cn
   refine this.mono ?_
   omega
def Sw (w e:Nat) (p:PyData):Prop:=p.showable=true∧p.leavesShort 8=true∧p.weight≤w∧p.depth≤e
theorem Sw.mono {w e w' e':Nat} {p:PyData} (h:Sw w e p) (h1:w≤w') (h2:e≤e'):Sw w' e' p:=⟨h.1,h.2.1,Nat.le_trans h.2.2.1 h1,Nat.le_trans h.2.2.2 h2⟩
theorem zaP7 (k:Bool):good (kd k):=by cases k <;> exact ⟨by decide +kernel,by decide +kernel⟩
theorem zbd1 {ts:List (Str×Bool)} {r:Int} (h0:0≤r) (h1:r < (ts.length:Int)):∃ t∈ts,atI (ts.map fun t=>PyData.tuple [.str t.1,.str (kd t.2)]) r=some (.tuple [.str t.1,.str (kd t.2)]):=by
 obtain ⟨k,rfl⟩:∃ k:Nat,r=k:=⟨r.toNat,by omega⟩
 have hk:k < ts.length:=by omega
 exact ⟨ts[k],List.getElem_mem hk,zw4 (by rw [List.getElem?_map,List.getElem?_eq_getElem hk]; rfl)⟩
theorem zap4:∀ ds m R,ds.length=zp6.length→zt5 ds m R→zF5 (EN R) (zb2 zN8 ds) m:=by
 rintro ds m R hl ⟨a,ts,L,rfl,h2,h6,hL,hT,h⟩
 have hf:=Fed.refl hT
 simp [zF5]
 refine zk4 (by omega) (by omega) hL (by decide) hf fun r1 m1 r10 r11 hf1=>?_
 simp [zP7]
 refine zk4 (by omega) (by omega) hL (by decide) hf1 fun r2 m2 r20 r21 hf2=>?_
 have hp:(0:Int) < ts.length:=by omega
 have hz:ts≠[]:=by rintro rfl; simp at h2
 obtain ⟨t,ht,et⟩:=zbd1 r10 r11
 obtain ⟨u,hu,eu⟩:=zbd1 (ts:=ts) (r:=(r1 + 1 + r2).fmod ts.length) (Int.fmod_nonneg_of_pos _ hp) (Int.fmod_lt_of_pos _ hp)
 simp [hz,zP6]
 refine ⟨_,et,?_⟩
 simp
 refine ⟨_,eu,?_⟩
 simp [sz]
 exact h t.1 u.1 t.2 u.2 m2 ht hu (hf2.mono (by decide))
end K19
namespace K19
open PySem PySem.Spec PyProof.Rows L2 DL K01
theorem zaY8 (x:Int):sgn x=-1∨sgn x=0∨sgn x=1:=by
 unfold sgn
 split <;> split <;> simp <;> omega
theorem zaf5 {a b c d e f:Int} (hb:0 < b) (hd:0 < d) (hf:0 < f) (h1:a * d≤c * b) (h2:c * f < e * d):a * f < e * b:=by
 refine Int.lt_of_mul_lt_mul_left (a:=d) ?_ (Int.le_of_lt hd)
 have x1:a * d * f≤c * b * f:=Int.mul_le_mul_of_nonneg_right h1 (Int.le_of_lt hf)
 have x2:c * f * b < e * d * b:=Int.mul_lt_mul_of_pos_right h2 hb
 have y1:d * (a * f)=a * d * f:=by ac_rfl
 have y2:d * (e * b)=e * d * b:=by ac_rfl
 have y3:c * b * f=c * f * b:=by ac_rfl
 omega
theorem Tm.le {p:PyData} {k:Bool} {x y:Int×Int} (h:Tm p k x y):x.1 * y.2≤y.1 * x.2:=by
 cases k with
 | true=>exact Int.le_of_lt (h.st rfl)
 | false=>rw [h.pt rfl]; exact Int.le_refl _
theorem zao7:∀ ds m R,ds.length=zk3.length→zh5 ds m R→zE9 (EN R) (zb2 zN4 ds) m:=by
 rintro ds m R hl ⟨⟨a,b⟩,⟨c,d⟩,rfl,b1,b2,b3,b4,h⟩
 simp [zE9,and_assoc]
 exact ⟨b1.mulOk b4 (by decide),b3.mulOk b2 (by decide),h⟩
theorem zJ5 (x y:Int×Int):stn x y=if x.1 * y.2 < y.1 * x.2 then -1 else if y.1 * x.2 < x.1 * y.2 then 1 else 0:=by
 unfold stn sgn
 split <;> split <;> split <;> (try split) <;> omega
theorem zax6:∀ ds m R,ds.length=zz4.length→zx1 ds m R→zS8 (EN R) (zb2 zad8 ds) m:=by
 rintro ds m R hl ⟨x,y,rfl,b1,b2,b3,b4,h⟩
 rw [zJ5] at h
 simp [zS8]
 refine ⟨x,y,rfl,b1,b2,b3,b4,?_⟩
 by_cases c1:x.1 * y.2 < y.1 * x.2
 ·rw [if_pos c1] at h
  simp [c1]
  exact h
 ·rw [if_neg c1] at h
  simp [c1,zaa0]
  refine ⟨y,x,rfl,b3,b4,b1,b2,?_⟩
  by_cases c2:y.1 * x.2 < x.1 * y.2
  ·rw [if_pos c2] at h
   simp [c2]
   exact h
  ·rw [if_neg c2] at h
   simp [c2,zZ7]
   exact h
theorem zam0:∀ ds m R,ds.length=zo7.length→zh3 ds m R→zF8 (EN R) (zb2 zO0 ds) m:=by
 rintro ds m R hl ⟨p,k,x,y,rfl,ht,h⟩
 have e:=ht.eq
 subst e
 cases k <;> simp [zF8] <;> exact h
theorem zbj2:∀ z∈ORD,valP zab6 z=some (.tuple ((w4 z).map .int))∧∃ a b c d,w4 z=[a,b,c,d]:=by
 intro z hz
 unfold ORD at hz
 simp only [List.mem_cons,List.not_mem_nil,or_false] at hz
 rcases hz with rfl | rfl | rfl | rfl | rfl | rfl | rfl | rfl | rfl | rfl | rfl | rfl | rfl <;> exact ⟨rfl,_,_,_,_,rfl⟩
theorem zaw4:∀ ds m R,ds.length=zu7.length→zo6 ds m R→zJ7 (EN R) (zb2 zV9 ds) m:=by
 rintro ds m R hl ⟨k,l,z,rfl,hz,h⟩
 obtain ⟨v,a,b,c,d,e⟩:=zbj2 z hz
 unfold zJ7
 simp only [dSeq,dSet,zat2,dVar,zb2]
 refine ⟨_,rfl,z,_,rfl,v,?_⟩
 unfold WB at h
 rw [e] at h ⊢
 cases k <;> cases l <;> simp (decide:=true) [zU2,zU3,zW6,kd,PyData.eqv,PyData.eqvAll,PyData.canLay0,PyData.canLayAll0,PyData.depth,PyData.depthAll,atI,ixN,and_assoc,sz] at h ⊢
 all_goals exact h
theorem zad2:∀ xs ys:List Int,PyData.eqvAll (xs.map .int) (ys.map .int)=decide (xs=ys)
 | [],[]=>by simp [PyData.eqvAll]
 | [],y :: ys=>by simp [PyData.eqvAll]
 | x :: xs,[]=>by simp [PyData.eqvAll]
 | x :: xs,y :: ys=>by
  have ih:=zad2 xs ys
  simp only [List.map_cons,PyData.eqvAll,ih,PyData.eqv,List.cons.injEq]
  by_cases c:x=y <;> simp [c]
theorem zaK2 {k l:Bool} {is:List Int} {ws:List Str} {m:Mu} {o:Option D} {Q:List PyData→Mu→Prop} (hn:ws.length≤13) (ho:∀ z∈ws,z∈ORD) (h:Q ((ws.filter fun z=>decide (WB k l z=is)).map .str) m) :
  zp7 (gN 0) (dTst (dBin aEq (zc2 2 zo6 (za4 (dVar 1) (za4 (dVar 0) dNil))) (dVar 2))) (dVar 0) ((ws.map PyData.str).map .dat) [] [o,some (.dat (kds k l)),some (.dat (.tuple (is.map .int)))] m Q:=by
 refine zz6 (fun rest acc d m'=>m'=m∧(∃ o,d=[o,some (.dat (kds k l)),some (.dat (.tuple (is.map .int)))])∧∃ done todo,ws=done++todo∧rest=todo.map (fun z=>.dat (.str z))∧acc=(done.filter fun z=>decide (WB k l z=is)).map .str) ?_ ?_ _ _ _ _ ⟨rfl,⟨o,rfl⟩,[],ws,rfl,by rw [List.map_map]; rfl,rfl⟩
 ·rintro acc d m' ⟨rfl,_,done,todo,e1,e2,rfl⟩
  have e3:todo=[]:=by simpa using e2.symm
  subst e3
  rw [List.append_nil] at e1
  rw [← e1]
  exact h
 ·rintro x xs acc d m' kk ⟨rfl,⟨o,rfl⟩,done,todo,e1,e2,rfl⟩ hk
  cases todo with
  | nil=>simp at e2
  | cons z todo =>
   obtain ⟨rfl,rfl⟩:=List.cons.inj e2
   have hln:(done.filter fun z=>decide (WB k l z=is)).length < 14:=by
    have:=congrArg List.length e1
    have q:=List.length_filter_le (fun z=>decide (WB k l z=is)) done
    simp at this
    omega
   have e3:ws=(done++[z])++todo:=by rw [e1]; simp
   have hzo:z∈ORD:=ho z (by rw [e1]; simp)
   obtain ⟨y1,y2⟩:=zE8 (WB k l z)
   obtain ⟨y3,y4⟩:=zE8 is
   show dTst (dBin aEq (zc2 2 zo6 (za4 (dVar 1) (za4 (dVar 0) dNil))) (dVar 2)) [some (.dat (.str z)),some (.dat (kds k l)),some (.dat (.tuple (is.map .int)))] m' _
   refine ⟨_,rfl,_,rfl,rfl,k,l,z,rfl,hzo,_,rfl,?_⟩
   simp only [aEq,PyData.eqv,PyData.canLay0,PyData.depth,y1,y3,zad2,true_and]
   refine ⟨by omega,_,rfl,?_⟩
   by_cases c:WB k l z=is
   ·rw [if_pos (by simpa using c)]
    exact ⟨_,rfl,_,rfl,by rw [List.length_map]; exact Nat.lt_of_lt_of_le hln (sz (by decide)),hk _ _ _ ⟨rfl,⟨_,rfl⟩,done++[z],todo,e3,rfl,by simp [List.filter_append,c]⟩⟩
   ·rw [if_neg (by simpa using c)]
    exact hk _ _ _ ⟨rfl,⟨_,rfl⟩,done++[z],todo,e3,rfl,by simp [List.filter_append,c]⟩
def S3:List Int:=[-1,0,1]
theorem zaN6:∀ s00∈S3,∀ s01∈S3,∀ s10∈S3,∀ s11∈S3,(s00≤0→s01 < 0)→(s10≤0→s11 < 0)→(0≤s00→0 < s10)→(0≤s01→0 < s11)→((WS true true).filter fun z=>decide (WB true true z=[s00,s01,s10,s11])).head?=some (wc true s10 s01 s00 s11):=by decide +kernel
theorem zaO0:∀ s00∈S3,∀ s10∈S3,(0≤s00→0 < s10)→((WS true false).filter fun z=>decide (WB true false z=[s00,s10])).head?=some (wc false s10 s00 s00 s10):=by decide +kernel
theorem zaN9:∀ s00∈S3,∀ s01∈S3,(s00≤0→s01 < 0)→((WS false true).filter fun z=>decide (WB false true z=[s00,s01])).head?=some (wc false s00 s01 s00 s01):=by decide +kernel
theorem zaO2:∀ s00∈S3,((WS false false).filter fun z=>decide (WB false false z=[s00])).head?=some (wc false s00 s00 s00 s00):=by decide +kernel
theorem zi3 (x y:Int×Int):stn x y∈S3:=by
 unfold S3
 rcases zaY8 (x.1 * y.2 - y.1 * x.2) with h | h | h <;> simp [stn,h]
theorem st_b {q:PyData} {b0 b1 x:Int×Int} (h:Tm q true b0 b1) (hx:0 < x.2) (c:stn x b0≤0):stn x b1 < 0:=by
 rw [zJ5] at c ⊢
 have:=zaf5 (a:=x.1) (b:=x.2) (c:=b0.1) (d:=b0.2) (e:=b1.1) (f:=b1.2) hx h.px h.py (by
  split at c
  ·omega
  ·split at c <;> omega) (h.st rfl)
 rw [if_pos this]
 decide
theorem st_a {p:PyData} {a0 a1 y:Int×Int} (h:Tm p true a0 a1) (hy:0 < y.2) (c:0≤stn a0 y):0 < stn a1 y:=by
 rw [zJ5] at c ⊢
 have:=zaf5 (a:=y.1) (b:=y.2) (c:=a0.1) (d:=a0.2) (e:=a1.1) (f:=a1.2) hy h.px h.py (by split at c <;> omega) (h.st rfl)
 rw [if_neg (by omega),if_pos this]
 decide
theorem zz5 {x y:Int×Int} {m:Mu} {R:DK} (h1:Bd 40 x.1∧Bd 40 x.2) (h2:Bd 40 y.1∧Bd 40 y.2) (h:R (I (stn x y)) m):zx1 [.dat (fq x),.dat (fq y)] m R:=⟨x,y,rfl,h1.1.mono (by decide),h1.2.mono (by decide),h2.1.mono (by decide),h2.2.mono (by decide),h⟩
theorem zr7 {p:PyData} {k:Bool} {x y:Int×Int} {m:Mu} {R:DK} (ht:Tm p k x y) (h:R (.dat (.bool (!k))) m):zh3 [.dat p] m R:=⟨p,k,x,y,rfl,ht,h⟩
theorem zaI2 {k l:Bool} {is:List Int} {m:Mu} {R:DK} {z:Str} {o0 o1 o3 o4:Option D} (hk:((WS k l).filter fun z=>decide (WB k l z=is)).head?=some z) (h:R (.dat (.str z)) m) :
  zI6 (EN R) [o0,o1,some (.dat (kds k l)),o3,o4,some (.dat (.tuple (is.map .int)))] m:=by
 unfold zI6
 simp only [dSeq,dRet,dBin,dLC,zr6,zc2,za4,dNil,dVar,zg9]
 refine ⟨_,rfl,rfl,k,l,rfl,?_⟩
 refine .inr ⟨_,rfl,?_⟩
 refine zaK2 (zax7 k l).2 (zaq8 k l) ?_
 obtain ⟨fs,ef⟩:∃ fs,(WS k l).filter (fun z=>decide (WB k l z=is))=fs:=⟨_,rfl⟩
 rw [ef] at hk ⊢
 cases fs with
 | nil=>cases hk
 | cons y ys =>
  cases hk
  simp
  exact h
theorem zaw9:∀ ds m R,ds.length=zu4.length→zw8 ds m R→zs3 (EN R) (zb2 zX7 ds) m:=by
 rintro ds m R hl ⟨p,q,k,l,a0,a1,b0,b1,rfl,ha,hb,h⟩
 have e1:=ha.eq
 have e2:=hb.eq
 subst e1 e2
 unfold wd at h
 have A0:Bd 40 a0.1∧Bd 40 a0.2:=⟨ha.b1,ha.b2⟩
 have A1:Bd 40 a1.1∧Bd 40 a1.2:=⟨ha.b3,ha.b4⟩
 have B0:Bd 40 b0.1∧Bd 40 b0.2:=⟨hb.b1,hb.b2⟩
 have B1:Bd 40 b1.1∧Bd 40 b1.2:=⟨hb.b3,hb.b4⟩
 have up {n:Nat} (h:n≤10):n < sizeLine:=Nat.lt_of_lt_of_le (show n < 1000 by omega) (sz (by decide))
 cases k with
 | true =>
  cases l with
  | true =>
   simp [zs3,sz]
   refine zr7 ha ?_
   simp
   refine zr7 hb ?_
   simp [zt6,sz]
   refine zr7 ha ?_
   simp [zu0,sz]
   refine zr7 hb ?_
   simp [zt8,sz,zn3,zK7,DL.stepI,zg9]
   refine zz5 A0 B0 ⟨_,rfl,up (by decide),zz5 A0 B1 ⟨_,rfl,up (by decide),zz5 A1 B0 ⟨_,rfl,up (by decide),zz5 A1 B1 ⟨_,rfl,up (by decide),?_⟩⟩⟩⟩
   exact zaI2 (k:=true) (l:=true) (is:=[stn a0 b0,stn a0 b1,stn a1 b0,stn a1 b1]) (zaN6 _ (zi3 _ _) _ (zi3 _ _) _ (zi3 _ _) _ (zi3 _ _) (st_b hb ha.px) (st_b hb ha.py) (st_a ha hb.px) (st_a ha hb.py)) h
  | false =>
   cases hb.pt rfl
   simp [zs3,sz]
   refine zr7 ha ?_
   simp
   refine zr7 hb ?_
   simp [zt6,sz]
   refine zr7 ha ?_
   simp [zu0,sz]
   refine zr7 hb ?_
   simp [zt8,sz,zn3,zK7,DL.stepI,zg9]
   refine zz5 A0 B0 ⟨_,rfl,up (by decide),zz5 A1 B0 ⟨_,rfl,up (by decide),?_⟩⟩
   exact zaI2 (k:=true) (l:=false) (is:=[stn a0 b0,stn a1 b0]) (zaO0 _ (zi3 _ _) _ (zi3 _ _) (st_a ha hb.px)) h
 | false =>
  cases ha.pt rfl
  cases l with
  | true =>
   simp [zs3,sz]
   refine zr7 ha ?_
   simp
   refine zr7 hb ?_
   simp [zt6,sz]
   refine zr7 ha ?_
   simp [zu0,sz]
   refine zr7 hb ?_
   simp [zt8,sz,zn3,zK7,DL.stepI,zg9]
   refine zz5 A0 B0 ⟨_,rfl,up (by decide),zz5 A0 B1 ⟨_,rfl,up (by decide),?_⟩⟩
   exact zaI2 (k:=false) (l:=true) (is:=[stn a0 b0,stn a0 b1]) (zaN9 _ (zi3 _ _) _ (zi3 _ _) (st_b hb ha.px)) h
  | false =>
   cases hb.pt rfl
   simp [zs3,sz]
   refine zr7 ha ?_
   simp
   refine zr7 hb ?_
   simp [zt6,sz]
   refine zr7 ha ?_
   simp [zu0,sz]
   refine zr7 hb ?_
   simp [zt8,sz,zn3,zK7,DL.stepI,zg9]
   refine zz5 A0 B0 ⟨_,rfl,up (by decide),?_⟩
   exact zaI2 (k:=false) (l:=false) (is:=[stn a0 b0]) (zaO2 _ (zi3 _ _)) h
theorem TmAll.len:∀ {ts:List (Str×Bool)} {ps:List PyData},TmAll ts ps→ps.length=ts.length
 | [],[],_=>rfl
 | t :: ts,p :: ps,h=>by rw [List.length_cons,List.length_cons,TmAll.len h.2]
 | [],_ :: _,h=>h.elim
 | _ :: _,[],h=>h.elim
theorem TmAll.snoc:∀ {ts:List (Str×Bool)} {ps:List PyData} {t:Str×Bool} {p:PyData},TmAll ts ps→(∃ x y,Tm p t.2 x y)→TmAll (ts++[t]) (ps++[p])
 | [],[],_,_,_,q=>⟨q,True.intro⟩
 | t :: ts,p :: ps,_,_,h,q=>⟨h.1,TmAll.snoc h.2 q⟩
 | [],_ :: _,_,_,h,_=>h.elim
 | _ :: _,[],_,_,h,_=>h.elim
theorem zap7:∀ ds m R,ds.length=zp5.length→zs4 ds m R→zF6 (EN R) (zb2 zO1 ds) m:=by
 rintro ds m R hl ⟨ts,rfl,hn,h⟩
 simp [zF6,zg9]
 refine zz6 (fun rest acc d m'=>m'=m∧(∃ o1 o2,d=[o1,o2])∧∃ done todo,ts=done++todo∧rest=todo.map (fun t=>.dat (.tuple [.str t.1,.str (kd t.2)]))∧acc=done.map fun t=>.str t.1) ?_ ?_ _ _ _ _ ⟨rfl,⟨_,_,rfl⟩,[],ts,rfl,by first | rfl | (rw [List.map_map]; rfl) | simp,rfl⟩
 ·rintro acc d m1 ⟨rfl,_,done,todo,e1,e2,rfl⟩
  have e3:todo=[]:=by simpa using e2.symm
  subst e3
  rw [List.append_nil] at e1
  subst e1
  exact h
 ·rintro x xs acc d m1 k ⟨rfl,⟨o1,o2,rfl⟩,done,todo,e1,e2,rfl⟩ hk
  cases todo with
  | nil=>simp at e2
  | cons t todo =>
   obtain ⟨rfl,rfl⟩:=List.cons.inj e2
   have hln:done.length < 7:=by
    have:=congrArg List.length e1
    simp at this
    omega
   simp
   exact ⟨Nat.lt_of_lt_of_le hln (sz (n:=7) (by decide)),hk _ _ _ ⟨rfl,⟨_,_,rfl⟩,done++[t],todo,by rw [e1]; simp,rfl,by simp⟩⟩
theorem zam7:∀ ds m R,ds.length=zk2.length→zj6 ds m R→zF3 (EN R) (zb2 zO2 ds) m:=by
 rintro ds m R hl ⟨ts,ps,z,p,rfl,hn,hz,hp,h⟩
 simp [zF3]
 refine ⟨ts,rfl,hn,?_⟩
 refine ⟨ts.map (·.1),.inr (by simp),hz,?_⟩
 exact ⟨p,zw4 hp,h⟩
theorem zao4 {p:PyData} {k:Bool} {x y:Int×Int} (h:Tm p k x y):ends p=(k,x,y):=by
 have e:=h.eq
 subst e
 cases k with
 | true=>rfl
 | false =>
  cases h.pt rfl
  rfl
theorem zaM2 {p q:PyData} {k l:Bool} {a0 a1 b0 b1:Int×Int} (h:Tm p k a0 a1) (g:Tm q l b0 b1):wdP p q=wd (k && l) a0 a1 b0 b1:=by
 unfold wdP
 rw [zao4 h,zao4 g]
theorem zX0:∀ ds m R,ds.length=zf8.length→zg8 ds m R→zp8 (EN R) (zb2 zw3 ds) m:=by
 rintro ds m R hl ⟨ts,ps,a,b,p,q,k,l,a0,a1,b0,b1,rfl,hn,ha,hb,hp,hq,tp,tq,h⟩
 simp [zp8]
 refine ⟨ts,ps,a,p,rfl,hn,ha,hp,?_⟩
 refine ⟨ts,ps,b,q,rfl,hn,hb,hq,?_⟩
 exact ⟨p,q,k,l,a0,a1,b0,b1,rfl,tp,tq,h⟩
theorem TmAll.at:∀ {ts:List (Str×Bool)} {ps:List PyData} {i:Nat} {p:PyData},TmAll ts ps→ps[i]?=some p→∃ k x y,Tm p k x y
 | t :: ts,q :: ps,0,p,h,e=>by
  cases e
  obtain ⟨x,y,g⟩:=h.1
  exact ⟨_,x,y,g⟩
 | t :: ts,q :: ps,i + 1,p,h,e=>TmAll.at h.2 (by simpa using e)
 | [],[],i,p,_,e=>by simp at e
 | [],_ :: _,_,_,h,_=>h.elim
 | _ :: _,[],_,_,h,_=>h.elim
theorem zbj3 {ns:List Str} {ps:List PyData} (nd:ns.Nodup):∀ z∈ns.zip ps,FN ns ps z.1=z.2:=fun z hz=>by
 obtain ⟨i,hi,e⟩:=List.getElem_of_mem hz
 rw [List.length_zip] at hi
 have h1:i < ns.length:=by omega
 have h2:i < ps.length:=by omega
 rw [List.getElem_zip] at e
 subst e
 unfold FN
 simp only
 rw [List.Nodup.idxOf_getElem nd,List.getD_eq_getElem?_getD,List.getElem?_eq_getElem h2]
 rfl
theorem zay7:∀ ds m R,ds.length=zy2.length→zu1 ds m R→zT1 (EN R) (zb2 zad6 ds) m:=by
 rintro ds m R hl ⟨a,b,rfl,h⟩
 simp [zT1,zY6,zW1]
 refine ⟨fun n d m'=>m'=m∧∃ x y:Int,d=[some (I x),some (I y)]∧n=y.natAbs∧Int.gcd x y=Int.gcd a b,⟨_,rfl,a,b,rfl,rfl,rfl⟩,?_⟩
 rintro n d m' ⟨rfl,x,y,rfl,rfl,hg⟩
 by_cases hy:y=0
 ·subst hy
  rw [Int.gcd_zero_right] at hg
  have e:(if x < 0 then -x else x)=((a.gcd b:Nat):Int):=by rw [← hg]; split <;> omega
  simp [PyData.eqv,PyData.canLay0,PyData.depth]
  rw [e]
  exact h
 ·simp [PyData.eqv,PyData.canLay0,PyData.depth,hy]
  refine ⟨fun d' m''=>m''=m'∧d'=[some (I y),some (I (x.fmod y))],?_,by simp⟩
  rintro d' m'' ⟨rfl,rfl⟩
  exact ⟨_,zaC6 x y hy,rfl,y,x.fmod y,rfl,rfl,by rw [zar5]; exact hg⟩
theorem zak8:∀ ds m R,ds.length=zn7.length→zn8 ds m R→zx5 (EN R) (zb2 zN6 ds) m:=by
 rintro ds m R hl ⟨t,b,rfl,hb,bb,h⟩
 have g0:=zan0 (t:=t) hb
 have gb:Bd 2000 ((t.gcd b:Nat):Int):=by
  have:=Int.gcd_le_natAbs_right t (b:=b) hb
  unfold Bd at *
  omega
 have gl:=gb.log (by decide)
 have gl2:=gb.neg.log (by decide)
 by_cases h0:b < 0
 ·have n0:¬ (0 < b):=by omega
  simp [zx5,zB2,zB4,zu1,h0]
  rw [if_neg n0] at h
  unfold fr at h
  rw [Int.neg_gcd,Int.gcd_neg] at h
  refine ⟨t,b,⟨rfl,rfl⟩,fun _=>hb,Nat.lt_of_lt_of_le (by simpa using gl) (show 2000≤9000 by decide),fun _=>hb,Nat.lt_of_lt_of_le (by simpa using gl) (show 2000≤9000 by decide),by rw [sizeLine_eq]; decide,?_⟩
  rw [show t.fdiv (-((t.gcd b:Nat):Int))=-t / ((t.gcd b:Nat):Int) by rw [← Int.neg_fdiv_neg,Int.neg_neg,Int.fdiv_eq_ediv_of_nonneg _ (by omega)],
   show b.fdiv (-((t.gcd b:Nat):Int))=-b / ((t.gcd b:Nat):Int) by rw [← Int.neg_fdiv_neg,Int.neg_neg,Int.fdiv_eq_ediv_of_nonneg _ (by omega)]]
  exact h
 ·have n0:0 < b:=by omega
  simp [zx5,zB2,zB4,zu1,h0]
  rw [if_pos n0] at h
  unfold fr at h
  refine ⟨t,b,⟨rfl,rfl⟩,fun _=>hb,Nat.lt_of_lt_of_le (by simpa using gl) (show 2000≤9000 by decide),fun _=>hb,Nat.lt_of_lt_of_le (by simpa using gl) (show 2000≤9000 by decide),by rw [sizeLine_eq]; decide,?_⟩
  rw [Int.fdiv_eq_ediv_of_nonneg _ (by omega),Int.fdiv_eq_ediv_of_nonneg _ (by omega)]
  exact h
theorem zaV2:∀ ds m R,ds.length=zU6.length→zO8 ds m R→zat6 (EN R) (zb2 zaE4 ds) m:=by
 rintro ds m R hl ⟨a,b,c,d,rfl,hb,hd,ba,bb,bc,bd,h⟩
 have h1:=Int.mul_pos hb hd
 have k1:=(bb.mul bd).mono (show 1800≤2000 by decide)
 simp [zat6,zn8,atI,ixN,I]
 refine ⟨ba.mulOk bd (by decide),bc.mulOk bb (by decide),bb.mulOk bd (by decide),_,_,⟨rfl,rfl⟩,by omega,k1,?_⟩
 rw [if_pos h1]
 exact h
theorem Kn.get {m m':Mu} {c:Addr} {x:Cel} (h:Kn m m') (hc:m c=some x):m' c=some x:=by rw [h c (by rw [hc]; rfl)]; exact hc
theorem TmAll.of:∀ {ts:List (Str×Bool)} {ps:List PyData} {i:Nat} {t:Str×Bool},TmAll ts ps→ts[i]?=some t→∃ p x y,ps[i]?=some p∧Tm p t.2 x y
 | t :: ts,q :: ps,0,u,h,e=>by
  cases e
  obtain ⟨x,y,g⟩:=h.1
  exact ⟨_,x,y,rfl,g⟩
 | t :: ts,q :: ps,i + 1,u,h,e=>by
  obtain ⟨p,x,y,e2,g⟩:=TmAll.of h.2 (by simpa using e)
  exact ⟨p,x,y,by simpa using e2,g⟩
 | [],[],i,p,_,e=>by simp at e
 | [],_ :: _,_,_,h,_=>h.elim
 | _ :: _,[],_,_,h,_=>h.elim
theorem zN5 {ts:List (Str×Bool)} {ps:List PyData} {z:Str} (ht:TmAll ts ps) (hz:z∈ts.map (·.1)):∃ k x y,ps[(ts.map (·.1)).idxOf z]?=some (FT ts ps z)∧Tm (FT ts ps z) k x y∧ts[(ts.map (·.1)).idxOf z]?=some (z,k)∧(z,k)∈ts:=by
 have hj:(ts.map (·.1)).idxOf z < ts.length:=by
  have:=List.idxOf_lt_length_iff.mpr hz
  simpa using this
 have e0:(ts[(ts.map (·.1)).idxOf z]).1=z:=by
  have:=List.getElem_idxOf (x:=z) (xs:=ts.map (·.1)) (by simpa using hj)
  rw [List.getElem_map] at this
  exact this
 obtain ⟨p,x,y,e1,t1⟩:=ht.of (List.getElem?_eq_getElem hj)
 have e2:FT ts ps z=p:=by
  show ps.getD _ _=p
  rw [List.getD_eq_getElem?_getD,e1]
  rfl
 have e3:ts[(ts.map (·.1)).idxOf z]=(z,(ts[(ts.map (·.1)).idxOf z]).2):=Prod.ext e0 rfl
 exact ⟨(ts[(ts.map (·.1)).idxOf z]).2,x,y,by rw [e2]; exact e1,by rw [e2]; exact t1,by rw [List.getElem?_eq_getElem hj]; exact congrArg some e3,by rw [← e3]; exact List.getElem_mem hj⟩
theorem zah5 {ts:List (Str×Bool)} {ps:List PyData} {e:Str×Bool} {k:Bool} {x y:Int×Int} (h:Tm (FT ts ps e.1) k x y):tmP ts ps e=if e.2 then y else x:=by
 unfold tmP
 rw [zao4 h]
theorem zQ9 {ts:List (Str×Bool)} {ps:List PyData} {e:Str×Bool} (ht:TmAll ts ps) (he:e.1∈ts.map (·.1)):0 < (tmP ts ps e).2∧Bd 40 (tmP ts ps e).1∧Bd 40 (tmP ts ps e).2:=by
 obtain ⟨k,x,y,_,h,_,_⟩:=zN5 ht he
 rw [zah5 h]
 cases e.2
 ·exact ⟨h.px,h.b1,h.b2⟩
 ·exact ⟨h.py,h.b3,h.b4⟩
theorem zbl5 (k:Bool):decide (kd k=Str.ofString "point")=!k:=by cases k <;> decide +kernel
theorem zau2:∀ ds m R,ds.length=zt7.length→zs1 ds m R→zM2 (EN R) (zb2 zV4 ds) m:=by
 rintro ds m R hl ⟨ts,ps,e,rfl,nm,ht,he,h⟩
 have n6:ts.length≤6:=by simpa using nm.2.1
 obtain ⟨k,x,y,e1,h1,e2,e3⟩:=zN5 ht he
 have g1:=zab5 nm.1 e3
 rw [zah5 h1] at h
 simp [zM2]
 simp [zT2]
 refine ⟨ts,ps,e.1,_,rfl,n6,he,e1,?_⟩
 simp [zV5]
 refine ⟨kvT ts,by simpa using zaM1 ts,sz (by simp [kvT]; omega),fun c hc=>?_⟩
 refine ⟨_,zb1,_,g1,?_⟩
 have q:=h _ (Kn.refl.new (x:=.d (zw6 [] (kvT ts))) hc)
 have eq:=h1.eq
 simp [zbl5]
 rw [eq]
 cases k with
 | false =>
  cases h1.pt rfl
  have e4:(if e.2=true then x else x)=x:=by split <;> rfl
  rw [e4] at q
  simpa using q
 | true =>
  cases hb:e.2 with
  | false=>rw [hb] at q; simpa using q
  | true=>rw [hb] at q; simpa using q
theorem zaI1 {x y:Int×Int} {m:Mu} {R:DK} (px:0 < x.2) (py:0 < y.2) (h1:Bd 40 x.1∧Bd 40 x.2) (h2:Bd 40 y.1∧Bd 40 y.2) (h:R (.dat (fr (x.1 * y.2 - y.1 * x.2) (x.2 * y.2))) m):zO8 [.dat (fq x),.dat (fq y)] m R :=
 ⟨x.1,x.2,y.1,y.2,rfl,px,py,h1.1.mono (by decide),h1.2.mono (by decide),h2.1.mono (by decide),h2.2.mono (by decide),h⟩
theorem Bd.part {n:Nat} {g a t:Int} (h:t=g * a) (hg:0 < g) (b:Bd n t):Bd n a:=by
 unfold Bd at *
 have:a.natAbs≤t.natAbs:=by
  rw [h,Int.natAbs_mul]
  exact Nat.le_mul_of_pos_left _ (by omega)
 omega
end K19
namespace K19
open PySem PySem.Spec PyProof.Rows L2 DL K01
theorem zS5 {t b:Int} (hb:0 < b):∃ n d g:Int,fr t b=.tuple [.int n,.int d]∧0 < g∧t=g * n∧b=g * d∧0 < d:=by
 have g0:=zan0 (t:=t) (b:=b) (by omega)
 have d1:((t.gcd b:Nat):Int)∣t:=Int.gcd_dvd_left ..
 have d2:((t.gcd b:Nat):Int)∣b:=Int.gcd_dvd_right ..
 exact ⟨_,_,((t.gcd b:Nat):Int),rfl,g0,(Int.mul_ediv_cancel' d1).symm,(Int.mul_ediv_cancel' d2).symm,(zaV5 g0 d2).mpr hb⟩
theorem zJ2:∀ xs ys:List (Str×Bool),zi2 (xs++ys)=zi2 xs++zi2 ys
 | [],_=>rfl
 | x :: xs,ys=>by
  simp only [List.cons_append,zi2,zJ2 xs ys,List.append_assoc]
theorem zab0:∀ xs:List (Str×Bool),(zi2 xs).length≤2 * xs.length
 | []=>Nat.le_refl _
 | x :: xs=>by
  have:=zab0 xs
  simp only [zi2,List.length_cons,List.length_append]
  split <;> simp <;> omega
theorem zR8:∀ ds m R,ds.length=ze7.length→zi1 ds m R→zn0 (EN R) (zb2 zs8 ds) m:=by
 rintro ds m R hl ⟨ts,rfl,n6,h⟩
 simp [zn0,sz]
 intro c hc
 simp [zw9]
 have key:∀ (todo done:List (Str×Bool)) (o2 o3:Option D) (m':Mu),ts=done++todo→Kn m m'→m' c=some (.l ((zi2 done).map endD)) →
   zk5 (gT 2 (gNs (gN 2) (gNs (gN 3) gN0))) zi5 { nx:=zo8 (EN R),rt:=R } ((todo.map fun t=>PyData.tuple [.str t.1,.str (kd t.2)]).map .dat) [some (.dat (TH ts)),some (.cel c),o2,o3] m':=by
  intro todo
  induction todo with
  | nil =>
   intro done o2 o3 m' e kn hm
   rw [List.append_nil] at e
   subst e
   simp [zk5,zo8]
   exact h c m' hc kn hm
  | cons t todo ih =>
   intro done o2 o3 m' e kn hm
   have ih:=fun o2 o3 m''=>ih (done++[t]) o2 o3 m'' (by rw [e]; simp)
   have dl:done.length < 6:=by
    have:=congrArg List.length e
    simp at this
    omega
   simp only [List.map_cons,zk5]
   generalize hG:zk5 _ zi5 _ ((todo.map _).map .dat)=G at ih ⊢
   simp [zi5,hm,zg9]
   refine ⟨t.2,rfl,?_⟩
   have fin:∀ (fs:List (Str×Bool)),fs.length≤2→zi2 (done++[t])=zi2 done++fs→∀ (b:Addr),m' b=none→∃ xs ys,updM m' b (.l (fs.map endD)) c=some (.l xs)∧updM m' b (.l (fs.map endD)) b=some (.l ys)∧xs.length + ys.length≤sizeLine∧G [some (.dat (TH ts)),some (.cel c),some (.dat (.str t.1)),some (.dat (.str (kd t.2)))] (updM (updM m' b (.l (fs.map endD))) c (.l (xs++ys))):=fun fs f2 ef b hb=>by
    have cb:c≠b:=by rintro rfl; rw [hm] at hb; cases hb
    have le:=zab0 done
    refine ⟨(zi2 done).map endD,fs.map endD,by rw [ze1 cb]; exact hm,zb1,sz (by simp; omega),?_⟩
    rw [← List.map_append,← ef]
    exact ih _ _ _ ((kn.new (kn.none hb)).new hc) zb1
   cases hk:t.2 with
   | true =>
    rw [hk] at fin
    simp [zp7,sz]
    refine ⟨by rw [sizeLine_eq]; decide,by rw [sizeLine_eq]; decide,fun b hb=>?_⟩
    simpa [endD] using fin [(t.1,false),(t.1,true)] (by simp) (by rw [zJ2]; simp [zi2,hk]) b hb
   | false =>
    rw [hk] at fin
    simp [zp7,sz]
    refine ⟨by rw [sizeLine_eq]; decide,fun b hb=>?_⟩
    simpa [endD] using fin [(t.1,false)] (by simp) (by rw [zJ2]; simp [zi2,hk]) b hb
 have:=key ts [] none none (updM m c (.l [])) rfl (Kn.refl.new hc) zb1
 rw [List.map_map] at this
 exact this
theorem zg6:∀ {ts:List (Str×Bool)} {x:Str×Bool},x∈zi2 ts→x.1∈ts.map (·.1)
 | t :: ts,x,h=>by
  simp only [zi2,List.mem_cons,List.mem_append] at h
  rw [List.map_cons]
  rcases h with h | h | h
  ·rw [h]; exact List.mem_cons_self
  ·split at h
   ·simp at h; rw [h]; exact List.mem_cons_self
   ·cases h
  ·exact List.mem_cons_of_mem _ (zg6 h)
theorem zaf0:∀ ds m R,ds.length=zj0.length→zm8 ds m R→zv2 (EN R) (zb2 zE1 ds) m:=by
 rintro ds m R hl ⟨ts,ps,x,y,n,s,rfl,nm,ht,⟨hx,hy,n0,n1,n2⟩,h⟩
 have hx:=zg6 hx
 have hy:=zg6 hy
 obtain ⟨x0,x1,x2⟩:=zQ9 ht hx
 obtain ⟨y0,y1,y2⟩:=zQ9 ht hy
 simp [zv2]
 simp [zH5]
 refine ⟨ts,ps,x,rfl,nm,ht,hx,fun m1 k1=>?_⟩
 refine ⟨ts,ps,y,rfl,nm,ht,hy,fun m2 k2=>?_⟩
 obtain ⟨X,eX⟩:∃ X,X=tmP ts ps x:=⟨_,rfl⟩
 obtain ⟨Y,eY⟩:∃ Y,Y=tmP ts ps y:=⟨_,rfl⟩
 rw [← eX] at x0 x1 x2 h ⊢
 rw [← eY] at y0 y1 y2 h ⊢
 refine zaI1 x0 y0 ⟨x1,x2⟩ ⟨y1,y2⟩ ?_
 have q:=h m2 (k1.trans k2)
 have bt:Bd 81 (X.1 * Y.2 - Y.1 * X.2):=(x1.mul y2).sub (y1.mul x2)
 have bb:Bd 80 (X.2 * Y.2):=x2.mul y2
 have pb:0 < X.2 * Y.2:=Int.mul_pos x0 y0
 obtain ⟨T,eT⟩:∃ T,T=X.1 * Y.2 - Y.1 * X.2:=⟨_,rfl⟩
 obtain ⟨B,eB⟩:∃ B,B=X.2 * Y.2:=⟨_,rfl⟩
 unfold zav2 at q
 rw [← eT] at bt q ⊢
 rw [← eB] at bb pb q ⊢
 obtain ⟨a,d,g,e,g0,e1,e2,d0⟩:=zS5 (t:=T) (b:=B) pb
 have ba:Bd 2000 a:=(Bd.part e1 g0 bt).mono (by decide)
 have bd:Bd 2000 d:=(Bd.part e2 g0 bb).mono (by decide)
 have lt1:(a * n.2 < n.1 * d) ↔ T * n.2 < n.1 * B:=by
  rw [e1,e2,show g * a * n.2=g * (a * n.2) by ac_rfl,show n.1 * (g * d)=g * (n.1 * d) by ac_rfl]
  exact (Int.mul_lt_mul_left g0).symm
 have lt2:(n.1 * d < a * n.2) ↔ n.1 * B < T * n.2:=by
  rw [e1,e2,show g * a * n.2=g * (a * n.2) by ac_rfl,show n.1 * (g * d)=g * (n.1 * d) by ac_rfl]
  exact (Int.mul_lt_mul_left g0).symm
 rw [e]
 rw [zJ5] at q
 simp [zG7]
 cases s with
 | true =>
  right
  refine ⟨rfl,(a,d),n,rfl,ba,bd,n1.mono (by decide),n2.mono (by decide),?_⟩
  have er:decide (a * n.2 < n.1 * d)=(decide ((if T * n.2 < n.1 * B then (-1:Int) else if n.1 * B < T * n.2 then 1 else 0) < 0) || (decide ((if T * n.2 < n.1 * B then (-1:Int) else if n.1 * B < T * n.2 then 1 else 0)=0) && !true)):=by
   by_cases c1:T * n.2 < n.1 * B
   ·rw [decide_eq_true (lt1.mpr c1)]
    simp [c1]
   ·rw [decide_eq_false fun z=>c1 (lt1.mp z)]
    by_cases c2:n.1 * B < T * n.2 <;> simp [c1,c2]
  rw [er]
  exact q
 | false =>
  left
  refine ⟨rfl,n,(a,d),rfl,n1.mono (by decide),n2.mono (by decide),ba,bd,?_⟩
  have er:(!decide (n.1 * d < a * n.2))=(decide ((if T * n.2 < n.1 * B then (-1:Int) else if n.1 * B < T * n.2 then 1 else 0) < 0) || (decide ((if T * n.2 < n.1 * B then (-1:Int) else if n.1 * B < T * n.2 then 1 else 0)=0) && !false)):=by
   by_cases c2:n.1 * B < T * n.2
   ·have c1:¬ T * n.2 < n.1 * B:=by omega
    rw [decide_eq_true (lt2.mpr c2)]
    simp [c1,c2]
   ·rw [decide_eq_false fun z=>c2 (lt2.mp z)]
    by_cases c1:T * n.2 < n.1 * B <;> simp [c1,c2]
  have q2:R (.dat (.bool (!decide (n.1 * d < a * n.2)))) m2:=by
   rw [er]
   exact q
  have e5:decide (n.fst * (a,d).snd < (a,d).fst * n.snd)=decide (n.1 * d < a * n.2):=rfl
  rw [e5]
  cases hd:decide (n.1 * d < a * n.2) with
  | false=>rw [hd] at q2; exact .inl ⟨rfl,q2⟩
  | true=>rw [hd] at q2; exact .inr ⟨rfl,q2⟩
end K19
namespace K19
open PySem PySem.Spec PyProof.Rows L2 DL K01
theorem zac8:∀ ds m R,ds.length=zf4.length→zh8 ds m R→zr1 (EN R) (zb2 zB8 ds) m:=by
 rintro ds m R hl ⟨r,rfl,h⟩
 cases r with
 | may a b ws=>simp [zr1,RowD,PyData.eqv,PyData.canLay0,PyData.depth]; exact h
 | gap x y n s=>simp [zr1,RowD,PyData.eqv,PyData.canLay0,PyData.depth]; exact h
theorem zap5 {ts:List (Str×Bool)} {ps:List PyData} {a b:Str} {m:Mu} {R:DK} (nm:Nm (ts.map (·.1))) (ht:TmAll ts ps) (ha:a∈ts.map (·.1)) (hb:b∈ts.map (·.1)) (h:R (.dat (.str (wdP (FT ts ps a) (FT ts ps b)))) m) :
  zg8 [.dat (TH ts),.dat (.tuple ps),.dat (.str a),.dat (.str b)] m R:=by
 obtain ⟨k,x,y,e1,t1,_,_⟩:=zN5 ht ha
 obtain ⟨l,z,w,e2,t2,_,_⟩:=zN5 ht hb
 rw [zaM2 t1 t2] at h
 exact ⟨ts,ps,a,b,_,_,k,l,x,y,z,w,rfl,by simpa using nm.2.1,ha,hb,e1,e2,t1,t2,h⟩
theorem zav4:∀ ds m R,ds.length=zt0.length→zx2 ds m R→zE5 (EN R) (zb2 zX6 ds) m:=by
 rintro ds m R hl ⟨ts,ps,r,rfl,nm,ht,ok,h⟩
 cases r with
 | may a b ws =>
  obtain ⟨ha,hb,hn,ho⟩:=ok
  simp [zE5]
  refine ⟨.may a b ws,rfl,?_⟩
  refine .inr ⟨rfl,?_⟩
  simp [RowD]
  refine zap5 nm ht ha hb ?_
  exact ⟨ws,rfl,h m Kn.refl⟩
 | gap x y n s =>
  simp [zE5]
  refine ⟨.gap x y n s,rfl,?_⟩
  simp [zT3]
  exact ⟨ts,ps,x,y,n,s,rfl,nm,ht,ok,h⟩
theorem zaE9 (x y:Str×Bool):PyData.eqv (endD x) (endD y)=decide (x=y):=by
 rw [Bool.eq_iff_iff]
 obtain ⟨a,b⟩:=x
 obtain ⟨c,d⟩:=y
 cases b <;> cases d <;> simp [PyData.eqv,PyData.eqvAll]
theorem zaA1 (ws:List Str):PyData.eqv (.tuple (ws.map .str)) (.tuple [])=decide (ws=[]):=by
 cases ws <;> simp [PyData.eqv,PyData.eqvAll]
theorem zal8:∀ ds m R,ds.length=zo0.length→zs5 ds m R→zx4 (EN R) (zb2 zN9 ds) m:=by
 rintro ds m R hl ⟨ts,r,rfl,nm,ok,h⟩
 cases r with
 | may a b ws =>
  obtain ⟨ha,hb,hn,ho⟩:=ok
  have l1:=zaq7 fun z hz=>zaO6 z (ho z hz)
  simp [zx4]
  refine ⟨.may a b ws,rfl,.inr ⟨rfl,?_⟩⟩
  have dd:(PyData.tuple (ws.map .str)).depth≤100:=by
   have:∀ xs:List Str,PyData.depthAll (xs.map .str)≤2:=fun xs=>by
    induction xs with
    | nil=>simp [PyData.depthAll]
    | cons x xs ih=>simp only [List.map_cons,PyData.depthAll,PyData.depth]; omega
   have:=this ws
   simp only [PyData.depth]
   omega
  simp [RowD,sz,zaA1,dd]
  refine ⟨by simpa only [PyData.canLay0] using l1,by simp [PyData.canLay0,PyData.canLayAll0],?_⟩
  exact h
 | gap x y n s =>
  obtain ⟨hx,hy,n0,n1,n2⟩:=ok
  have gx:=zaf4 (nm.2.2 _ (zg6 hx))
  have gy:=zaf4 (nm.2.2 _ (zg6 hy))
  simp [zx4]
  refine ⟨.gap x y n s,rfl,.inl ⟨rfl,?_⟩⟩
  simp [zR0,RowD]
  simp only [zP9,dSeq,dRet,dAnd,dBin,dVar]
  refine ⟨_,rfl,_,rfl,?_⟩
  refine ⟨by simp [PyData.canLay0,PyData.canLayAll0,gx],by simp [PyData.canLay0,PyData.canLayAll0,gy],by simp [PyData.depth,PyData.depthAll],?_⟩
  rw [zaE9]
  simp only [zaw7] at h
  cases c:decide (x=y) with
  | false =>
   rw [c] at h
   simpa using h
  | true =>
   rw [c] at h
   by_cases c1:n.1 < 0
   ·simp [c1] at h ⊢
    exact h
   ·by_cases c2:n.1=0
    ·simp [c2,PyData.eqv,PyData.canLay0,PyData.depth] at h ⊢
     exact h
    ·simp [c1,c2,PyData.eqv,PyData.canLay0,PyData.depth] at h ⊢
     exact h
end K19
namespace K19
open PySem PySem.Spec PyProof.Rows L2 DL K01
theorem zY0:∀ ds m R,ds.length=ze3.length→zg0 ds m R→zr9 (EN R) (zb2 zy0 ds) m:=by
 rintro ds m R hl ⟨t,b,rfl,h0,hb,h⟩
 have g0:=zan0 (t:=t) (b:=b) (by omega)
 have gb:Bd 2000 ((t.gcd b:Nat):Int):=by
  have:=Int.gcd_le_natAbs_right t (b:=b) (by omega)
  unfold Bd at *
  omega
 have gl:=gb.log (by decide)
 simp [zA1,zE2,zB3,zB6,zr9]
 refine ⟨fun n d m'=>m'=m∧∃ x y:Int,d=[some (I t),some (I b),some (I x),some (I y)]∧n=y.natAbs∧0≤y∧0≤x∧Int.gcd x y=Int.gcd t b,⟨_,rfl,(if t < 0 then -t else t),b,rfl,rfl,by omega,by split <;> omega,?_⟩,?_⟩
 ·split
  ·rw [Int.neg_gcd]
  ·rfl
 rintro n d m' ⟨rfl,x,y,rfl,rfl,hy0,hx0,hg⟩
 by_cases hy:y=0
 ·subst hy
  rw [Int.gcd_zero_right] at hg
  have ex:x=((t.gcd b:Nat):Int):=by rw [← hg]; omega
  subst ex
  simp
  refine ⟨fun _=>by omega,Nat.lt_of_lt_of_le (by simpa using gl) (show 2000≤9000 by decide),fun _=>by omega,Nat.lt_of_lt_of_le (by simpa using gl) (show 2000≤9000 by decide),sz (by decide),?_⟩
  rw [Int.fdiv_eq_ediv_of_nonneg _ (by omega),Int.fdiv_eq_ediv_of_nonneg _ (by omega)]
  exact h
 ·have hp:0 < y:=by omega
  simp [hy,hp]
  refine ⟨fun d' m''=>m''=m'∧d'=[some (I t),some (I b),some (I y),some (I (x.fmod y))],?_,by simp⟩
  rintro d' m'' ⟨rfl,rfl⟩
  exact ⟨_,zaC6 x y hy,rfl,y,x.fmod y,rfl,rfl,Int.fmod_nonneg_of_pos _ hp,hy0,by rw [zar5]; exact hg⟩
theorem zae7:∀ ds m R,ds.length=zj5.length→zk1 ds m R→zv0 (EN R) (zb2 zB1 ds) m:=by
 rintro ds m R hl ⟨c,ts,ps,kvs,x,y,rfl,hm,ht,clk,hx,hy,h⟩
 obtain ⟨x0,x1,x2⟩:=zQ9 ht (zg6 hx)
 obtain ⟨y0,y1,y2⟩:=zQ9 ht (zg6 hy)
 have c1:=clk x hx
 have c2:=clk y hy
 obtain ⟨X,eX⟩:∃ X,X=tmP ts ps x:=⟨_,rfl⟩
 obtain ⟨Y,eY⟩:∃ Y,Y=tmP ts ps y:=⟨_,rfl⟩
 rw [← eX] at x1 x2 c1 h
 rw [← eY] at y1 y2 c2 h
 simp only [zv0,dSeq,dSet,zA4,dVar,zb2]
 refine ⟨_,rfl,_,rfl,c,_,[.inr x.1,.inl (if x.2 then 1 else 0)],kvs,_,rfl,rfl,rfl,hm,c1,?_⟩
 simp only [zH2,dSeq,dSet,zA4,dVar]
 refine ⟨_,rfl,_,rfl,c,_,[.inr y.1,.inl (if y.2 then 1 else 0)],kvs,_,rfl,rfl,rfl,hm,c2,?_⟩
 simp [zH9]
 refine ⟨x1.mulOk y2 (by decide),y1.mulOk x2 (by decide),?_⟩
 simp [zH6]
 simpa [stn,sgn] using h
theorem zad3:∀ ds m R,ds.length=zf6.length→zf7 ds m R→zv5 (EN R) (zb2 zC2 ds) m:=by
 rintro ds m R hl ⟨x,y,s,p,q,rfl,x0,y0,hs,hpq,b1,b2,b3,b4,h⟩
 have bb:Bd 2000 (x.2 * y.2):=(b2.mul b4).mono (by omega)
 have ms:IntMulOk s y.1:=by rcases hs with rfl | rfl <;> exact mulL zah9
 have b3':Bd q (s * y.1):=by
  rcases hs with rfl | rfl
  ·simpa using b3
  ·unfold Bd at b3 ⊢
   rw [Int.natAbs_mul]
   simpa using b3
 simp [zv5]
 refine ⟨b1.mulOk b4 (by omega),ms,b3'.mulOk b2 (by omega),?_⟩
 simp [zG8]
 exact ⟨b2.mulOk b4 (by omega),_,_,rfl,Int.mul_pos x0 y0,bb,h⟩
theorem zaK5:∀ t∈([-2,-1,0,1,2,3,4]:List Int),∀ b∈([1,2,3]:List Int),0 < b / (Int.gcd t b:Int)∧Int.gcd (t / (Int.gcd t b:Int)) (b / (Int.gcd t b:Int))=1∧(t / (Int.gcd t b:Int)).natAbs < 2 ^ 20∧(b / (Int.gcd t b:Int)).natAbs < 2 ^ 20:=by decide +kernel
theorem zai1:∀ ds m R,ds.length=zl2.length→zi7 ds m R→zz3 (EN R) (zb2 zI4 ds) m:=by
 rintro ds m R hl ⟨a,L,rfl,hL,hT,h⟩
 have hf:=Fed.refl hT
 simp [zz3]
 refine zk4 (by decide) (by decide) hL (by decide) hf fun r1 m1 r10 r11 hf1=>?_
 simp [zM7,sz]
 refine zk4 (by decide) (by decide) hL (by decide) hf1 fun r2 m2 r20 r21 hf2=>?_
 obtain ⟨p,e,b,rfl,hb⟩:=zaY0 (xs:=[.int 1,.int 1,.int 2,.int 3]) (P:=fun p=>∃ i:Int,p=.int i∧i∈([1,2,3]:List Int)) (r:=r2) (by simp) r20 r21
 refine ⟨_,e,?_⟩
 have ht:r1 - 2∈([-2,-1,0,1,2,3,4]:List Int):=by
  obtain rfl | rfl | rfl | rfl | rfl | rfl | rfl:r1=0∨r1=1∨r1=2∨r1=3∨r1=4∨r1=5∨r1=6:=by omega
  all_goals decide
 obtain ⟨f1,f2,f3,f4⟩:=zaK5 _ ht b hb
 have b0:0 < b∧b≤3:=by simp at hb; omega
 simp [zJ3]
 refine ⟨r1 - 2,b,rfl,b0.1,(bds (by omega) (by omega)).mono (by decide),?_⟩
 exact h (_,_) m2 f1 f2 f3 f4 (hf2.mono (by decide))
end K19
namespace K19
open PySem PySem.Spec PyProof.Rows L2 DL K01
theorem zaF3 {g v:Int} (hg:0 < g):sgn (g * v)=sgn v:=by
 unfold sgn
 have h1:0 < g * v ↔ 0 < v:=by
  constructor
  ·intro h
   by_cases c:0 < v
   ·exact c
   ·have:=Int.mul_nonneg (Int.le_of_lt hg) (show 0≤-v by omega)
    rw [Int.mul_neg] at this
    omega
  ·exact fun h=>Int.mul_pos hg h
 have h2:g * v < 0 ↔ v < 0:=by
  constructor
  ·intro h
   by_cases c:v < 0
   ·exact c
   ·have:=Int.mul_nonneg (Int.le_of_lt hg) (show 0≤v by omega)
    omega
  ·intro h
   have:=Int.mul_pos hg (show 0 < -v by omega)
   rw [Int.mul_neg] at this
   omega
 simp [h1,h2]
theorem zaU0 (v:Int) (s:Bool):(decide (sgn v < 0) || (decide (sgn v=0) && !s))=(decide (v < 0) || (decide (v=0) && !s)):=by
 unfold sgn
 by_cases c1:0 < v
 ·have c2:¬ v < 0:=by omega
  have c3:¬ v=0:=by omega
  simp [c1,c2,c3]
 ·by_cases c2:v < 0
  ·simp [c1,c2]
  ·have c3:v=0:=by omega
   simp [c3]
theorem zT8:∀ ds m R,ds.length=zg4.length→zj1 ds m R→zq6 (EN R) (zb2 zw0 ds) m:=by
 rintro ds m R hl ⟨c,ts,ps,kvs,x,y,n,s,rfl,hm,ht,clk,⟨hx,hy,n0,n1,n2⟩,h⟩
 obtain ⟨x0,x1,x2⟩:=zQ9 ht (zg6 hx)
 obtain ⟨y0,y1,y2⟩:=zQ9 ht (zg6 hy)
 have c1:=clk x hx
 have c2:=clk y hy
 obtain ⟨X,eX⟩:∃ X,X=tmP ts ps x:=⟨_,rfl⟩
 obtain ⟨Y,eY⟩:∃ Y,Y=tmP ts ps y:=⟨_,rfl⟩
 rw [← eX] at x0 x1 x2 c1 h
 rw [← eY] at y0 y1 y2 c2 h
 have pb:0 < X.2 * Y.2:=Int.mul_pos x0 y0
 have et:X.1 * Y.2 + -1 * Y.1 * X.2=X.1 * Y.2 - Y.1 * X.2:=by
  rw [Int.neg_mul,Int.neg_mul,Int.one_mul]
  omega
 have bt:Bd 81 (X.1 * Y.2 - Y.1 * X.2):=(x1.mul y2).sub (y1.mul x2)
 have bb:Bd 80 (X.2 * Y.2):=x2.mul y2
 simp [zq6,RowD]
 simp only [zA0,dSeq,dSet,zc2,za4,dNil,zA4,dVar,dNeg,dCon]
 refine ⟨_,rfl,_,rfl,c,_,[.inr x.1,.inl (if x.2 then 1 else 0)],kvs,_,rfl,rfl,rfl,hm,c1,?_⟩
 refine ⟨_,rfl,_,rfl,c,_,[.inr y.1,.inl (if y.2 then 1 else 0)],kvs,_,rfl,rfl,rfl,hm,c2,?_⟩
 refine ⟨1,rfl,rfl,X,Y,-1,40,40,rfl,x0,y0,.inr rfl,by decide,x1,x2,y1,y2,?_⟩
 rw [et]
 obtain ⟨a,d,g,ef,g0,e1,e2,d0⟩:=zS5 (t:=X.1 * Y.2 - Y.1 * X.2) pb
 rw [ef]
 have ba:Bd 81 a:=Bd.part e1 g0 bt
 have bd:Bd 80 d:=Bd.part e2 g0 bb
 have es:(X.1 * Y.2 - Y.1 * X.2) * n.2 - n.1 * (X.2 * Y.2)=g * (a * n.2 - n.1 * d):=by
  rw [e1,e2,Int.mul_sub,Int.mul_assoc]
  congr 1
  rw [← Int.mul_assoc,Int.mul_comm n.1 g,Int.mul_assoc]
 have eg:zav2 X Y n s=(decide (a * n.2 - n.1 * d < 0) || (decide (a * n.2 - n.1 * d=0) && !s)):=by
  have e:stn (X.1 * Y.2 - Y.1 * X.2,X.2 * Y.2) n=sgn (a * n.2 - n.1 * d):=by
   show sgn ((X.1 * Y.2 - Y.1 * X.2) * n.2 - n.1 * (X.2 * Y.2))=_
   rw [es,zaF3 g0]
  unfold zav2
  rw [e]
  exact zaU0 _ _
 rw [eg] at h
 simp [zA7]
 refine ⟨ba.mulOk n2 (by decide),n1.mulOk bd (by decide),?_⟩
 by_cases q1:a * n.2 - n.1 * d < 0
 ·simp [zi0,q1]
  simpa [q1] using h
 ·by_cases q2:a * n.2 - n.1 * d=0
  ·cases s
   ·simp [zi0,q2,PyData.eqv,PyData.canLay0,PyData.depth]
    simpa [q2] using h
   ·simp [zi0,q2,PyData.eqv,PyData.canLay0,PyData.depth]
    simpa [q2] using h
  ·simp [zi0,q1,q2,PyData.eqv,PyData.canLay0,PyData.depth]
   simpa [q1,q2] using h
end K19
namespace K19
open PySem PySem.Spec PyProof.Rows L2 DL K01
def SD:List (Key×PyData):=(WT.take 7).map fun x=>(.inr x.1,.tuple (x.2.map .int))
theorem zaM4:∀ z∈SEV,valP SD (.inr z)=some (.tuple ((w4 z).map .int)):=by
 intro z hz
 simp only [SEV,List.mem_cons,List.not_mem_nil,or_false] at hz
 rcases hz with rfl | rfl | rfl | rfl | rfl | rfl | rfl <;> rfl
theorem zbh0:∀ z∈ORD,z ∉ SEV→valP SD (.inr z)=none:=by
 intro z hz
 simp only [ORD,List.mem_cons,List.not_mem_nil,or_false] at hz
 rcases hz with rfl | rfl | rfl | rfl | rfl | rfl | rfl | rfl | rfl | rfl | rfl | rfl | rfl <;> first | (intro _; rfl) | (intro h; exact absurd (by decide +kernel) h)
theorem zaZ9:∀ z∈ORD,z ∉ SEV→tn z∈SEV:=by decide +kernel
theorem zbh4 (k l:Bool):∀ z∈WS k l,tn z∈WS l k:=by cases k <;> cases l <;> decide +kernel
theorem zbk1 (k l:Bool):∀ z∈WS k l,z ∉ SEV→∀ x < (cnt k).toNat,∀ y < (cnt l).toNat,0 - sg l k (tn z) y x=sg k l z x y:=by cases k <;> cases l <;> decide +kernel
theorem zbi2 (k l:Bool):∀ z∈WS k l,z∈SEV→∀ x < (cnt k).toNat,∀ y < (cnt l).toNat,(w4 z)[if k && l then 2 * x + y else 3 * (x + y)]?=some (sg k l z x y):=by cases k <;> cases l <;> decide +kernel
theorem zbm9 {k l:Bool} {z:Str} (hz:z∈WS k l) (hs:z∈SEV) {x y:Nat} (hx:x < (cnt k).toNat) (hy:y < (cnt l).toNat):atI ((w4 z).map PyData.int) (if k && l then 2 * (x:Int) + y else 3 * ((x:Int) + y))=some (PyData.int (sg k l z x y)):=by
 have h:=zbi2 k l z hz hs x hx y hy
 have e:(if k && l then 2 * (x:Int) + y else 3 * ((x:Int) + y))=((if k && l then 2 * x + y else 3 * (x + y):Nat):Int):=by
  cases (k && l) <;> simp
 rw [e]
 exact zw4 (by rw [List.getElem?_map,h]; rfl)
theorem zaQ2 (k l:Bool):PyData.eqv (kds k l) (.tuple [.str "stretch",.str "stretch"])=(k && l):=by
 cases k <;> cases l <;> decide +kernel
theorem zaA2 (k l:Bool):(kds k l).canLay0=true:=by
 cases k <;> cases l <;> decide +kernel
theorem zaQ0 (k l:Bool):(kds k l).depth≤100:=by cases k <;> cases l <;> decide +kernel
theorem zK1 (a b:List (Key×PyData)):(zw6 a b).length≤a.length + b.length:=by
 unfold zw6
 induction b generalizing a with
 | nil=>simp
 | cons x b ih =>
  have:=ih (putP a x.1 x.2)
  have q:=zK5 a x.1 x.2
  simp only [List.foldl_cons,List.length_cons]
  omega
theorem zC7 (j:Nat):∀ ds m R,ds.length=zd4.length→zd1 (j + 1) ds m R→zl6 j (EN R) (zb2 zo1 ds) m:=by
 rintro ds m R hl ⟨k,l,z,x,y,rfl,hz,hs,x0,x1,y0,y1,h⟩
 obtain ⟨x,rfl⟩:∃ n:Nat,x=n:=⟨x.toNat,by omega⟩
 obtain ⟨y,rfl⟩:∃ n:Nat,y=n:=⟨y.toNat,by omega⟩
 have hx:x < (cnt k).toNat:=by omega
 have hy:y < (cnt l).toNat:=by omega
 simp [zl6]
 intro p hp
 simp [zL5,sz,zb1]
 intro q hq
 have pq:p≠q:=by rintro rfl; rw [zb1] at hq; cases hq
 have hq':m q=none:=by
  rw [ze1 (Ne.symm pq),ze1 (Ne.symm pq)] at hq
  exact hq
 refine ⟨pq,?_⟩
 rw [ze1 pq,ze1 pq,zb1]
 refine ⟨_,rfl,sz (Nat.le_trans (Nat.add_le_add (zK1 _ _) (zK1 _ _)) (by simp)),?_⟩
 generalize hM:updM (updM (updM (updM (updM m p (Cel.d [])) p _) q _) q _) p (Cel.d (zw6 _ _))=M
 have kM:Kn m M:=by
  rw [← hM]
  exact ((((Kn.refl.new hp).new hp).new hq').new hq').new hp
 have mp:M p=some (.d SD):=by
  rw [← hM,zb1]
  rfl
 simp [zK9,mp]
 by_cases c:z∈SEV
 ·left
  refine ⟨by rw [zaM4 z c]; rfl,?_⟩
  simp [zK4,mp,zaM4 z c,zaQ2,zaA2]
  refine ⟨sz (by decide),zaA2 true true,zaQ0 k l,?_⟩
  have at':=zbm9 hz c hx hy
  cases ck:(k && l) with
  | true =>
   rw [ck] at at'
   right
   exact ⟨by simpa using ck,mulL zah9,_,by simpa using at',h M kM⟩
  | false =>
   rw [ck] at at'
   left
   refine ⟨by cases k <;> cases l <;> simp_all,mulL zah9,_,by simpa using at',h M kM⟩
 ·right
  refine ⟨zbh0 z (zaq8 k l z hz) c,?_⟩
  have zo:=zaq8 k l z hz
  refine ⟨sz (by decide),z,rfl,zo,?_⟩
  obtain ⟨i,rfl⟩:∃ i,j=i + 1:=⟨j - 1,by rcases hs with q | q; exact absurd q c; omega⟩
  refine ⟨l,k,tn z,y,x,rfl,zbh4 k l z hz,.inl (zaZ9 z zo c),y0,y1,x0,x1,fun m' kn=>?_⟩
  have:=zbk1 k l z hz c x hx y hy
  have q:=h m' (kM.trans kn)
  rw [← this] at q
  simpa using q
theorem zaf2:∀ ds m R,ds.length=zd4.length→zd1 1 ds m R→zl6 0 (EN R) (zb2 zo1 ds) m:=zC7 0
theorem zad9:∀ ds m R,ds.length=zd4.length→zd1 2 ds m R→zl6 1 (EN R) (zb2 zo1 ds) m:=zC7 1
theorem zae5:∀ ds m R,ds.length=zd4.length→zd1 3 ds m R→zl6 2 (EN R) (zb2 zo1 ds) m:=zC7 2
theorem zbi3 (k l:Bool):∀ z∈WS k l,WB k l z=((if k then [0,1] else [0]:List Int).map fun x=>(if l then [0,1] else [0]:List Int).map fun y=>sg k l z x y).flatten:=by cases k <;> cases l <;> decide +kernel
theorem zac3 {k l:Bool} {z:Str} {x y:Int} {m:Mu} {R:DK} (hz:z∈WS k l) (x0:0≤x) (x1:x < cnt k) (y0:0≤y) (y1:y < cnt l) (h:∀ m',Kn m m'→R (I (sg k l z x y)) m'):zd1 3 [.dat (kds k l),.dat (.str z),I x,I y] m R :=
 ⟨k,l,z,x,y,rfl,hz,.inr (by decide),x0,x1,y0,y1,h⟩
theorem zaQ6 {k l:Bool} {z:Str} {x:Int} {m:Mu} {o:Option D} {Q:List PyData→Mu→Prop} (hz:z∈WS k l) (x0:0≤x) (x1:x < cnt k) (h:∀ m',Kn m m'→Q (((if l then [0,1] else [0]:List Int).map fun y=>sg k l z x y).map .int) m') :
  zp7 (gN 0) zK2 (zc2 4 (zd1 3) (za4 (dVar 1) (za4 (dVar 2) (za4 (dVar 3) (za4 (dVar 0) dNil))))) (((if l then [0,1] else [0]:List Int).map .int).map .dat) [] [o,some (.dat (kds k l)),some (.dat (.str z)),some (I x)] m Q:=by
 have s0:0 < sizeLine:=by rw [sizeLine_eq]; decide
 have s1:1 < sizeLine:=by rw [sizeLine_eq]; decide
 cases l with
 | true =>
  simp [zp7]
  refine zac3 hz x0 x1 (by decide) (by decide) fun m1 k1=>?_
  simp [s0]
  refine zac3 hz x0 x1 (by decide) (by decide) fun m2 k2=>?_
  simp [s1]
  simpa using h m2 (k1.trans k2)
 | false =>
  simp [zp7]
  refine zac3 hz x0 x1 (by decide) (by decide) fun m1 k1=>?_
  simp [s0]
  simpa using h m1 k1
theorem zN0:∀ ds m R,ds.length=zd8.length→zg7 ds m R→zl0 (EN R) (zb2 zr3 ds) m:=by
 rintro ds m R hl ⟨k,l,z,rfl,hz,h⟩
 simp [zl0,sz]
 intro c hc
 simp only [zv3,dSeq,dFor,zr6,zc2,za4,dNil,dVar,dBin,aIx,dCon]
 refine ⟨_,rfl,_,at0 _ _,rfl,k,rfl,.inl ⟨_,rfl,?_⟩⟩
 have turn:∀ (x:Int) (is:List Int) (E:Ends2) (m':Mu),0≤x→x < cnt k→is.length≤2→m' c=some (.l (is.map .int))→(∀ m'',Kn m' (fun a=>if a=c then m' a else m'' a)→m'' c=some (.l ((is++((if l then [0,1] else [0]:List Int).map fun y=>sg k l z x y)).map .int))→E.nx [some (.dat (kds k l)),some (.dat (.str z)),some (.cel c),some (I x)] m'') →
   zm3 E [some (.dat (kds k l)),some (.dat (.str z)),some (.cel c),some (I x)] m':=fun x is E m' x0 x1 i2 hm' go=>by
  simp only [zm3,dSeq,zaf9,dExt,dLCC,zr6,zc2,za4,dNil,dVar,dBin,aIx,dCon,zg9]
  refine ⟨_,rfl,c,rfl,⟨_,hm'⟩,_,rfl,_,at1 _ _ _,rfl,l,rfl,.inl ⟨_,rfl,?_⟩⟩
  refine zaQ6 hz x0 x1 fun m1 k1=>?_
  intro b hb
  have hm1:=k1.get hm'
  have cb:c≠b:=by rintro rfl; rw [hm1] at hb; cases hb
  refine ⟨_,_,b,rfl,by rw [ze1 cb]; exact hm1,zb1,sz ?_,?_⟩
  ·cases l <;> simp <;> omega
  ·refine go _ (fun a ha=>?_) (by rw [zb1]; simp)
   by_cases q:a=c
   ·simp [q]
   ·simp only [q,if_false]
    rw [ze1 q,ze1 (by rintro rfl; rw [k1.none hb] at ha; cases ha),k1 a ha]
 have KN:∀ {m1 m2:Mu},Kn m m1→Kn m1 (fun a=>if a=c then m1 a else m2 a)→Kn m m2:=fun h1 h2 a ha=>by
  have ac:a≠c:=by rintro rfl; rw [hc] at ha; cases ha
  have q:=h2 a (by rw [h1 a ha]; exact ha)
  simp only [ac,if_false] at q
  rw [q,h1 a ha]
 have wb:=zbi3 k l z hz
 cases k with
 | true =>
  simp [zk5]
  refine turn 0 [] _ _ (by decide) (by decide) (by decide) zb1 fun m1 k1 h1=>?_
  simp
  refine turn 1 _ _ _ (by decide) (by decide) (by cases l <;> simp) h1 fun m2 k2 h2=>?_
  simp [zm9]
  refine ⟨_,h2,?_⟩
  have q:=h m2 (KN (KN (Kn.refl.new hc) k1) k2)
  rw [wb] at q
  simpa using q
 | false =>
  simp [zk5]
  refine turn 0 [] _ _ (by decide) (by decide) (by decide) zb1 fun m1 k1 h1=>?_
  simp [zm9]
  refine ⟨_,h1,?_⟩
  have q:=h m1 (KN (Kn.refl.new hc) k1)
  rw [wb] at q
  simpa using q
end K19
namespace K19
open PySem PySem.Spec PyProof.Rows L2 DL K01
theorem zaL4 {x y:Int×Int} (gx:Int.gcd x.1 x.2=1) (gy:Int.gcd y.1 y.2=1) (px:0 < x.2) (py:0 < y.2) (h:x.1 * y.2=y.1 * x.2):x=y:=by
 have hn:x.1.natAbs * y.2.natAbs=y.1.natAbs * x.2.natAbs:=by rw [← Int.natAbs_mul,← Int.natAbs_mul,h]
 have d1:x.2.natAbs∣y.2.natAbs:=by
  refine Nat.Coprime.dvd_of_dvd_mul_left (k:=x.2.natAbs) (m:=x.1.natAbs) (n:=y.2.natAbs) ?_ ⟨y.1.natAbs,by rw [hn,Nat.mul_comm]⟩
  rw [Nat.Coprime,Nat.gcd_comm]; exact gx
 have d2:y.2.natAbs∣x.2.natAbs:=by
  refine Nat.Coprime.dvd_of_dvd_mul_left (k:=y.2.natAbs) (m:=y.1.natAbs) (n:=x.2.natAbs) ?_ ⟨x.1.natAbs,by rw [← hn,Nat.mul_comm]⟩
  rw [Nat.Coprime,Nat.gcd_comm]; exact gy
 have e2:x.2=y.2:=by
  have:=Nat.dvd_antisymm d1 d2
  omega
 have e1:x.1=y.1:=by
  rw [e2] at h
  exact Int.eq_of_mul_eq_mul_right (by omega) h
 exact Prod.ext e1 e2
theorem zaY6 (x y:Int×Int):PyData.eqv (fq x) (fq y)=decide (x=y):=by
 rw [Bool.eq_iff_iff]
 obtain ⟨a,b⟩:=x
 obtain ⟨c,d⟩:=y
 simp [PyData.eqv,PyData.eqvAll]
theorem zat3 {a:Addr} {b L:Int} {m0 m:Mu} {R:DK} (hL:L≤8000000) (hb:b≤100000) (hf:Fed b L m0 m a) (h:∀ (x:Int×Int) m',0 < x.2→Int.gcd x.1 x.2=1→Bd 20 x.1→Bd 20 x.2→Fed (b + 2) L m0 m' a→(∀ c v,c≠a→m c=some v→m' c=some v)→R (.dat (fq x)) m'):zi7 [.cel a] m R:=by
 refine ⟨a,L + b,rfl,by omega,hf.1,fun x m' q0 q1 q2 q3 q4=>h x m' q0 q1 q2 q3 (hf.trans q4) fun c v hc hv=>?_⟩
 rw [q4.2 c hc (by rw [hv]; rfl)]
 exact hv
theorem zV0:∀ ds m R,ds.length=zg1.length→zj4 ds m R→zq0 (EN R) (zb2 zw1 ds) m:=by
 rintro ds m R hl ⟨a,ts,L,rfl,nm,hL,hT,h⟩
 have n6:ts.length≤6:=by simpa using nm.2.1
 have hf0:=Fed.refl hT
 simp [zq0,sz]
 intro c hc
 obtain ⟨ca,cn⟩:=hf0.new hc
 simp [zA8]
 have key:∀ (todo done:List (Str×Bool)) (ps:List PyData) (o3 o4 o5 o6:Option D) (m':Mu),ts=done++todo→Fed (4 * done.length) L m m' a→m' c=some (.l ps)→TmAll done ps →
   zk5 (gT 2 (gNs (gN 3) (gNs (gN 4) gN0))) zk0 { nx:=zk9 (EN R),rt:=R } ((todo.map fun t=>PyData.tuple [.str t.1,.str (kd t.2)]).map .dat) [some (.cel a),some (.dat (TH ts)),some (.cel c),o3,o4,o5,o6] m':=by
  intro todo
  induction todo with
  | nil =>
   intro done ps o3 o4 o5 o6 m' e hf hm ht
   rw [List.append_nil] at e
   subst e
   simp [zk5,zk9,hm]
   exact h ps m' ht (hf.mono (by omega))
  | cons t todo ih =>
   intro done ps o3 o4 o5 o6 m' e hf hm ht
   have ih:=fun ps o3 o4 o5 o6 m''=>ih (done++[t]) ps o3 o4 o5 o6 m'' (by rw [e]; simp)
   have dl:done.length < 6:=by
    have:=congrArg List.length e
    simp at this
    omega
   have pl:=ht.len
   simp only [List.map_cons,zk5]
   generalize hG:zk5 _ zk0 _ ((todo.map _).map .dat)=G at ih ⊢
   simp [zk0]
   refine zat3 hL (by omega) hf fun x m1 x0 x1 x2 x3 hf1 keep1=>?_
   simp [zu2]
   refine zat3 hL (by omega) hf1 fun y m2 y0 y1 y2 y3 hf2 keep2=>?_
   have hm2:=keep2 c _ ca (keep1 c _ ca hm)
   have last:∀ (u v:Int×Int),0 < u.2→0 < v.2→u.1 * v.2 < v.1 * u.2→Bd 40 u.1→Bd 40 u.2→Bd 40 v.1→Bd 40 v.2→zl3 { nx:=G,rt:=R,bk:=zk9 (EN R),ct:=G } [some (.cel a),some (.dat (TH ts)),some (.cel c),some (.dat (.str t.1)),some (.dat (.str (kd t.2))),some (.dat (fq u)),some (.dat (fq v))] m2:=fun u v u0 v0 lt b1 b2 b3 b4=>by
    have go:∀ p,Tm p t.2 u (if t.2 then v else u)→∃ xs,m2 c=some (.l xs)∧xs.length < sizeLine∧G [some (.cel a),some (.dat (TH ts)),some (.cel c),some (.dat (.str t.1)),some (.dat (.str (kd t.2))),some (.dat (fq u)),some (.dat (fq v))] (updM m2 c (.l (xs++[p]))):=fun p hp =>
     ⟨ps,hm2,Nat.lt_of_lt_of_le (show ps.length < 40 by omega) (sz (by decide)),ih (ps++[p]) _ _ _ _ _ ((hf2.upd ca cn).mono (by simp; omega)) zb1 (ht.snoc ⟨_,_,hp⟩)⟩
    simp [zl3,hm2]
    cases hk:t.2 with
    | true =>
     rw [hk] at go
     have:=go (.tuple [fq u,fq v]) ⟨rfl,u0,v0,fun _=>lt,(fun q=>by cases q),b1,b2,b3,b4⟩
     simp [hm2] at this
     simp [kd]
     exact .inl ⟨by decide +kernel,sz (by decide),by simpa [kd] using this⟩
    | false =>
     rw [hk] at go
     have:=go (fq u) ⟨rfl,u0,u0,(fun q=>by cases q),(fun _=>rfl),b1,b2,b1,b2⟩
     simp [hm2] at this
     simpa [kd] using this
   have x2':Bd 40 x.1:=x2.mono (by decide)
   have x3':Bd 40 x.2:=x3.mono (by decide)
   have y2':Bd 40 y.1:=y2.mono (by decide)
   have y3':Bd 40 y.2:=y3.mono (by decide)
   simp [zu3,PyData.canLay0,PyData.canLayAll0,PyData.depth,PyData.depthAll]
   rw [show PyData.eqv (.tuple [.int x.1,.int x.2]) (.tuple [.int y.1,.int y.2])=decide (x=y) from zaY6 x y]
   by_cases c1:x=y
   ·refine .inr ⟨by simpa using c1,?_⟩
    have b5:Bd 40 (x.1 + x.2):=(x2.add x3).mono (by decide)
    have lt:x.1 * x.2 < (x.1 + x.2) * x.2:=by
     rw [Int.add_mul]
     have:=Int.mul_pos x0 x0
     omega
    simp [zm0]
    refine ⟨sz (by decide),b5.mulOk x3' (by decide),x2'.mulOk x3' (by decide),?_⟩
    refine .inl ⟨by omega,?_⟩
    exact last x (x.1 + x.2,x.2) x0 x0 lt x2' x3' b5 x3'
   ·refine .inl ⟨by simpa using c1,?_⟩
    have ne:x.1 * y.2≠y.1 * x.2:=fun q=>c1 (zaL4 x1 y1 x0 y0 q)
    simp [zm0]
    refine ⟨y2'.mulOk x3' (by decide),x2'.mulOk y3' (by decide),?_⟩
    by_cases c2:y.1 * x.2 < x.1 * y.2
    ·refine .inr ⟨c2,_,_,⟨rfl,rfl⟩,?_⟩
     exact last y x y0 x0 c2 y2' y3' x2' x3'
    ·refine .inl ⟨by omega,?_⟩
     exact last x y x0 y0 (by omega) x2' x3' y2' y3'
 have:=key ts [] [] none none none none (updM m c (.l [])) rfl (by simpa using hf0.upd ca cn) zb1 trivial
 rw [List.map_map] at this
 exact this
end K19
namespace K19
open PySem PySem.Spec PyProof.Rows L2 DL K01
abbrev ek (x:Str×Bool):List Key:=[.inr x.1,.inl (if x.2 then 1 else 0)]
theorem zaD2 {x y:Str×Bool}:ek x=ek y ↔ x=y:=by
 obtain ⟨a,b⟩:=x
 obtain ⟨c,d⟩:=y
 cases b <;> cases d <;> simp [ek]
theorem zae0:∀ ds m R,ds.length=zi8.length→zm7 ds m R→zu9 (EN R) (zb2 zE4 ds) m:=by
 rintro ds m R hl ⟨ts,ps,rfl,nm,ht,h⟩
 have n6:ts.length≤6:=by simpa using nm.2.1
 have pl:=ht.len
 simp [zu9]
 intro c hc
 simp only [zG5,dSeq,dFor,zaF8,dVar]
 refine ⟨_,rfl,_,rfl,_,_,rfl,rfl,?_⟩
 have key:∀ (todo done:List (Str×Bool)) (tps dps:List PyData) (kvs:List (List Key×PyData)) (o3 o4 o5:Option D) (m':Mu),ts=done++todo→ps=dps++tps→dps.length=done.length→TmAll todo tps→Kn m m'→m' c=some (.t kvs)→kvs.length≤2 * done.length→(∀ x∈zi2 done,valP kvs (ek x)=some (fq (tmP ts ps x))) →
   zk5 (gT 2 (gNs (gN 3) (gNs (gN 4) gN0))) zn1 { nx:=zw5 (EN R),rt:=R } (((todo.map fun t=>PyData.tuple [.str t.1,.str (kd t.2)]).zip tps).map fun z=>.dat (.tuple [z.1,z.2])) [some (.dat (TH ts)),some (.dat (.tuple ps)),some (.cel c),o3,o4,o5] m':=by
  intro todo
  induction todo with
  | nil =>
   intro done tps dps kvs o3 o4 o5 m' e1 e2 e3 tt kn hm kl ck
   rw [List.append_nil] at e1
   subst e1
   simp [zk5,zw5]
   exact h c m' kvs hc kn hm ck
  | cons t todo ih =>
   intro done tps dps kvs o3 o4 o5 m' e1 e2 e3 tt kn hm kl ck
   cases tps with
   | nil=>exact tt.elim
   | cons p tps =>
    obtain ⟨⟨x,y,tm⟩,tt⟩:=tt
    have ih:=fun kvs o3 o4 o5 m''=>ih (done++[t]) tps (dps++[p]) kvs o3 o4 o5 m'' (by rw [e1]; simp) (by rw [e2]; simp) (by simp [e3]) tt
    have dl:done.length < 6:=by
     have:=congrArg List.length e1
     simp at this
     omega
    have fp:FT ts ps t.1=p:=by
     refine zbj3 nm.1 (t.1,p) ?_
     rw [e1,e2,List.map_append,List.zip_append (by simp [e3])]
     simp
    have nin:∀ b,(t.1,b) ∉ zi2 done:=fun b hb=>by
     have q:=zg6 hb
     have nd:=nm.1
     rw [e1,List.map_append,List.nodup_append] at nd
     exact nd.2.2 t.1 q t.1 (by simp) rfl
    have tp:∀ b:Bool,tmP ts ps (t.1,b)=if b then y else x:=fun b=>zah5 (e:=(t.1,b)) (by rw [fp]; exact tm)
    simp only [List.map_cons,List.zip_cons_cons,zk5]
    generalize hG:zk5 _ zn1 _ (((todo.map _).zip tps).map _)=G at ih ⊢
    simp [zn1]
    refine ⟨t.2,rfl,?_⟩
    have pe:=tm.eq
    have zl:∀ n:Nat,n≤20→n < sizeLine:=fun n hn=>Nat.lt_of_lt_of_le (show n < 40 by omega) (sz (by decide))
    cases hk:t.2 with
    | false =>
     rw [hk] at pe
     simp only [Bool.false_eq_true,if_false] at pe
     subst pe
     simp [zk5,zs9,hk,kd,hm]
     refine .inl ⟨by decide +kernel,zl _ (by omega),by rw [sizeLine_eq]; decide,?_⟩
     refine ih (putP kvs (ek (t.1,false)) (fq x)) _ _ _ _ (kn.new hc) zb1 ?_ fun z hz=>?_
     ·have:=zK5 kvs (ek (t.1,false)) (fq x)
      simp
      omega
     ·rw [zJ2,List.mem_append] at hz
      rw [zae3]
      rcases hz with hz | hz
      ·rw [if_neg fun q=>nin false (by rw [← (zaD2 (x:=z) (y:=(t.1,false))).mp q]; exact hz)]
       exact ck z hz
      ·have:z=(t.1,false):=by simpa [zi2,hk] using hz
       subst this
       rw [if_pos rfl,tp]
       rfl
    | true =>
     rw [hk] at pe
     simp only [if_true] at pe
     subst pe
     simp [zk5,zs9,hk,kd,hm]
     refine ⟨zl _ (by omega),by rw [sizeLine_eq]; decide,_,zb1,?_,by rw [sizeLine_eq]; decide,?_⟩
     ·have:=zK5 kvs [.inr t.1,.inl 0] (.tuple [.int x.1,.int x.2])
      exact zl (putP kvs [.inr t.1,.inl 0] (.tuple [.int x.1,.int x.2])).length (by omega)
     refine ih (putP (putP kvs (ek (t.1,false)) (fq x)) (ek (t.1,true)) (fq y)) _ _ _ _ ((kn.new hc).new hc) zb1 ?_ fun z hz=>?_
     ·have q1:=zK5 kvs (ek (t.1,false)) (fq x)
      have q2:=zK5 (putP kvs (ek (t.1,false)) (fq x)) (ek (t.1,true)) (fq y)
      simp
      omega
     ·rw [zJ2,List.mem_append] at hz
      rw [zae3,zae3]
      rcases hz with hz | hz
      ·rw [if_neg fun q=>nin true (by rw [← (zaD2 (x:=z) (y:=(t.1,true))).mp q]; exact hz),if_neg fun q=>nin false (by rw [← (zaD2 (x:=z) (y:=(t.1,false))).mp q]; exact hz)]
       exact ck z hz
      ·have:z=(t.1,false)∨z=(t.1,true):=by simpa [zi2,hk] using hz
       rcases this with rfl | rfl
       ·rw [if_neg (by simp [ek]),if_pos rfl,tp]
        rfl
       ·rw [if_pos rfl,tp]
        rfl
 exact key ts [] ps [] [] none none none _ rfl rfl rfl ht (Kn.refl.new hc) zb1 (Nat.zero_le _) (fun x hx=>by simp [zi2] at hx)
end K19
namespace K19
open PySem PySem.Spec PyProof.Rows L2 DL K01
theorem end0:∀ {ts:List (Str×Bool)} {a:Str} {k:Bool},(a,k)∈ts→(a,false)∈zi2 ts
 | t :: ts,a,k,h=>by
  simp only [zi2,List.mem_cons,List.mem_append]
  rcases List.mem_cons.mp h with h | h
  ·left; rw [← h]
  ·exact .inr (.inr (end0 h))
theorem end1:∀ {ts:List (Str×Bool)} {a:Str},(a,true)∈ts→(a,true)∈zi2 ts
 | t :: ts,a,h=>by
  simp only [zi2,List.mem_cons,List.mem_append]
  rcases List.mem_cons.mp h with h | h
  ·right; left; rw [← h]; simp
  ·exact .inr (.inr (end1 h))
theorem zak5 {k l:Bool} {is:List Int} {w:Str} {c':Addr} {m:Mu} {R:DK} {NX:St2→Mu→Prop} {o0 o1 o2 o3 o6 o7:Option D} (h:∀ m',Kn m m'→R (.dat (.str w)) m'):∀ (ws:List Str) (o8:Option D) (m':Mu),(∀ z∈ws,z∈WS k l)→(ws.filter fun z=>decide (WB k l z=is)).head?=some w→Kn m m'→m' c'=some (.l (is.map .int)) →
  zk5 (gN 8) zq8 { nx:=NX,rt:=R } ((ws.map .str).map .dat) [o0,o1,o2,o3,some (.dat (kds k l)),some (.cel c'),o6,o7,o8] m'
 | [],_,_,_,hh,_,_=>by simp at hh
 | z :: ws,o8,m',hz,hh,kn,hm=>by
  have ih:=fun o8 m''=>zak5 (is:=is) (c':=c') (NX:=NX) (o0:=o0) (o1:=o1) (o2:=o2) (o3:=o3) (o6:=o6) (o7:=o7) h ws o8 m'' (fun y hy=>hz y (List.mem_cons_of_mem _ hy))
  simp only [List.map_cons,zk5]
  generalize hG:zk5 _ zq8 _ ((ws.map _).map .dat)=G at ih ⊢
  simp [zq8]
  refine ⟨k,l,z,rfl,hz z List.mem_cons_self,fun m1 k1=>?_⟩
  have hm1:=k1.get hm
  have e:PyData.eqv (.list ((WB k l z).map .int)) (.list (is.map .int))=decide (WB k l z=is):=by
   simp only [PyData.eqv]
   exact zad2 _ _
  obtain ⟨q1,q2⟩:=zE8 (WB k l z)
  obtain ⟨q3,q4⟩:=zE8 is
  simp [hm1,PyData.canLay0,PyData.depth,q1,q3,e]
  refine ⟨by omega,?_⟩
  by_cases c:WB k l z=is
  ·rw [if_pos c]
   simp [c] at hh
   rw [hh]
   exact h m1 (kn.trans k1)
  ·rw [if_neg c]
   refine ih _ m1 ?_ (kn.trans k1) hm1
   simpa [c] using hh
theorem zaz3 {c:Addr} {ts:List (Str×Bool)} {ps:List PyData} {kvs:List (List Key×PyData)} {x y:Str×Bool} {m:Mu} {R:DK} (hm:m c=some (.t kvs)) (ht:TmAll ts ps) (ck:Clk ts ps kvs) (hx:x∈zi2 ts) (hy:y∈zi2 ts) (h:R (I (stn (tmP ts ps x) (tmP ts ps y))) m):zk1 [.cel c,.dat (endD x),.dat (endD y)] m R :=
 ⟨c,ts,ps,kvs,x,y,rfl,hm,ht,ck,hx,hy,h⟩
theorem zak9 {c c':Addr} {ts:List (Str×Bool)} {ps:List PyData} {kvs:List (List Key×PyData)} {a b:Str} {p q:Bool} {is:List Int} {m:Mu} {E:Ends2} {o0 o4 o8:Option D} (hm:m c=some (.t kvs)) (hm':m c'=some (.l (is.map .int))) (hi:is.length≤5) (ht:TmAll ts ps) (ck:Clk ts ps kvs) (hx:(a,p)∈zi2 ts) (hy:(b,q)∈zi2 ts) (h:E.nx [o0,some (.cel c),some (.dat (.str a)),some (.dat (.str b)),o4,some (.cel c'),some (I (if p then 1 else 0)),some (I (if q then 1 else 0)),o8] (updM m c' (.l ((is++[stn (tmP ts ps (a,p)) (tmP ts ps (b,q))]).map .int)))) :
  zv9 E [o0,some (.cel c),some (.dat (.str a)),some (.dat (.str b)),o4,some (.cel c'),some (I (if p then 1 else 0)),some (I (if q then 1 else 0)),o8] m:=by
 simp [zv9,hm',sz]
 refine zaz3 hm ht ck hx hy ?_
 simp [hm']
 refine ⟨Nat.lt_of_lt_of_le (show is.length < 10 by omega) (sz (by decide)),?_⟩
 simpa using h
theorem zak2:∀ ds m R,ds.length=zm1.length→zr0 ds m R→zx8 (EN R) (zb2 zI8 ds) m:=by
 rintro ds m R hl ⟨c,ts,ps,kvs,a,b,rfl,nm,hm,ht,ck,ha,hb,h⟩
 have n6:ts.length≤6:=by simpa using nm.2.1
 obtain ⟨k,x0,x1,_,t1,_,mk⟩:=zN5 ht ha
 obtain ⟨l,y0,y1,_,t2,_,ml⟩:=zN5 ht hb
 rw [zaM2 t1 t2] at h
 have pa:∀ b':Bool,tmP ts ps (a,b')=if b' then x1 else x0:=fun b'=>zah5 (e:=(a,b')) t1
 have pb:∀ b':Bool,tmP ts ps (b,b')=if b' then y1 else y0:=fun b'=>zah5 (e:=(b,b')) t2
 simp [zx8]
 refine ⟨sz (by decide),ts,a,b,k,l,rfl,n6,nm.1,mk,ml,fun m1 k1=>?_⟩
 have hm1:=k1.get hm
 simp [zM6,sz]
 intro c' hc'
 have cc:c≠c':=by rintro rfl; rw [hm1] at hc'; cases hc'
 have kc:=k1.none hc'
 have fin:∀ (is:List Int) (o6 o7 o8:Option D) (m':Mu),Kn m m'→m' c'=some (.l (is.map .int))→((WS k l).filter fun z=>decide (WB k l z=is)).head?=some (wd (k && l) x0 x1 y0 y1)→zy6 (EN R) [some (.dat (TH ts)),some (.cel c),some (.dat (.str a)),some (.dat (.str b)),some (.dat (kds k l)),some (.cel c'),o6,o7,o8] m':=fun is o6 o7 o8 m' kn hm' hk=>by
  simp only [zy6,dSeq,dFor,zr6,zc2,za4,dNil,dVar]
  refine ⟨_,rfl,rfl,k,l,rfl,.inr ⟨_,rfl,?_⟩⟩
  exact zak5 h (WS k l) o8 m' (fun z hz=>hz) hk kn hm'
 have s0:0 < sizeLine:=by rw [sizeLine_eq]; decide
 have s1:1 < sizeLine:=by rw [sizeLine_eq]; decide
 have s2:2 < sizeLine:=by rw [sizeLine_eq]; decide
 have s3:3 < sizeLine:=by rw [sizeLine_eq]; decide
 have a0:=end0 mk
 have b0:=end0 ml
 have up:∀ {m':Mu} {v:Cel},m' c=some (.t kvs)→updM m' c' v c=some (.t kvs):=fun hq=>by rw [ze1 cc]; exact hq
 simp only [zL6,dSeq,dFor,zr6,zc2,za4,dNil,dVar,dBin,aIx,dCon]
 refine ⟨_,rfl,_,at0 _ _,rfl,k,rfl,.inl ⟨_,rfl,?_⟩⟩
 have lp:∀ (p:Bool) (is:List Int) (K:St2→Mu→Prop) (E:Ends2) (o7 o8:Option D) (m':Mu),(a,p)∈zi2 ts→m' c=some (.t kvs)→m' c'=some (.l (is.map .int))→is.length≤2→E.nx=K→(∀ o7 m'',Kn m m'→Kn m m''→m'' c=some (.t kvs)→m'' c'=some (.l ((is++((if l then [false,true] else [false]:List Bool).map fun q=>stn (tmP ts ps (a,p)) (tmP ts ps (b,q)))).map .int))→K [some (.dat (TH ts)),some (.cel c),some (.dat (.str a)),some (.dat (.str b)),some (.dat (kds k l)),some (.cel c'),some (I (if p then 1 else 0)),o7,o8] m'')→Kn m m' →
   zv8 E [some (.dat (TH ts)),some (.cel c),some (.dat (.str a)),some (.dat (.str b)),some (.dat (kds k l)),some (.cel c'),some (I (if p then 1 else 0)),o7,o8] m':=fun p is K E o7 o8 m' hp h1 h2 hi eK go kn=>by
  simp only [zv8,dSeq,dFor,zr6,zc2,za4,dNil,dVar,dBin,aIx,dCon]
  refine ⟨_,rfl,_,at1 _ _ _,rfl,l,rfl,.inl ⟨_,rfl,?_⟩⟩
  cases l with
  | false =>
   simp only [Bool.false_eq_true,if_false,List.map_cons,List.map_nil,zk5,gN]
   refine zak9 (q:=false) h1 h2 (by omega) ht ck hp b0 ?_
   simp only [zk5,zb9]
   rw [eK]
   exact go _ _ kn (kn.new kc) (up h1) zb1
  | true =>
   have b1:=end1 ml
   simp only [if_true,List.map_cons,List.map_nil,zk5,gN]
   refine zak9 (q:=false) h1 h2 (by omega) ht ck hp b0 ?_
   refine zak9 (q:=true) (up h1) zb1 (by simp; omega) ht ck hp b1 ?_
   simp only [zk5,zb9]
   rw [eK]
   exact go _ _ kn ((kn.new kc).new kc) (up (up h1)) (by rw [zb1]; simp)
 have hc0:updM m1 c' (.l []) c'=some (.l (([]:List Int).map .int)):=zb1
 have ks:=k1.new (x:=.l []) kc
 cases k with
 | true =>
  have a1:=end1 mk
  simp only [if_true,List.map_cons,List.map_nil,zk5,gN]
  refine lp false [] _ _ _ _ _ a0 (up hm1) hc0 (by decide) rfl (fun o7 m2 _ k2 h2 h3=>?_) ks
  refine lp true _ _ _ _ _ _ a1 h2 h3 (by cases l <;> simp) rfl (fun o7 m3 _ k3 h4 h5=>?_) k2
  simp only [zk5,pa,pb] at h5 ⊢
  refine fin _ _ _ _ _ k3 h5 ?_
  cases l with
  | true=>exact zaN6 _ (zi3 _ _) _ (zi3 _ _) _ (zi3 _ _) _ (zi3 _ _) (st_b t2 t1.px) (st_b t2 t1.py) (st_a t1 t2.px) (st_a t1 t2.py)
  | false =>
   have e:=t2.pt rfl
   subst e
   exact zaO0 _ (zi3 _ _) _ (zi3 _ _) (st_a t1 t2.px)
 | false =>
  have ex:=t1.pt rfl
  subst ex
  simp only [Bool.false_eq_true,if_false,List.map_cons,List.map_nil,zk5,gN]
  refine lp false [] _ _ _ _ _ a0 (up hm1) hc0 (by decide) rfl (fun o7 m2 _ k2 h2 h3=>?_) ks
  simp only [zk5,pa,pb] at h3 ⊢
  refine fin _ _ _ _ _ k2 h3 ?_
  cases l with
  | true=>exact zaN9 _ (zi3 _ _) _ (zi3 _ _) (st_b t2 t1.px)
  | false =>
   have ey:=t2.pt rfl
   subst ey
   exact zaO2 _ (zi3 _ _)
end K19
namespace K19
open PySem PySem.Spec PyProof.Rows L2 DL K01
theorem zau0 {z:Str} (h:good z):Sv 70 200 1 (.str z):=zbf8 h.1 (Nat.le_trans h.2 (by decide))
theorem s_fq {n:Nat} {x:Int×Int} (h1:Bd n x.1) (h2:Bd n x.2) (n0:0 < n) (hn:n≤200):Sv 70 402 2 (fq x):=by
 refine zC9 (w:=200) (e:=1) (n:=2) (fun p hp=>?_) (by simp)
 simp at hp
 rcases hp with rfl | rfl
 ·exact zaB0 h1 n0 (by omega) hn (by omega) (by decide)
 ·exact zaB0 h2 n0 (by omega) hn (by omega) (by decide)
theorem zaY5 {x:Str×Bool} (h:good x.1):Sv 70 402 2 (endD x):=by
 refine zC9 (w:=200) (e:=1) (n:=2) (fun p hp=>?_) (by simp)
 simp at hp
 rcases hp with rfl | rfl
 ·exact zau0 h
 ·refine zaB0 (n:=20) ?_ (by decide) (by decide) (by decide) (by decide) (by decide)
  split <;> exact zah9
theorem s_th {ts:List (Str×Bool)} (nm:Nm (ts.map (·.1))):Sv 70 3000 3 (TH ts):=by
 refine (zC9 (w:=402) (e:=2) (n:=6) (fun p hp=>?_) (by simpa using nm.2.1)).mono (by decide) (by decide)
 obtain ⟨t,ht,rfl⟩:=List.mem_map.mp hp
 refine (zC9 (w:=200) (e:=1) (n:=2) (fun x hx=>?_) (by simp)).mono (by decide) (by decide)
 simp at hx
 rcases hx with rfl | rfl
 ·exact zau0 (nm.2.2 _ (List.mem_map.mpr ⟨t,ht,rfl⟩))
 ·exact zau0 (zaP7 _)
theorem s_tm {p:PyData} {k:Bool} {x y:Int×Int} (h:Tm p k x y):Sv 70 810 3 p:=by
 rw [h.eq]
 have q1:=s_fq h.b1 h.b2 (by decide) (by decide)
 have q2:=s_fq h.b3 h.b4 (by decide) (by decide)
 cases k with
 | true =>
  refine (zC9 (w:=402) (e:=2) (n:=2) (fun p hp=>?_) (by simp)).mono (by decide) (by decide)
  simp at hp
  rcases hp with rfl | rfl
  ·exact q1
  ·exact q2
 | false=>exact q1.mono (by decide) (by decide)
theorem zbf9:∀ {ts:List (Str×Bool)} {ps:List PyData},TmAll ts ps→∀ p∈ps,Sv 70 810 3 p
 | [],[],_,p,hp=>by cases hp
 | t :: ts,q :: ps,⟨⟨x,y,h⟩,hs⟩,p,hp=>by
  rcases List.mem_cons.mp hp with rfl | hp
  ·exact s_tm h
  ·exact zbf9 hs p hp
theorem zbi4 {ts:List (Str×Bool)} {r:Row} (nm:Nm (ts.map (·.1))) (ok:zaw1 ts r):Sv 70 9000 4 (RowD r):=by
 cases r with
 | may a b ws =>
  obtain ⟨ha,hb,hn,ho⟩:=ok
  refine (zC9 (w:=2700) (e:=2) (n:=3) (fun p hp=>?_) (by simp)).mono (by decide) (by decide)
  simp at hp
  rcases hp with rfl | rfl | rfl
  ·exact (zau0 (nm.2.2 _ ha)).mono (by decide) (by decide)
  ·exact (zau0 (nm.2.2 _ hb)).mono (by decide) (by decide)
  ·refine (zC9 (w:=200) (e:=1) (n:=13) (fun x hx=>?_) (by simpa using hn)).mono (by decide) (by decide)
   obtain ⟨z,hz,rfl⟩:=List.mem_map.mp hx
   exact zau0 (zaJ4 z (ho z hz))
 | gap x y n s =>
  obtain ⟨hx,hy,n0,n1,n2⟩:=ok
  refine (zC9 (w:=402) (e:=2) (n:=4) (fun p hp=>?_) (by simp)).mono (by decide) (by decide)
  simp at hp
  rcases hp with rfl | rfl | rfl | rfl
  ·exact zaY5 (nm.2.2 _ (zg6 hx))
  ·exact zaY5 (nm.2.2 _ (zg6 hy))
  ·exact s_fq n1 n2 (by decide) (by decide)
  ·exact (zaA6 (w:=200) s).mono (by decide) (by decide)
theorem zbk6 {ts:List (Str×Bool)} {ps:List PyData} {r:Row} (nm:Nm (ts.map (·.1))) (ht:TmAll ts ps) (ok:zaw1 ts r):Sv 70 27100 5 (.tuple [TH ts,.tuple ps,RowD r]):=by
 have pl:=ht.len
 have n6:ts.length≤6:=by simpa using nm.2.1
 refine (zC9 (w:=9000) (e:=4) (n:=3) (fun p hp=>?_) (by simp)).mono (by decide) (by decide)
 simp at hp
 rcases hp with rfl | rfl | rfl
 ·exact (s_th nm).mono (by decide) (by decide)
 ·exact (zC9 (w:=810) (e:=3) (n:=6) (zbf9 ht) (by omega)).mono (by decide) (by decide)
 ·exact zbi4 nm ok
theorem zbj5 (a b:Bool):Sv 70 402 2 (.tuple [.bool a,.bool b]):=by
 refine zC9 (w:=200) (e:=1) (n:=2) (fun p hp=>?_) (by simp)
 simp at hp
 rcases hp with rfl | rfl <;> exact zaA6 _
theorem zaf8:∀ ds m R,ds.length=zj2.length→zj9 ds m R→zv1 (EN R) (zb2 zD7 ds) m:=by
 rintro ds m R hl ⟨ts,ps,r,rfl,nm,ht,ok,h⟩
 obtain ⟨s1,s2,s3⟩:=zaB4 (zbk6 nm ht ok) (by decide) (by decide) (by decide)
 obtain ⟨q1,q2,q3⟩:=zaB4 (zbj5 (zaw7 r) (has ts ps r)) (by decide) (by decide) (by decide)
 simp [zv1,sz,s1,s2,s3]
 simp [zG2,sz]
 refine ⟨ts,r,rfl,nm,ok,?_⟩
 refine ⟨ts,ps,r,rfl,nm,ht,ok,fun m1 k1=>?_⟩
 simp [zH4,sz,s1,s2,s3,q1,q2,q3]
 exact h m1 k1
theorem zaM3 {xs:List (Str×Bool)} {r:Int} (h0:0≤r) (h1:r < (xs.length:Int)):∃ x∈xs,atI (xs.map endD) r=some (endD x):=by
 obtain ⟨k,rfl⟩:∃ k:Nat,r=k:=⟨r.toNat,by omega⟩
 have hk:k < xs.length:=by omega
 exact ⟨xs[k],List.getElem_mem hk,zw4 (by rw [List.getElem?_map,List.getElem?_eq_getElem hk]; rfl)⟩
def MORE:List (Int×Int):=[(0,1),(1,1),(-1,1),(1,999983),(-1,999983),(10 ^ 30,7),(-(10 ^ 30),7)]
theorem zaX0:∀ x∈MORE,0 < x.2∧x.1.natAbs < 2 ^ 110∧x.2.natAbs < 2 ^ 110:=by decide +kernel
theorem zaP4 {r:Int} (h0:0≤r) (h1:r < 7):∃ x∈MORE,atI (MORE.map fq) r=some (fq x):=by
 obtain ⟨k,rfl⟩:∃ k:Nat,r=k:=⟨r.toNat,by omega⟩
 have hk:k < MORE.length:=by
  have:MORE.length=7:=rfl
  omega
 exact ⟨MORE[k],List.getElem_mem hk,zw4 (by rw [List.getElem?_map,List.getElem?_eq_getElem hk]; rfl)⟩
theorem zao8:∀ ds m R,ds.length=zo9.length→zu6 ds m R→zE7 (EN R) (zb2 zN7 ds) m:=by
 rintro ds m R hl ⟨a,c,ts,ps,kvs,L,rfl,nm,t1,ca,hm,ht,ck,hL,hT,h⟩
 have n6:ts.length≤6:=by simpa using nm.2.1
 have hL9:L≤9000000:=by omega
 have hf:=Fed.refl hT
 have le:=zab0 ts
 have l1:1≤(zi2 ts).length:=by
  cases ts with
  | nil=>simp at t1
  | cons t ts=>simp [zi2]
 simp [zE7]
 refine ⟨ts,rfl,n6,fun e m1 he k1 hm1=>?_⟩
 have hf1:=hf.kn k1
 obtain ⟨ea,en⟩:=hf.new he
 have hc1:=k1.get hm
 simp [zQ8,hm1,sz]
 refine zD9 (by omega) (by omega) hL9 (by decide) hf1 fun r2 m2 r20 r21 hf2 kp2=>?_
 have hm2:=kp2 e _ ea hm1
 have hc2:=kp2 c _ ca hc1
 obtain ⟨x,hx,ex⟩:=zaM3 r20 r21
 simp [hm2]
 refine ⟨_,ex,?_⟩
 simp [zQ0,hm2,sz]
 refine zD9 (by omega) (by omega) hL9 (by decide) hf2 fun r3 m3 r30 r31 hf3 kp3=>?_
 have hm3:=kp3 e _ ea hm2
 have hc3:=kp3 c _ ca hc2
 obtain ⟨y',hy',ey⟩:=zaM3 r30 r31
 simp [hm3]
 refine ⟨_,ey,?_⟩
 simp [sz]
 refine zD9 (by decide) (by decide) hL9 (by decide) hf3 fun r4 m4 r40 r41 hf4 kp4=>?_
 have hc4:=kp4 c _ ca hc3
 obtain ⟨y,hy,ey2⟩:∃ y∈zi2 ts,atI [endD x,endD y'] (if 0 < r4 then 1 else 0)=some (endD y):=by
  by_cases c:0 < r4
  ·exact ⟨y',hy',by rw [if_pos c]; simp⟩
  ·exact ⟨x,hx,by rw [if_neg c]; simp⟩
 simp
 refine ⟨_,ey2,?_⟩
 obtain ⟨x0,x1,x2⟩:=zQ9 ht (zg6 hx)
 obtain ⟨y0,y1,y2⟩:=zQ9 ht (zg6 hy)
 have c1:=ck x hx
 have c2:=ck y hy
 obtain ⟨X,eX⟩:∃ X,X=tmP ts ps x:=⟨_,rfl⟩
 obtain ⟨Y,eY⟩:∃ Y,Y=tmP ts ps y:=⟨_,rfl⟩
 rw [← eX] at x0 x1 x2 c1
 rw [← eY] at y0 y1 y2 c2
 simp [zQ4,sz]
 have pb:0 < X.2 * Y.2:=Int.mul_pos x0 y0
 have et:X.1 * Y.2 + -1 * Y.1 * X.2=X.1 * Y.2 - Y.1 * X.2:=by
  rw [Int.neg_mul,Int.neg_mul,Int.one_mul]
  omega
 have bt:Bd 81 (X.1 * Y.2 - Y.1 * X.2):=(x1.mul y2).sub (y1.mul x2)
 have bb:Bd 80 (X.2 * Y.2):=x2.mul y2
 simp only [zP0,dSeq,dSet,zc2,za4,dNil,zA4,dVar,dNeg,dCon]
 refine ⟨_,rfl,_,rfl,c,_,[.inr x.1,.inl (if x.2 then 1 else 0)],kvs,_,rfl,rfl,rfl,hc4,c1,?_⟩
 refine ⟨_,rfl,_,rfl,c,_,[.inr y.1,.inl (if y.2 then 1 else 0)],kvs,_,rfl,rfl,rfl,hc4,c2,?_⟩
 refine ⟨1,rfl,rfl,X,Y,-1,40,40,rfl,x0,y0,.inr rfl,by decide,x1,x2,y1,y2,?_⟩
 rw [et]
 obtain ⟨u,v,g,ef,g0,e1,e2,d0⟩:=zS5 (t:=X.1 * Y.2 - Y.1 * X.2) pb
 rw [ef]
 have bu:Bd 81 u:=Bd.part e1 g0 bt
 have bv:Bd 81 v:=(Bd.part e2 g0 bb).mono (by decide)
 simp [zO9]
 refine zk4 (by decide) (by decide) hL9 (by decide) hf4 fun r5 m5 r50 r51 hf5=>?_
 obtain ⟨w,hw,ew⟩:=zaP4 r50 r51
 obtain ⟨w0,w1,w2⟩:=zaX0 w hw
 refine ⟨_,ew,?_⟩
 refine ⟨(u,v),w,1,81,110,rfl,d0,w0,.inl rfl,by decide,bu,bv,w1,w2,?_⟩
 have e3:u * w.2 + 1 * w.1 * v=u * w.2 + w.1 * v:=by rw [Int.one_mul]
 have p2:0 < v * w.2:=Int.mul_pos d0 w0
 have w1:Bd 110 w.1:=w1
 have w2:Bd 110 w.2:=w2
 have bt2:Bd 192 (u * w.2 + w.1 * v):=(bu.mul w2).add ((w1.mul bv).mono (by decide))
 have bb2:Bd 191 (v * w.2):=bv.mul w2
 show zD4 (EN R) ([some (D.cel a),some (D.dat (TH ts)),some (D.cel c),some (D.cel e),some (D.dat (endD x)),some (D.dat (endD y)),_,some (D.dat (fr (u * w.2 + 1 * w.1 * v) (v * w.2)))]) m5
 rw [e3]
 obtain ⟨f,h',g',ef',g0',e1',e2',d0'⟩:=zS5 (t:=u * w.2 + w.1 * v) p2
 rw [ef']
 simp [zD4]
 refine zk4 (by decide) (by decide) hL9 (by decide) hf5 fun r6 m6 r60 r61 hf6=>?_
 simp [PyData.eqv,PyData.canLay0,PyData.depth,sz]
 exact h x y (f,h') (r6 == 1) m6 ⟨hx,hy,d0',(Bd.part e1' g0' bt2).mono (by decide),(Bd.part e2' g0' bb2).mono (by decide)⟩ (hf6.mono (by decide))
end K19
namespace K19
open PySem PySem.Spec PyProof.Rows L2 DL K01
theorem zaD9 {x y:Str×Bool} {n:Int×Int} {s:Bool} {E:Ends2} {o0 o1 o2 o3 o4 o5 o6 o8 o9 o10 o11 o12:Option D} {m:Mu} (gx:good x.1) (gy:good y.1)
  (h:zN3 E [o0,o1,o2,o3,o4,o5,o6,some (.dat (RowD (.gap x y n s))),some (.dat (.bool (zaw7 (.gap x y n s)))),o9,o10,o11,o12] m) :
  zO3 E [o0,o1,o2,o3,o4,o5,o6,some (.dat (RowD (.gap x y n s))),o8,o9,o10,o11,o12] m:=by
 simp only [zO3,dSeq,dSet,dAnd,dOr,dBin,dVar,dCon,aIx,RowD]
 refine ⟨_,rfl,_,at0 _ _,_,rfl,_,at1 _ _ _,?_⟩
 refine ⟨by simp [PyData.canLay0,PyData.canLayAll0,zaf4 gx],by simp [PyData.canLay0,PyData.canLayAll0,zaf4 gy],by simp [PyData.depth,PyData.depthAll],?_⟩
 rw [zaE9]
 refine ⟨_,rfl,?_⟩
 simp only [zaw7] at h
 cases c:decide (x=y) with
 | false =>
  rw [c] at h
  simpa [RowD] using h
 | true =>
  rw [c] at h
  by_cases c1:n.1 < 0
  ·simp [c1,RowD] at h ⊢
   exact h
  ·by_cases c2:n.1=0
   ·simp [c2,RowD,PyData.eqv,PyData.canLay0,PyData.depth] at h ⊢
    exact h
   ·simp [c1,c2,RowD,PyData.eqv,PyData.canLay0,PyData.depth] at h ⊢
    exact h
theorem zbb5:∀ ds m R,ds.length=zaH9.length→zZ1 ds m R→zaK3 (EN R) (zb2 zaV1 ds) m:=by
 rintro ds m R hl ⟨ns,rfl,hn,h⟩
 simp [zaK3]
 refine ⟨ns,rfl,hn,fun a m0 hT0=>?_⟩
 simp [zax1]
 refine zM5 (n:=6) (fun i d m'=>Tp (1000 * i) m' a∧∃ o2 o3 o4 o5 o6 o7 o8 o9 o10 o11 o12,d=[some (.dat (.list (ns.map .int))),some (.cel a),o2,o3,o4,o5,o6,o7,o8,o9,o10,o11,o12]) ?_ ?_ _ _ ⟨by simpa using hT0,_,_,_,_,_,_,_,_,_,_,_,rfl⟩
 ·rintro d m' ⟨_,o2,o3,o4,o5,o6,o7,o8,o9,o10,o11,o12,rfl⟩
  simp [zaz9]
  exact h m'
 rintro i hi K hK d m1 ⟨hT,o2,o3,o4,o5,o6,o7,o8,o9,o10,o11,o12,rfl⟩
 have hL:(1000 * (i:Int))≤6000:=by omega
 simp [zas0]
 refine ⟨a,1000 * i,rfl,by omega,hT,fun ts m2 t1 t6 nm hf2=>?_⟩
 have n6:ts.length≤6:=by omega
 simp [zaa5]
 refine ⟨a,ts,1000 * i + 20,rfl,nm,by omega,hf2.1,fun ps m3 ht hf3=>?_⟩
 have hf3:=hf2.trans hf3
 simp [zY2]
 refine ⟨ts,ps,rfl,nm,ht,fun c m4 kvs hc k4 hm4 ck=>?_⟩
 obtain ⟨ca,cn⟩:=hf3.new hc
 have hf4:=hf3.kn k4
 simp [zY5]
 refine zM5 (n:=5) (fun j d m'=>Fed (60 + 10 * j) (1000 * i) m1 m' a∧m' c=some (.t kvs)∧∃ o6 o7 o8 o9 o10 o11 o12,d=[some (.dat (.list (ns.map .int))),some (.cel a),some (I i),some (.dat (TH ts)),some (.dat (.tuple ps)),some (.cel c),o6,o7,o8,o9,o10,o11,o12]) ?_ ?_ _ _ ⟨by simpa using hf4,hm4,_,_,_,_,_,_,_,rfl⟩
 ·rintro d m5 ⟨hf5,hm5,o6,o7,o8,o9,o10,o11,o12,rfl⟩
  simp [zZ9]
  refine ⟨mulL zah9,by split <;> decide,by split <;> decide,?_⟩
  have out:∀ o6 o7 o8 o9 o10 o11 o12 m',Fed 300 (1000 * i) m1 m' a→K [some (.dat (.list (ns.map .int))),some (.cel a),some (I i),some (.dat (TH ts)),some (.dat (.tuple ps)),some (.cel c),o6,o7,o8,o9,o10,o11,o12] m':=fun o6 o7 o8 o9 o10 o11 o12 m' hf'=>by
   refine hK _ _ ⟨?_,_,_,_,_,_,_,_,_,_,_,_,rfl⟩
   have:=(hf'.mono (c:=1000) (by decide)).1
   have e:(1000 * (i:Int) + 1000)=1000 * ((i + 1:Nat):Int):=by push_cast; omega
   rw [e] at this
   exact this
  by_cases c1:(1:Int) < ts.length
  ·rw [if_pos c1]
   refine zM5 (n:=5) (fun j d m'=>Fed (110 + 30 * j) (1000 * i) m1 m' a∧m' c=some (.t kvs)∧∃ o6 o7 o8 o9 o10 o11 o12,d=[some (.dat (.list (ns.map .int))),some (.cel a),some (I i),some (.dat (TH ts)),some (.dat (.tuple ps)),some (.cel c),o6,o7,o8,o9,o10,o11,o12]) ?_ ?_ _ _ ⟨by simpa using hf5,hm5,_,_,_,_,_,_,_,rfl⟩
   ·rintro d m' ⟨hf',_,o6,o7,o8,o9,o10,o11,o12,rfl⟩
    exact out _ _ _ _ _ _ _ _ (hf'.mono (by decide))
   ·rintro j hj K2 hK2 d m6 ⟨hf6,hm6,o6,o7,o8,o9,o10,o11,o12,rfl⟩
    have kp:∀ {b n:Int} {m m':Mu},Fed b n m m' a→m c=some (.t kvs)→m' c=some (.t kvs):=fun hq hm=>by rw [hq.2 c ca (by rw [hm]; rfl)]; exact hm
    simp [zat4]
    refine ⟨a,ts,1000 * i + (110 + 30 * j),rfl,by omega,n6,by omega,hf6.1,fun x y k l m7 hx hy hf7=>?_⟩
    have hm7:=kp hf7 hm6
    have hf7:=hf6.trans hf7
    simp [zZ2,sz]
    refine ⟨ts,x,y,k,l,rfl,n6,nm.1,hx,hy,fun m8 k8=>?_⟩
    have hm8:=k8.get hm7
    have hf8:=hf7.kn k8
    refine ⟨a,k,l,1000 * i + (110 + 30 * j + 2),rfl,by omega,hf8.1,fun zs m9 sub hf9=>?_⟩
    have hm9:=kp hf9 hm8
    have hf9:=hf8.trans hf9
    simp [zZ8,sz]
    refine zD9 (by decide) (by decide) (by omega) (by omega) hf9 fun r m10 r0 r1 hf10 kp10=>?_
    have hm10:=kp10 c _ ca hm9
    obtain ⟨zs',hzs,zl,zo⟩:∃ zs':List Str,(if 0 < r then zs.map PyData.str else [])=zs'.map .str∧zs'.length≤13∧∀ z∈zs',z∈ORD:=by
     by_cases q:0 < r
     ·exact ⟨zs,by simp [q],Nat.le_trans sub.length_le (zax7 k l).2,fun z hz=>zaq8 k l z (sub.subset hz)⟩
     ·exact ⟨[],by simp [q],by simp,by simp⟩
    have ax:x∈ts.map (·.1):=List.mem_map.mpr ⟨_,hx,rfl⟩
    have ay:y∈ts.map (·.1):=List.mem_map.mpr ⟨_,hy,rfl⟩
    have ok:zaw1 ts (.may x y zs'):=⟨ax,ay,zl,zo⟩
    have l1:=zaq7 fun z hz=>zaO6 z (zo z hz)
    have dd:(PyData.tuple (zs'.map .str)).depth≤100:=by
     have:∀ xs:List Str,PyData.depthAll (xs.map .str)≤2:=fun xs=>by
      induction xs with
      | nil=>simp [PyData.depthAll]
      | cons x xs ih=>simp only [List.map_cons,PyData.depthAll,PyData.depth]; omega
     have:=this zs'
     simp only [PyData.depth]
     omega
    have go:zO6 { nx:=K2,rt:=R,bk:=K,ct:=K2 } [some (.dat (.list (ns.map .int))),some (.cel a),some (I i),some (.dat (TH ts)),some (.dat (.tuple ps)),some (.cel c),some (I j),some (.dat (RowD (.may x y zs'))),o8,some (.dat (.str x)),some (.dat (.str y)),some (.dat (.tuple (zs.map .str))),o12] m10:=by
     simp [zO6]
     refine ⟨c,ts,ps,kvs,x,y,rfl,nm,hm10,ht,ck,ax,ay,fun m11 k11=>?_⟩
     simp [RowD]
     refine ⟨zs',rfl,?_⟩
     simp [zY7]
     refine ⟨by simpa only [PyData.canLay0] using l1,by simp [PyData.canLay0,PyData.canLayAll0],dd,?_⟩
     rw [zaA1]
     refine ⟨ts,ps,.may x y zs',rfl,nm,ht,ok,fun m12 k12=>?_⟩
     simp
     exact hK2 _ _ ⟨((hf10.kn k11).kn k12).mono (by push_cast; omega),k12.get (k11.get hm10),_,_,_,_,_,_,_,rfl⟩
    simp
    refine ⟨by split <;> decide,by split <;> decide,?_⟩
    rw [hzs]
    refine ⟨sz (by decide),?_⟩
    exact go
  ·rw [if_neg c1]
   exact out _ _ _ _ _ _ _ _ (hf5.mono (by decide))
 ·rintro j hj K2 hK2 d m5 ⟨hf5,hm5,o6,o7,o8,o9,o10,o11,o12,rfl⟩
  simp [zaq6]
  refine ⟨a,c,ts,ps,kvs,1000 * i + (60 + 10 * j),rfl,nm,t1,ca,hm5,ht,ck,by omega,hf5.1,fun x y n s m6 ok hf6=>?_⟩
  have hm6:m6 c=some (.t kvs):=by rw [hf6.2 c ca (by rw [hm5]; rfl)]; exact hm5
  have hf6:=hf5.trans hf6
  refine zaD9 (nm.2.2 _ (zg6 ok.1)) (nm.2.2 _ (zg6 ok.2.1)) ?_
  simp [zN3]
  refine ⟨c,ts,ps,kvs,x,y,n,s,rfl,hm6,ht,ck,ok,?_⟩
  refine ⟨ts,ps,.gap x y n s,rfl,nm,ht,ok,fun m7 k7=>?_⟩
  simp
  exact hK2 _ _ ⟨(hf6.kn k7).mono (by push_cast; omega),k7.get hm6,_,_,_,_,_,_,_,rfl⟩
end K19
namespace HD
open PySem PySem.W
section
variable {α β:Type} {tb:String→Option Builtin} {p:Program} {w:World} {n₀:Nat} {ann:Option Value} {c:Code} {B:List Frame}
theorem zaZ1 {b:Nat}:∀ {n m:Nat} {s s1 s2:Shared} {t t1 t2:Thread},segGo tb p w n₀ ann b n s t=some (s1,t1)→segGo tb p w n₀ ann b m s1 t1=some (s2,t2)→segGo tb p w n₀ ann b (n + m) s t=some (s2,t2)
 | 0,m,s,s1,s2,t,t1,t2,h,k=>by
  obtain ⟨rfl,rfl⟩:s=s1∧t=t1:=by simpa [segGo] using h
  rw [Nat.zero_add]
  exact k
 | n + 1,m,s,s1,s2,t,t1,t2,h,k=>by
  rw [show n + 1 + m=n + m + 1 by omega]
  unfold segGo at h ⊢
  cases he:endAt b t with
  | some f=>rw [he] at h; cases h
  | none =>
   rw [he] at h
   cases hk:stepOk n₀ ann t with
   | false=>rw [hk] at h; cases h
   | true =>
    rw [hk] at h
    cases hs:step (denote tb) p w s t with
    | halt o s'=>rw [hs] at h; cases h
    | go s' t'=>rw [hs] at h; exact zaZ1 h k
def R (N:Nat) (tb:String→Option Builtin) (p:Program) (w:World) (n₀:Nat) (ann:Option Value) (c:Code) (B:List Frame) (m:Sem α) (s:Shared) (pos:Pos) (a:α) (s':Shared) (pos':Pos):Prop :=
 ∀ (K:α→Sem Fin) (H:Value→Sem Fin) (gd:Bool→Bool) (lv:List Value→List Value),∃ n,n≤N∧segGo tb p w n₀ ann B.length n s ⟨m.wrap K H gd lv,c,pos,B⟩=some (s',⟨K a,c,pos',B⟩)
variable {s s1 s':Shared} {pos pos1 pos':Pos} {N N1 N2:Nat}
theorem R.pure {a:α}:R 0 tb p w n₀ ann c B (Pure.pure a) s pos a s pos:=fun K H gd lv=>⟨0,Nat.le_refl _,rfl⟩
theorem R.mono {m:Sem α} {a:α} (hN:N1≤N) (h:R N1 tb p w n₀ ann c B m s pos a s' pos'):R N tb p w n₀ ann c B m s pos a s' pos':=fun K H gd lv=>let ⟨n,l,e⟩:=h K H gd lv; ⟨n,Nat.le_trans l hN,e⟩
theorem R.bind {m:Sem α} {f:α→Sem β} {a:α} {b:β} (h:R N1 tb p w n₀ ann c B m s pos a s1 pos1) (k:R N2 tb p w n₀ ann c B (f a) s1 pos1 b s' pos'):R (N1 + N2) tb p w n₀ ann c B (m>>=f) s pos b s' pos':=fun K H gd lv=>by
 obtain ⟨n1,l1,e1⟩:=h (fun a=>(f a).wrap K H gd lv) H gd lv
 obtain ⟨n2,l2,e2⟩:=k K H gd lv
 refine ⟨n1 + n2,Nat.add_le_add l1 l2,?_⟩
 have e:(m>>=f).wrap K H gd lv=m.wrap (fun a=>(f a).wrap K H gd lv) H gd lv:=by
  rw [Sem.bind_eq_wrap',Sem.wrap_wrap]
  rfl
 rw [e]
 exact zaZ1 e1 e2
theorem R.hold {m:Sem α} {vs:List Value} {a:α} (h:R N tb p w n₀ ann c B m s pos a s' pos'):R N tb p w n₀ ann c B (holding vs m) s pos a s' pos':=by
 unfold holding
 split
 ·exact h
 ·intro K H gd lv
  rw [Sem.keep_eq_wrap,Sem.wrap_wrap]
  exact h K H _ _
theorem R.leaf {m:Sem α} {a:α} {sT sT':SharedT} (n:Nat) (h:∀ (K:α→Sem Fin) (H:Value→Sem Fin) (gd:Bool→Bool) (lv:List Value→List Value),segGoT tb p w n₀ ann B.length n sT ⟨m.wrap K H gd lv,c,pos,B⟩=some (sT',⟨K a,c,pos',B⟩)):R n tb p w n₀ ann c B m sT.abs pos a sT'.abs pos':=fun K H gd lv=>⟨n,Nat.le_refl _,segGo_of (h K H gd lv)⟩
theorem R.piece {m:Sem Flow} {q:Pos} (h:R N tb p w n₀ ann c [topFrame q] m s pos .next s' pos'):∃ n,n≤N + 1∧segRun tb p w n₀ ann 1 n s ⟨m.wrap doneF deadEnd id id,c,pos,[topFrame q]⟩=some (.next,s',c,pos'):=by
 obtain ⟨n,l,e⟩:=h doneF deadEnd id id
 exact ⟨n + 1,Nat.succ_le_succ l,seg_go (N:=1) e rfl⟩
end
end HD
namespace HD
open PySem PySem.W
section
variable {α β:Type} {tb:String→Option Builtin} {p:Program} {w:World} {n₀:Nat} {ann:Option Value} {c:Code} {B:List Frame} {s s1 s':Shared} {pos pos1 pos':Pos}
def zap8:Stmt→List (Option Expr) | .Assign [.Name _ _] (.Dict ks _ _) _=>ks | _=>[]
def zar3:Stmt→List Expr | .Assign [.Name _ _] (.Dict _ vs _) _=>vs | _=>[]
def dpOf:Stmt→Pos | .Assign [.Name _ _] (.Dict _ _ dp) _=>dp | _=>default
def pxOf:Stmt→Pos | .Assign [.Name _ px] (.Dict _ _ _) _=>px | _=>default
def spOf:Stmt→Pos | .Assign _ _ sp=>sp | _=>default
end
end HD
set_option maxHeartbeats 0
namespace H19
open PySem PySem.W HD
open_shared pre for PySem.Challenge.pw_whens_k19_faults_and_rows_had leaving 41
abbrev prog:Program:=PySem.Challenge.pw_whens_k19_faults_and_rows_had
abbrev q0:Pos:=⟨0,0,0,0⟩
def st:Stmt:=prog.main.body.getD 7 (.Pass q0)
def mf (k:Nat) (cl:Value) (g:Addr) (clo:List (Str×Addr)) (d kd dc pm:Value) (an:Option Addr) (cd ct:Value) (bi:Addr):Obj:=match prog.main.body.getD k (.Pass q0) with
 | .FunctionDef n a b _ _ _ s _ _ _=>⟨cl,none,.func ⟨n,n,a,.stmts b,s,g,clo,d,kd,dc,pm,an,cd,ct,bi⟩,#[]⟩
 | _=>⟨cl,none,.plain,#[]⟩
def tq (xs:List Value):Obj:=⟨.type "tuple",none,.seq xs.toArray,#[]⟩
def fl (xs:List Value):Obj:=⟨.none,none,.fields xs.toArray,#[]⟩
def lf (o:Obj):BT:=.node o .nil .nil
noncomputable def o3 (P:Params):Obj:=⟨.type "dict",none,.dict #[⟨PyData.keyHash P "__name__",.str "__name__" 165,.str "law_whens_k19_faults_and_rows_had" 487⟩,⟨PyData.keyHash P "__doc__",.str "__doc__" 166,.none⟩,⟨PyData.keyHash P "__package__",.str "__package__" 167,.none⟩,⟨PyData.keyHash P "__loader__",.str "__loader__" 168,Value.builtin "__main__.__loader__#opaque"⟩,⟨PyData.keyHash P "__spec__",.str "__spec__" 169,.none⟩,⟨PyData.keyHash P "__annotations__",.str "__annotations__" 170,.ref 6⟩,⟨PyData.keyHash P "__builtins__",.str "__builtins__" 171,.ref 4⟩,⟨PyData.keyHash P "__file__",.str "__file__" 173,.str "/claim/cut.py" 172⟩,⟨PyData.keyHash P "__cached__",.str "__cached__" 174,.none⟩,⟨PyData.keyHash P "common",.str "common" 196,.ref 21⟩,⟨PyData.keyHash P "fraction",.str "fraction" 205,.ref 28⟩,⟨PyData.keyHash P "less",.str "less" 213,.ref 35⟩,⟨PyData.keyHash P "is_below",.str "is_below" 221,.ref 42⟩,⟨PyData.keyHash P "ORDER",.str "ORDER" 237,.ref 43⟩,⟨PyData.keyHash P "POINT_WORDS",.str "POINT_WORDS" 266,.ref 44⟩,⟨PyData.keyHash P "WAYS",.str "WAYS" 367,.ref 51⟩,⟨PyData.keyHash P "words_of",.str "words_of" 374,.ref 71⟩,⟨PyData.keyHash P "ways_by",.str "ways_by" 383,.ref 78⟩,⟨PyData.keyHash P "is_point",.str "is_point" 390,.ref 85⟩,⟨PyData.keyHash P "way_of",.str "way_of" 398,.ref 92⟩,⟨PyData.keyHash P "word_of",.str "word_of" 404,.ref 97⟩,⟨PyData.keyHash P "names_of",.str "names_of" 412,.ref 102⟩,⟨PyData.keyHash P "times_of",.str "times_of" 421,.ref 109⟩,⟨PyData.keyHash P "time_of",.str "time_of" 433,.ref 116⟩,⟨PyData.keyHash P "word_between",.str "word_between" 443,.ref 123⟩,⟨PyData.keyHash P "is_gap_met",.str "is_gap_met" 457,.ref 130⟩,⟨PyData.keyHash P "is_may_row",.str "is_may_row" 466,.ref 137⟩,⟨PyData.keyHash P "is_fault",.str "is_fault" 477,.ref 144⟩,⟨PyData.keyHash P "has_row",.str "has_row" 486,.ref 151⟩,⟨PyData.keyHash P "_law_feed",.str "_law_feed" 495,.ref 158⟩,⟨PyData.keyHash P "_law_draw",.str "_law_draw" 507,.ref 165⟩,⟨PyData.keyHash P "_law_things",.str "_law_things" 513,.ref 170⟩,⟨PyData.keyHash P "_law_words",.str "_law_words" 521,.ref 177⟩,⟨PyData.keyHash P "_law_back",.str "_law_back" 529,.ref 184⟩,⟨PyData.keyHash P "_law_sign",.str "_law_sign" 540,.ref 191⟩,⟨PyData.keyHash P "_law_sides",.str "_law_sides" 547,.ref 198⟩,⟨PyData.keyHash P "_law_all_signs",.str "_law_all_signs" 553,.ref 203⟩,⟨PyData.keyHash P "_law_kinds",.str "_law_kinds" 559,.ref 208⟩,⟨PyData.keyHash P "_law_all_ends",.str "_law_all_ends" 565,.ref 213⟩,⟨PyData.keyHash P "_law_lowest",.str "_law_lowest" 575,.ref 220⟩,⟨PyData.keyHash P "_law_added",.str "_law_added" 585,.ref 227⟩,⟨PyData.keyHash P "_law_time",.str "_law_time" 594,.ref 234⟩,⟨PyData.keyHash P "_law_telling",.str "_law_telling" 607,.ref 241⟩,⟨PyData.keyHash P "_law_clock",.str "_law_clock" 619,.ref 248⟩,⟨PyData.keyHash P "_law_order",.str "_law_order" 631,.ref 255⟩,⟨PyData.keyHash P "_law_word",.str "_law_word" 646,.ref 262⟩,⟨PyData.keyHash P "_law_may",.str "_law_may" 652,.ref 267⟩,⟨PyData.keyHash P "_law_two",.str "_law_two" 662,.ref 274⟩,⟨PyData.keyHash P "_law_gap",.str "_law_gap" 676,.ref 281⟩,⟨PyData.keyHash P "_law_gap_due",.str "_law_gap_due" 690,.ref 288⟩,⟨PyData.keyHash P "_law_right",.str "_law_right" 702,.ref 295⟩,⟨PyData.keyHash P "law",.str "law" 721,.ref 302⟩] 52,#[]⟩
noncomputable def o15 (P:Params):Obj:=tq []
noncomputable def o17 (P:Params):Obj:=tq [.str "one" 192,.str "other" 193]
noncomputable def o18 (P:Params):Obj:=tq []
noncomputable def o20 (P:Params):Obj:=⟨.type "code",none,.fields #[.str "common" 189,.str "common" 190,.str "/claim/cut.py" 191,.int 2 0,.int 2 0,.int 0 0,.int 0 0,.int 3 0,.ref 15,.bool true,.int 181 0,.ref 16,.none,.ref 17,.ref 18,.ref 19,.int 194 0,.int 2 0,.str "/claim/cut.py" 195],#[]⟩
noncomputable def o21 (P:Params):Obj:=mf 1 (.type "function") 3 [] .none .none .none (.str "whens.fractions" 187) none (.ref 20) .none 0
noncomputable def o22 (P:Params):Obj:=tq []
noncomputable def o24 (P:Params):Obj:=tq [.str "top" 200,.str "bottom" 201,.str "shared" 202]
noncomputable def o25 (P:Params):Obj:=tq []
noncomputable def o27 (P:Params):Obj:=⟨.type "code",none,.fields #[.str "fraction" 197,.str "fraction" 198,.str "/claim/cut.py" 199,.int 6 0,.int 2 0,.int 0 0,.int 0 0,.int 3 0,.ref 22,.bool true,.int 181 0,.ref 23,.none,.ref 24,.ref 25,.ref 26,.int 203 0,.int 6 0,.str "/claim/cut.py" 204],#[]⟩
noncomputable def o28 (P:Params):Obj:=mf 2 (.type "function") 3 [] .none .none .none (.str "whens.fractions" 187) none (.ref 27) .none 0
noncomputable def o29 (P:Params):Obj:=tq []
noncomputable def o31 (P:Params):Obj:=tq [.str "one" 209,.str "other" 210]
noncomputable def o32 (P:Params):Obj:=tq []
noncomputable def o34 (P:Params):Obj:=⟨.type "code",none,.fields #[.str "less" 206,.str "less" 207,.str "/claim/cut.py" 208,.int 11 0,.int 2 0,.int 0 0,.int 0 0,.int 3 0,.ref 29,.bool true,.int 181 0,.ref 30,.none,.ref 31,.ref 32,.ref 33,.int 211 0,.int 11 0,.str "/claim/cut.py" 212],#[]⟩
noncomputable def o35 (P:Params):Obj:=mf 3 (.type "function") 3 [] .none .none .none (.str "whens.fractions" 187) none (.ref 34) .none 0
noncomputable def o36 (P:Params):Obj:=tq []
noncomputable def o38 (P:Params):Obj:=tq [.str "one" 217,.str "other" 218]
noncomputable def o39 (P:Params):Obj:=tq []
noncomputable def o41 (P:Params):Obj:=⟨.type "code",none,.fields #[.str "is_below" 214,.str "is_below" 215,.str "/claim/cut.py" 216,.int 13 0,.int 2 0,.int 0 0,.int 0 0,.int 3 0,.ref 36,.bool true,.int 181 0,.ref 37,.none,.ref 38,.ref 39,.ref 40,.int 219 0,.int 13 0,.str "/claim/cut.py" 220],#[]⟩
noncomputable def o42 (P:Params):Obj:=mf 4 (.type "function") 3 [] .none .none .none (.str "whens.fractions" 187) none (.ref 41) .none 0
noncomputable def o43 (P:Params):Obj:=tq [.str "ahead" 224,.str "meets" 225,.str "overlaps" 226,.str "begins" 227,.str "within" 228,.str "ends" 229,.str "same" 230,.str "ended" 231,.str "holds" 232,.str "begun" 233,.str "lapped" 234,.str "met" 235,.str "behind" 236]
noncomputable def o51 (P:Params):Obj:=⟨.type "dict",none,.dict #[⟨PyData.keyHash P "ahead",.str "ahead" 267,.ref 52⟩,⟨PyData.keyHash P "meets",.str "meets" 276,.ref 53⟩,⟨PyData.keyHash P "overlaps",.str "overlaps" 284,.ref 54⟩,⟨PyData.keyHash P "begins",.str "begins" 292,.ref 55⟩,⟨PyData.keyHash P "within",.str "within" 299,.ref 56⟩,⟨PyData.keyHash P "ends",.str "ends" 306,.ref 57⟩,⟨PyData.keyHash P "same",.str "same" 312,.ref 58⟩,⟨PyData.keyHash P "ended",.str "ended" 318,.ref 59⟩,⟨PyData.keyHash P "holds",.str "holds" 325,.ref 60⟩,⟨PyData.keyHash P "begun",.str "begun" 332,.ref 61⟩,⟨PyData.keyHash P "lapped",.str "lapped" 338,.ref 62⟩,⟨PyData.keyHash P "met",.str "met" 344,.ref 63⟩,⟨PyData.keyHash P "behind",.str "behind" 349,.ref 64⟩] 13,#[]⟩
noncomputable def o52 (P:Params):Obj:=tq [.int (-1) 269,.int (-1) 271,.int (-1) 273,.int (-1) 275]
noncomputable def o53 (P:Params):Obj:=tq [.int (-1) 278,.int (-1) 280,.int 0 281,.int (-1) 283]
noncomputable def o54 (P:Params):Obj:=tq [.int (-1) 286,.int (-1) 288,.int 1 289,.int (-1) 291]
noncomputable def o55 (P:Params):Obj:=tq [.int 0 293,.int (-1) 295,.int 1 296,.int (-1) 298]
noncomputable def o56 (P:Params):Obj:=tq [.int 1 300,.int (-1) 302,.int 1 303,.int (-1) 305]
noncomputable def o57 (P:Params):Obj:=tq [.int 1 307,.int (-1) 309,.int 1 310,.int 0 311]
noncomputable def o58 (P:Params):Obj:=tq [.int 0 313,.int (-1) 315,.int 1 316,.int 0 317]
noncomputable def o59 (P:Params):Obj:=tq [.int (-1) 320,.int (-1) 322,.int 1 323,.int 0 324]
noncomputable def o60 (P:Params):Obj:=tq [.int (-1) 327,.int (-1) 329,.int 1 330,.int 1 331]
noncomputable def o61 (P:Params):Obj:=tq [.int 0 333,.int (-1) 335,.int 1 336,.int 1 337]
noncomputable def o62 (P:Params):Obj:=tq [.int 1 339,.int (-1) 341,.int 1 342,.int 1 343]
noncomputable def o63 (P:Params):Obj:=tq [.int 1 345,.int 0 346,.int 1 347,.int 1 348]
noncomputable def o64 (P:Params):Obj:=tq [.int 1 350,.int 1 351,.int 1 352,.int 1 353]
noncomputable def o65 (P:Params):Obj:=tq []
noncomputable def o67 (P:Params):Obj:=tq [.str "kinds" 371]
noncomputable def o68 (P:Params):Obj:=tq []
noncomputable def o70 (P:Params):Obj:=⟨.type "code",none,.fields #[.str "words_of" 368,.str "words_of" 369,.str "/claim/cut.py" 370,.int 19 0,.int 1 0,.int 0 0,.int 0 0,.int 3 0,.ref 65,.bool true,.int 181 0,.ref 66,.none,.ref 67,.ref 68,.ref 69,.int 372 0,.int 19 0,.str "/claim/cut.py" 373],#[]⟩
noncomputable def o71 (P:Params):Obj:=mf 9 (.type "function") 3 [] .none .none .none (.str "whens.words" 222) none (.ref 70) .none 0
noncomputable def o72 (P:Params):Obj:=tq []
noncomputable def o74 (P:Params):Obj:=tq [.str "kinds" 378,.str "word" 379,.str "ways" 380]
noncomputable def o75 (P:Params):Obj:=tq []
noncomputable def o77 (P:Params):Obj:=⟨.type "code",none,.fields #[.str "ways_by" 375,.str "ways_by" 376,.str "/claim/cut.py" 377,.int 21 0,.int 2 0,.int 0 0,.int 0 0,.int 3 0,.ref 72,.bool true,.int 181 0,.ref 73,.none,.ref 74,.ref 75,.ref 76,.int 381 0,.int 21 0,.str "/claim/cut.py" 382],#[]⟩
noncomputable def o78 (P:Params):Obj:=mf 10 (.type "function") 3 [] .none .none .none (.str "whens.words" 222) none (.ref 77) .none 0
noncomputable def o79 (P:Params):Obj:=tq []
noncomputable def o81 (P:Params):Obj:=tq [.str "times" 387]
noncomputable def o82 (P:Params):Obj:=tq []
noncomputable def o84 (P:Params):Obj:=⟨.type "code",none,.fields #[.str "is_point" 384,.str "is_point" 385,.str "/claim/cut.py" 386,.int 28 0,.int 1 0,.int 0 0,.int 0 0,.int 3 0,.ref 79,.bool true,.int 181 0,.ref 80,.none,.ref 81,.ref 82,.ref 83,.int 388 0,.int 28 0,.str "/claim/cut.py" 389],#[]⟩
noncomputable def o85 (P:Params):Obj:=mf 11 (.type "function") 3 [] .none .none .none (.str "whens.words" 222) none (.ref 84) .none 0
noncomputable def o86 (P:Params):Obj:=tq []
noncomputable def o88 (P:Params):Obj:=tq [.str "one" 394,.str "other" 395]
noncomputable def o89 (P:Params):Obj:=tq []
noncomputable def o91 (P:Params):Obj:=⟨.type "code",none,.fields #[.str "way_of" 391,.str "way_of" 392,.str "/claim/cut.py" 393,.int 30 0,.int 2 0,.int 0 0,.int 0 0,.int 3 0,.ref 86,.bool true,.int 181 0,.ref 87,.none,.ref 88,.ref 89,.ref 90,.int 396 0,.int 30 0,.str "/claim/cut.py" 397],#[]⟩
noncomputable def o92 (P:Params):Obj:=mf 12 (.type "function") 3 [] .none .none .none (.str "whens.words" 222) none (.ref 91) .none 0
noncomputable def o93 (P:Params):Obj:=tq []
noncomputable def o96 (P:Params):Obj:=⟨.type "code",none,.fields #[.str "word_of" 399,.str "word_of" 400,.str "/claim/cut.py" 401,.int 36 0,.int 2 0,.int 0 0,.int 0 0,.int 3 0,.ref 93,.bool true,.int 181 0,.ref 94,.none,.none,.none,.ref 95,.int 402 0,.int 36 0,.str "/claim/cut.py" 403],#[]⟩
noncomputable def o97 (P:Params):Obj:=mf 13 (.type "function") 3 [] .none .none .none (.str "whens.words" 222) none (.ref 96) .none 0
noncomputable def o98 (P:Params):Obj:=tq []
noncomputable def o101 (P:Params):Obj:=⟨.type "code",none,.fields #[.str "names_of" 407,.str "names_of" 408,.str "/claim/cut.py" 409,.int 43 0,.int 1 0,.int 0 0,.int 0 0,.int 3 0,.ref 98,.bool true,.int 181 0,.ref 99,.none,.none,.none,.ref 100,.int 410 0,.int 43 0,.str "/claim/cut.py" 411],#[]⟩
noncomputable def o102 (P:Params):Obj:=mf 15 (.type "function") 3 [] .none .none .none (.str "whens.tellings" 405) none (.ref 101) .none 0
noncomputable def o103 (P:Params):Obj:=tq []
noncomputable def o105 (P:Params):Obj:=tq [.str "things" 416,.str "telling" 417,.str "name" 418]
noncomputable def o106 (P:Params):Obj:=tq []
noncomputable def o108 (P:Params):Obj:=⟨.type "code",none,.fields #[.str "times_of" 413,.str "times_of" 414,.str "/claim/cut.py" 415,.int 45 0,.int 3 0,.int 0 0,.int 0 0,.int 3 0,.ref 103,.bool true,.int 181 0,.ref 104,.none,.ref 105,.ref 106,.ref 107,.int 419 0,.int 45 0,.str "/claim/cut.py" 420],#[]⟩
noncomputable def o109 (P:Params):Obj:=mf 16 (.type "function") 3 [] .none .none .none (.str "whens.tellings" 405) none (.ref 108) .none 0
noncomputable def o110 (P:Params):Obj:=tq []
noncomputable def o112 (P:Params):Obj:=tq [.str "things" 425,.str "telling" 426,.str "end" 427,.str "name" 428,.str "number" 429,.str "times" 430]
noncomputable def o113 (P:Params):Obj:=tq []
noncomputable def o115 (P:Params):Obj:=⟨.type "code",none,.fields #[.str "time_of" 422,.str "time_of" 423,.str "/claim/cut.py" 424,.int 47 0,.int 3 0,.int 0 0,.int 0 0,.int 3 0,.ref 110,.bool true,.int 181 0,.ref 111,.none,.ref 112,.ref 113,.ref 114,.int 431 0,.int 47 0,.str "/claim/cut.py" 432],#[]⟩
noncomputable def o116 (P:Params):Obj:=mf 17 (.type "function") 3 [] .none .none .none (.str "whens.tellings" 405) none (.ref 115) .none 0
noncomputable def o117 (P:Params):Obj:=tq []
noncomputable def o119 (P:Params):Obj:=tq [.str "things" 437,.str "telling" 438,.str "a" 439,.str "b" 440]
noncomputable def o120 (P:Params):Obj:=tq []
noncomputable def o122 (P:Params):Obj:=⟨.type "code",none,.fields #[.str "word_between" 434,.str "word_between" 435,.str "/claim/cut.py" 436,.int 51 0,.int 4 0,.int 0 0,.int 0 0,.int 3 0,.ref 117,.bool true,.int 181 0,.ref 118,.none,.ref 119,.ref 120,.ref 121,.int 441 0,.int 51 0,.str "/claim/cut.py" 442],#[]⟩
noncomputable def o123 (P:Params):Obj:=mf 18 (.type "function") 3 [] .none .none .none (.str "whens.tellings" 405) none (.ref 122) .none 0
noncomputable def o124 (P:Params):Obj:=tq []
noncomputable def o126 (P:Params):Obj:=tq [.str "things" 447,.str "telling" 448,.str "gap" 449,.str "x" 450,.str "y" 451,.str "number" 452,.str "strict" 453,.str "apart" 454]
noncomputable def o127 (P:Params):Obj:=tq []
noncomputable def o129 (P:Params):Obj:=⟨.type "code",none,.fields #[.str "is_gap_met" 444,.str "is_gap_met" 445,.str "/claim/cut.py" 446,.int 53 0,.int 3 0,.int 0 0,.int 0 0,.int 3 0,.ref 124,.bool true,.int 181 0,.ref 125,.none,.ref 126,.ref 127,.ref 128,.int 455 0,.int 53 0,.str "/claim/cut.py" 456],#[]⟩
noncomputable def o130 (P:Params):Obj:=mf 19 (.type "function") 3 [] .none .none .none (.str "whens.tellings" 405) none (.ref 129) .none 0
noncomputable def o131 (P:Params):Obj:=tq []
noncomputable def o133 (P:Params):Obj:=tq [.str "row" 463]
noncomputable def o134 (P:Params):Obj:=tq []
noncomputable def o136 (P:Params):Obj:=⟨.type "code",none,.fields #[.str "is_may_row" 460,.str "is_may_row" 461,.str "/claim/cut.py" 462,.int 58 0,.int 1 0,.int 0 0,.int 0 0,.int 3 0,.ref 131,.bool true,.int 181 0,.ref 132,.none,.ref 133,.ref 134,.ref 135,.int 464 0,.int 58 0,.str "/claim/cut.py" 465],#[]⟩
noncomputable def o137 (P:Params):Obj:=mf 21 (.type "function") 3 [] .none .none .none (.str "whens.rows" 458) none (.ref 136) .none 0
noncomputable def o138 (P:Params):Obj:=tq []
noncomputable def o140 (P:Params):Obj:=tq [.str "row" 470,.str "x" 471,.str "y" 472,.str "number" 473,.str "strict" 474]
noncomputable def o141 (P:Params):Obj:=tq []
noncomputable def o143 (P:Params):Obj:=⟨.type "code",none,.fields #[.str "is_fault" 467,.str "is_fault" 468,.str "/claim/cut.py" 469,.int 60 0,.int 1 0,.int 0 0,.int 0 0,.int 3 0,.ref 138,.bool true,.int 181 0,.ref 139,.none,.ref 140,.ref 141,.ref 142,.int 475 0,.int 60 0,.str "/claim/cut.py" 476],#[]⟩
noncomputable def o144 (P:Params):Obj:=mf 22 (.type "function") 3 [] .none .none .none (.str "whens.rows" 458) none (.ref 143) .none 0
noncomputable def o145 (P:Params):Obj:=tq []
noncomputable def o147 (P:Params):Obj:=tq [.str "things" 481,.str "telling" 482,.str "row" 483]
noncomputable def o148 (P:Params):Obj:=tq []
noncomputable def o150 (P:Params):Obj:=⟨.type "code",none,.fields #[.str "has_row" 478,.str "has_row" 479,.str "/claim/cut.py" 480,.int 65 0,.int 3 0,.int 0 0,.int 0 0,.int 3 0,.ref 145,.bool true,.int 181 0,.ref 146,.none,.ref 147,.ref 148,.ref 149,.int 484 0,.int 65 0,.str "/claim/cut.py" 485],#[]⟩
noncomputable def o151 (P:Params):Obj:=mf 23 (.type "function") 3 [] .none .none .none (.str "whens.rows" 458) none (.ref 150) .none 0
noncomputable def o152 (P:Params):Obj:=tq []
noncomputable def o154 (P:Params):Obj:=tq [.str "_law_script" 492]
noncomputable def o155 (P:Params):Obj:=tq []
noncomputable def o157 (P:Params):Obj:=⟨.type "code",none,.fields #[.str "_law_feed" 489,.str "_law_feed" 490,.str "/claim/cut.py" 491,.int 70 0,.int 1 0,.int 0 0,.int 0 0,.int 3 0,.ref 152,.bool true,.int 181 0,.ref 153,.none,.ref 154,.ref 155,.ref 156,.int 493 0,.int 70 0,.str "/claim/cut.py" 494],#[]⟩
noncomputable def o158 (P:Params):Obj:=mf 25 (.type "function") 3 [] .none .none .none (.str "law_whens_k19_faults_and_rows_had" 487) none (.ref 157) .none 0
noncomputable def o159 (P:Params):Obj:=tq []
noncomputable def o161 (P:Params):Obj:=tq [.str "_law_feed_here" 499,.str "_law_many" 500,.str "_law_turn" 501,.str "_law_cell" 502,.str "_law_mixed" 503,.str "_law_digit" 504]
noncomputable def o162 (P:Params):Obj:=tq []
noncomputable def o164 (P:Params):Obj:=⟨.type "code",none,.fields #[.str "_law_draw" 496,.str "_law_draw" 497,.str "/claim/cut.py" 498,.int 72 0,.int 2 0,.int 0 0,.int 0 0,.int 3 0,.ref 159,.bool true,.int 181 0,.ref 160,.none,.ref 161,.ref 162,.ref 163,.int 505 0,.int 72 0,.str "/claim/cut.py" 506],#[]⟩
noncomputable def o165 (P:Params):Obj:=mf 26 (.type "function") 3 [] .none .none .none (.str "law_whens_k19_faults_and_rows_had" 487) none (.ref 164) .none 0
noncomputable def o166 (P:Params):Obj:=tq []
noncomputable def o169 (P:Params):Obj:=⟨.type "code",none,.fields #[.str "_law_things" 508,.str "_law_things" 509,.str "/claim/cut.py" 510,.int 86 0,.int 3 0,.int 0 0,.int 0 0,.int 3 0,.ref 166,.bool true,.int 181 0,.ref 167,.none,.none,.none,.ref 168,.int 511 0,.int 86 0,.str "/claim/cut.py" 512],#[]⟩
noncomputable def o170 (P:Params):Obj:=mf 27 (.type "function") 3 [] .none .none .none (.str "law_whens_k19_faults_and_rows_had" 487) none (.ref 169) .none 0
noncomputable def o171 (P:Params):Obj:=tq []
noncomputable def o173 (P:Params):Obj:=tq [.str "_law_kinds_here" 517,.str "_law_some" 518]
noncomputable def o174 (P:Params):Obj:=tq []
noncomputable def o176 (P:Params):Obj:=⟨.type "code",none,.fields #[.str "_law_words" 514,.str "_law_words" 515,.str "/claim/cut.py" 516,.int 97 0,.int 1 0,.int 0 0,.int 0 0,.int 3 0,.ref 171,.bool true,.int 181 0,.ref 172,.none,.ref 173,.ref 174,.ref 175,.int 519 0,.int 97 0,.str "/claim/cut.py" 520],#[]⟩
noncomputable def o177 (P:Params):Obj:=mf 28 (.type "function") 3 [] .none .none .none (.str "law_whens_k19_faults_and_rows_had" 487) none (.ref 176) .none 0
noncomputable def o178 (P:Params):Obj:=tq []
noncomputable def o180 (P:Params):Obj:=tq [.str "_law_word_here" 525,.str "_law_order_here" 526]
noncomputable def o181 (P:Params):Obj:=tq []
noncomputable def o183 (P:Params):Obj:=⟨.type "code",none,.fields #[.str "_law_back" 522,.str "_law_back" 523,.str "/claim/cut.py" 524,.int 106 0,.int 1 0,.int 0 0,.int 0 0,.int 3 0,.ref 178,.bool true,.int 181 0,.ref 179,.none,.ref 180,.ref 181,.ref 182,.int 527 0,.int 106 0,.str "/claim/cut.py" 528],#[]⟩
noncomputable def o184 (P:Params):Obj:=mf 29 (.type "function") 3 [] .none .none .none (.str "law_whens_k19_faults_and_rows_had" 487) none (.ref 183) .none 0
noncomputable def o185 (P:Params):Obj:=tq []
noncomputable def o187 (P:Params):Obj:=tq [.str "_law_kinds_here" 533,.str "_law_word_here" 534,.str "_law_x" 535,.str "_law_y" 536,.str "_law_some" 537]
noncomputable def o188 (P:Params):Obj:=tq []
noncomputable def o190 (P:Params):Obj:=⟨.type "code",none,.fields #[.str "_law_sign" 530,.str "_law_sign" 531,.str "/claim/cut.py" 532,.int 109 0,.int 4 0,.int 0 0,.int 0 0,.int 3 0,.ref 185,.bool true,.int 181 0,.ref 186,.none,.ref 187,.ref 188,.ref 189,.int 538 0,.int 109 0,.str "/claim/cut.py" 539],#[]⟩
noncomputable def o191 (P:Params):Obj:=mf 30 (.type "function") 3 [] .none .none .none (.str "law_whens_k19_faults_and_rows_had" 487) none (.ref 190) .none 0
noncomputable def o192 (P:Params):Obj:=tq []
noncomputable def o194 (P:Params):Obj:=tq [.str "_law_kind" 544]
noncomputable def o195 (P:Params):Obj:=tq []
noncomputable def o197 (P:Params):Obj:=⟨.type "code",none,.fields #[.str "_law_sides" 541,.str "_law_sides" 542,.str "/claim/cut.py" 543,.int 115 0,.int 1 0,.int 0 0,.int 0 0,.int 3 0,.ref 192,.bool true,.int 181 0,.ref 193,.none,.ref 194,.ref 195,.ref 196,.int 545 0,.int 115 0,.str "/claim/cut.py" 546],#[]⟩
noncomputable def o198 (P:Params):Obj:=mf 31 (.type "function") 3 [] .none .none .none (.str "law_whens_k19_faults_and_rows_had" 487) none (.ref 197) .none 0
noncomputable def o199 (P:Params):Obj:=tq []
noncomputable def o202 (P:Params):Obj:=⟨.type "code",none,.fields #[.str "_law_all_signs" 548,.str "_law_all_signs" 549,.str "/claim/cut.py" 550,.int 117 0,.int 2 0,.int 0 0,.int 0 0,.int 3 0,.ref 199,.bool true,.int 181 0,.ref 200,.none,.none,.none,.ref 201,.int 551 0,.int 117 0,.str "/claim/cut.py" 552],#[]⟩
noncomputable def o203 (P:Params):Obj:=mf 32 (.type "function") 3 [] .none .none .none (.str "law_whens_k19_faults_and_rows_had" 487) none (.ref 202) .none 0
noncomputable def o204 (P:Params):Obj:=tq []
noncomputable def o207 (P:Params):Obj:=⟨.type "code",none,.fields #[.str "_law_kinds" 554,.str "_law_kinds" 555,.str "/claim/cut.py" 556,.int 122 0,.int 2 0,.int 0 0,.int 0 0,.int 3 0,.ref 204,.bool true,.int 181 0,.ref 205,.none,.none,.none,.ref 206,.int 557 0,.int 122 0,.str "/claim/cut.py" 558],#[]⟩
noncomputable def o208 (P:Params):Obj:=mf 33 (.type "function") 3 [] .none .none .none (.str "law_whens_k19_faults_and_rows_had" 487) none (.ref 207) .none 0
noncomputable def o209 (P:Params):Obj:=tq []
noncomputable def o212 (P:Params):Obj:=⟨.type "code",none,.fields #[.str "_law_all_ends" 560,.str "_law_all_ends" 561,.str "/claim/cut.py" 562,.int 125 0,.int 1 0,.int 0 0,.int 0 0,.int 3 0,.ref 209,.bool true,.int 181 0,.ref 210,.none,.none,.none,.ref 211,.int 563 0,.int 125 0,.str "/claim/cut.py" 564],#[]⟩
noncomputable def o213 (P:Params):Obj:=mf 34 (.type "function") 3 [] .none .none .none (.str "law_whens_k19_faults_and_rows_had" 487) none (.ref 212) .none 0
noncomputable def o214 (P:Params):Obj:=tq []
noncomputable def o216 (P:Params):Obj:=tq [.str "_law_top" 569,.str "_law_bottom" 570,.str "_law_one" 571,.str "_law_other" 572]
noncomputable def o217 (P:Params):Obj:=tq []
noncomputable def o219 (P:Params):Obj:=⟨.type "code",none,.fields #[.str "_law_lowest" 566,.str "_law_lowest" 567,.str "/claim/cut.py" 568,.int 130 0,.int 2 0,.int 0 0,.int 0 0,.int 3 0,.ref 214,.bool true,.int 181 0,.ref 215,.none,.ref 216,.ref 217,.ref 218,.int 573 0,.int 130 0,.str "/claim/cut.py" 574],#[]⟩
noncomputable def o220 (P:Params):Obj:=mf 35 (.type "function") 3 [] .none .none .none (.str "law_whens_k19_faults_and_rows_had" 487) none (.ref 219) .none 0
noncomputable def o221 (P:Params):Obj:=tq []
noncomputable def o223 (P:Params):Obj:=tq [.str "_law_one" 579,.str "_law_other" 580,.str "_law_sign_here" 581,.str "_law_top" 582]
noncomputable def o224 (P:Params):Obj:=tq []
noncomputable def o226 (P:Params):Obj:=⟨.type "code",none,.fields #[.str "_law_added" 576,.str "_law_added" 577,.str "/claim/cut.py" 578,.int 136 0,.int 3 0,.int 0 0,.int 0 0,.int 3 0,.ref 221,.bool true,.int 181 0,.ref 222,.none,.ref 223,.ref 224,.ref 225,.int 583 0,.int 136 0,.str "/claim/cut.py" 584],#[]⟩
noncomputable def o227 (P:Params):Obj:=mf 36 (.type "function") 3 [] .none .none .none (.str "law_whens_k19_faults_and_rows_had" 487) none (.ref 226) .none 0
noncomputable def o228 (P:Params):Obj:=tq []
noncomputable def o230 (P:Params):Obj:=tq [.str "_law_feed_here" 589,.str "_law_top" 590,.str "_law_bottom" 591]
noncomputable def o231 (P:Params):Obj:=tq []
noncomputable def o233 (P:Params):Obj:=⟨.type "code",none,.fields #[.str "_law_time" 586,.str "_law_time" 587,.str "/claim/cut.py" 588,.int 139 0,.int 1 0,.int 0 0,.int 0 0,.int 3 0,.ref 228,.bool true,.int 181 0,.ref 229,.none,.ref 230,.ref 231,.ref 232,.int 592 0,.int 139 0,.str "/claim/cut.py" 593],#[]⟩
noncomputable def o234 (P:Params):Obj:=mf 37 (.type "function") 3 [] .none .none .none (.str "law_whens_k19_faults_and_rows_had" 487) none (.ref 233) .none 0
noncomputable def o235 (P:Params):Obj:=tq []
noncomputable def o237 (P:Params):Obj:=tq [.str "_law_feed_here" 598,.str "_law_things_here" 599,.str "_law_found" 600,.str "_law_name" 601,.str "_law_kind" 602,.str "_law_one" 603,.str "_law_other" 604]
noncomputable def o238 (P:Params):Obj:=tq []
noncomputable def o240 (P:Params):Obj:=⟨.type "code",none,.fields #[.str "_law_telling" 595,.str "_law_telling" 596,.str "/claim/cut.py" 597,.int 143 0,.int 2 0,.int 0 0,.int 0 0,.int 3 0,.ref 235,.bool true,.int 181 0,.ref 236,.none,.ref 237,.ref 238,.ref 239,.int 605 0,.int 143 0,.str "/claim/cut.py" 606],#[]⟩
noncomputable def o241 (P:Params):Obj:=mf 38 (.type "function") 3 [] .none .none .none (.str "law_whens_k19_faults_and_rows_had" 487) none (.ref 240) .none 0
noncomputable def o242 (P:Params):Obj:=tq []
noncomputable def o244 (P:Params):Obj:=tq [.str "_law_things_here" 611,.str "_law_telling_here" 612,.str "_law_found" 613,.str "_law_thing" 614,.str "_law_own" 615,.str "_law_side" 616]
noncomputable def o245 (P:Params):Obj:=tq []
noncomputable def o247 (P:Params):Obj:=⟨.type "code",none,.fields #[.str "_law_clock" 608,.str "_law_clock" 609,.str "/claim/cut.py" 610,.int 154 0,.int 2 0,.int 0 0,.int 0 0,.int 3 0,.ref 242,.bool true,.int 181 0,.ref 243,.none,.ref 244,.ref 245,.ref 246,.int 617 0,.int 154 0,.str "/claim/cut.py" 618],#[]⟩
noncomputable def o248 (P:Params):Obj:=mf 39 (.type "function") 3 [] .none .none .none (.str "law_whens_k19_faults_and_rows_had" 487) none (.ref 247) .none 0
noncomputable def o249 (P:Params):Obj:=tq []
noncomputable def o251 (P:Params):Obj:=tq [.str "_law_clock_here" 623,.str "_law_x" 624,.str "_law_y" 625,.str "_law_one" 626,.str "_law_other" 627,.str "_law_apart" 628]
noncomputable def o252 (P:Params):Obj:=tq []
noncomputable def o254 (P:Params):Obj:=⟨.type "code",none,.fields #[.str "_law_order" 620,.str "_law_order" 621,.str "/claim/cut.py" 622,.int 160 0,.int 3 0,.int 0 0,.int 0 0,.int 3 0,.ref 249,.bool true,.int 181 0,.ref 250,.none,.ref 251,.ref 252,.ref 253,.int 629 0,.int 160 0,.str "/claim/cut.py" 630],#[]⟩
noncomputable def o255 (P:Params):Obj:=mf 40 (.type "function") 3 [] .none .none .none (.str "law_whens_k19_faults_and_rows_had" 487) none (.ref 254) .none 0
noncomputable def o256 (P:Params):Obj:=tq []
noncomputable def o258 (P:Params):Obj:=tq [.str "_law_things_here" 635,.str "_law_clock_here" 636,.str "_law_a" 637,.str "_law_b" 638,.str "_law_kinds_here" 639,.str "_law_due" 640,.str "_law_x" 641,.str "_law_y" 642,.str "_law_word_here" 643]
noncomputable def o259 (P:Params):Obj:=tq []
noncomputable def o261 (P:Params):Obj:=⟨.type "code",none,.fields #[.str "_law_word" 632,.str "_law_word" 633,.str "/claim/cut.py" 634,.int 165 0,.int 4 0,.int 0 0,.int 0 0,.int 3 0,.ref 256,.bool true,.int 181 0,.ref 257,.none,.ref 258,.ref 259,.ref 260,.int 644 0,.int 165 0,.str "/claim/cut.py" 645],#[]⟩
noncomputable def o262 (P:Params):Obj:=mf 41 (.type "function") 3 [] .none .none .none (.str "law_whens_k19_faults_and_rows_had" 487) none (.ref 261) .none 0
noncomputable def o263 (P:Params):Obj:=tq []
noncomputable def o266 (P:Params):Obj:=⟨.type "code",none,.fields #[.str "_law_may" 647,.str "_law_may" 648,.str "/claim/cut.py" 649,.int 175 0,.int 2 0,.int 0 0,.int 0 0,.int 3 0,.ref 263,.bool true,.int 181 0,.ref 264,.none,.none,.none,.ref 265,.int 650 0,.int 175 0,.str "/claim/cut.py" 651],#[]⟩
noncomputable def o267 (P:Params):Obj:=mf 42 (.type "function") 3 [] .none .none .none (.str "law_whens_k19_faults_and_rows_had" 487) none (.ref 266) .none 0
noncomputable def o268 (P:Params):Obj:=tq []
noncomputable def o270 (P:Params):Obj:=tq [.str "_law_feed_here" 656,.str "_law_things_here" 657,.str "_law_one" 658,.str "_law_other" 659]
noncomputable def o271 (P:Params):Obj:=tq []
noncomputable def o273 (P:Params):Obj:=⟨.type "code",none,.fields #[.str "_law_two" 653,.str "_law_two" 654,.str "/claim/cut.py" 655,.int 184 0,.int 2 0,.int 0 0,.int 0 0,.int 3 0,.ref 268,.bool true,.int 181 0,.ref 269,.none,.ref 270,.ref 271,.ref 272,.int 660 0,.int 184 0,.str "/claim/cut.py" 661],#[]⟩
noncomputable def o274 (P:Params):Obj:=mf 43 (.type "function") 3 [] .none .none .none (.str "law_whens_k19_faults_and_rows_had" 487) none (.ref 273) .none 0
noncomputable def o275 (P:Params):Obj:=tq []
noncomputable def o277 (P:Params):Obj:=tq [.str "_law_feed_here" 666,.str "_law_things_here" 667,.str "_law_clock_here" 668,.str "_law_some" 669,.str "_law_x" 670,.str "_law_y" 671,.str "_law_more" 672,.str "_law_number" 673]
noncomputable def o278 (P:Params):Obj:=tq []
noncomputable def o280 (P:Params):Obj:=⟨.type "code",none,.fields #[.str "_law_gap" 663,.str "_law_gap" 664,.str "/claim/cut.py" 665,.int 188 0,.int 3 0,.int 0 0,.int 0 0,.int 3 0,.ref 275,.bool true,.int 181 0,.ref 276,.none,.ref 277,.ref 278,.ref 279,.int 674 0,.int 188 0,.str "/claim/cut.py" 675],#[]⟩
noncomputable def o281 (P:Params):Obj:=mf 44 (.type "function") 3 [] .none .none .none (.str "law_whens_k19_faults_and_rows_had" 487) none (.ref 280) .none 0
noncomputable def o282 (P:Params):Obj:=tq []
noncomputable def o284 (P:Params):Obj:=tq [.str "_law_clock_here" 680,.str "_law_row" 681,.str "_law_x" 682,.str "_law_y" 683,.str "_law_number" 684,.str "_law_strict" 685,.str "_law_apart" 686,.str "_law_over" 687]
noncomputable def o285 (P:Params):Obj:=tq []
noncomputable def o287 (P:Params):Obj:=⟨.type "code",none,.fields #[.str "_law_gap_due" 677,.str "_law_gap_due" 678,.str "/claim/cut.py" 679,.int 196 0,.int 2 0,.int 0 0,.int 0 0,.int 3 0,.ref 282,.bool true,.int 181 0,.ref 283,.none,.ref 284,.ref 285,.ref 286,.int 688 0,.int 196 0,.str "/claim/cut.py" 689],#[]⟩
noncomputable def o288 (P:Params):Obj:=mf 45 (.type "function") 3 [] .none .none .none (.str "law_whens_k19_faults_and_rows_had" 487) none (.ref 287) .none 0
noncomputable def o289 (P:Params):Obj:=tq []
noncomputable def o291 (P:Params):Obj:=tq [.str "_law_things_here" 694,.str "_law_telling_here" 695,.str "_law_row" 696,.str "_law_fault" 697,.str "_law_due" 698,.str "_law_stood" 699]
noncomputable def o292 (P:Params):Obj:=tq []
noncomputable def o294 (P:Params):Obj:=⟨.type "code",none,.fields #[.str "_law_right" 691,.str "_law_right" 692,.str "/claim/cut.py" 693,.int 201 0,.int 5 0,.int 0 0,.int 0 0,.int 3 0,.ref 289,.bool true,.int 181 0,.ref 290,.none,.ref 291,.ref 292,.ref 293,.int 700 0,.int 201 0,.str "/claim/cut.py" 701],#[]⟩
noncomputable def o295 (P:Params):Obj:=mf 46 (.type "function") 3 [] .none .none .none (.str "law_whens_k19_faults_and_rows_had" 487) none (.ref 294) .none 0
noncomputable def o296 (P:Params):Obj:=tq []
noncomputable def o298 (P:Params):Obj:=tq [.str "_law_script" 706,.str "_law_feed_here" 707,.str "_law_k" 708,.str "_law_things_here" 709,.str "_law_telling_here" 710,.str "_law_clock_here" 711,.str "_law_j" 712,.str "_law_row" 713,.str "_law_fault" 714,.str "_law_a" 715,.str "_law_b" 716,.str "_law_words_here" 717,.str "_law_due" 718]
noncomputable def o299 (P:Params):Obj:=tq []
noncomputable def o301 (P:Params):Obj:=⟨.type "code",none,.fields #[.str "law" 703,.str "law" 704,.str "/claim/cut.py" 705,.int 206 0,.int 1 0,.int 0 0,.int 0 0,.int 3 0,.ref 296,.bool true,.int 181 0,.ref 297,.none,.ref 298,.ref 299,.ref 300,.int 719 0,.int 206 0,.str "/claim/cut.py" 720],#[]⟩
noncomputable def o302 (P:Params):Obj:=mf 47 (.type "function") 3 [] .none .none .none (.str "law_whens_k19_faults_and_rows_had" 487) none (.ref 301) .none 0
noncomputable def tF (P:Params):BT:=(.node (boot_o_0 P) (.node (boot_o_1 P) (.node (o3 P) (.node (boot_o_7 P) (.node (o15 P) (.node (o31 P) (.node (o63 P) (.node (o127 P) (lf (o255 P)) .nil) (lf (o191 P))) (.node (mf 13 (.none) 0 [] .none .none .none .none none .none .none 0) (.node (o159 P) (lf (o287 P)) .nil) (lf (o223 P)))) (.node (tq []) (.node (o79 P) (.node (o143 P) (lf (o271 P)) .nil) (lf (o207 P))) (.node (fl []) (lf (mf 28 (.none) 0 [] .none .none .none .none none .none .none 0)) (lf (mf 38 (.none) 0 [] .none .none .none .none none .none .none 0))))) (.node (fl []) (.node (o39 P) (.node (o71 P) (.node (mf 21 (.none) 0 [] .none .none .none .none none .none .none 0) (lf (o263 P)) .nil) (lf (o199 P))) (.node (o103 P) (.node (fl []) (lf (o295 P)) .nil) (lf (o231 P)))) (.node (o55 P) (.node (fl []) (.node (o151 P) (lf (mf 44 (.none) 0 [] .none .none .none .none none .none .none 0)) .nil) (lf (fl []))) (.node (o119 P) (lf (o183 P)) (lf (o247 P)))))) (.node (tq []) (.node (mf 1 (.none) 0 [] .none .none .none .none none .none .none 0) (.node (o35 P) (.node (o67 P) (.node (o131 P) (lf (o259 P)) .nil) (lf (o195 P))) (.node (fl []) (.node (mf 26 (.none) 0 [] .none .none .none .none none .none .none 0) (lf (o291 P)) .nil) (lf (o227 P)))) (.node (o51 P) (.node (mf 11 (.none) 0 [] .none .none .none .none none .none .none 0) (.node (o147 P) (lf (o275 P)) .nil) (lf (mf 34 (.none) 0 [] .none .none .none .none none .none .none 0))) (.node (o115 P) (lf (fl [])) (lf (fl []))))) (.node (o27 P) (.node (o43 P) (.node (o75 P) (.node (fl []) (lf (o267 P)) .nil) (lf (o203 P))) (.node (mf 16 (.none) 0 [] .none .none .none .none none .none .none 0) (.node (o171 P) (lf (o299 P)) .nil) (lf (o235 P)))) (.node (o59 P) (.node (o91 P) (.node (o155 P) (lf (fl [])) .nil) (lf (o219 P))) (.node (o123 P) (lf (o187 P)) (lf (o251 P))))))) (.node (boot_o_5 P) (.node (boot_o_9 P) (.node (o17 P) (.node (mf 3 (.none) 0 [] .none .none .none .none none .none .none 0) (.node (o65 P) (.node (o129 P) (lf (fl [])) .nil) (lf (fl []))) (.node (o97 P) (.node (o161 P) (lf (o289 P)) .nil) (lf (mf 36 (.none) 0 [] .none .none .none .none none .none .none 0)))) (.node (tq []) (.node (o81 P) (.node (o145 P) (lf (o273 P)) .nil) (lf (o209 P))) (.node (o113 P) (lf (o177 P)) (lf (o241 P))))) (.node (o25 P) (.node (o41 P) (.node (fl []) (.node (o137 P) (lf (mf 42 (.none) 0 [] .none .none .none .none none .none .none 0)) .nil) (lf (mf 32 (.none) 0 [] .none .none .none .none none .none .none 0))) (.node (o105 P) (.node (o169 P) (lf (fl [])) .nil) (lf (o233 P)))) (.node (o57 P) (.node (o89 P) (.node (fl []) (lf (o281 P)) .nil) (lf (o217 P))) (.node (mf 18 (.none) 0 [] .none .none .none .none none .none .none 0) (lf (o185 P)) (lf (o249 P)))))) (.node (⟨.type "code",none,.fields #[.str "<module>" 182,.str "<module>" 183,.str "/claim/cut.py" 184,.int 1 0,.int 0 0,.int 0 0,.int 0 0,.int 0 0,.ref 11,.bool false,.int 181 0,.ref 12,.none,.none,.none,.none,.int 185 0,.int 1 0,.str "/claim/cut.py" 186],#[]⟩) (.node (o21 P) (.node (fl []) (.node (mf 9 (.none) 0 [] .none .none .none .none none .none .none 0) (.node (o133 P) (lf (o261 P)) .nil) (lf (o197 P))) (.node (o101 P) (.node (o165 P) (lf (mf 46 (.none) 0 [] .none .none .none .none none .none .none 0)) .nil) (lf (fl [])))) (.node (o53 P) (.node (o85 P) (.node (mf 23 (.none) 0 [] .none .none .none .none none .none .none 0) (lf (o277 P)) .nil) (lf (o213 P))) (.node (o117 P) (lf (o181 P)) (lf (o245 P))))) (.node (o29 P) (.node (tq []) (.node (o77 P) (.node (o141 P) (lf (fl [])) .nil) (lf (fl []))) (.node (o109 P) (.node (o173 P) (lf (o301 P)) .nil) (lf (o237 P)))) (.node (o61 P) (.node (o93 P) (.node (o157 P) (lf (o285 P)) .nil) (lf (o221 P))) (.node (fl []) (lf (mf 30 (.none) 0 [] .none .none .none .none none .none .none 0)) (lf (mf 40 (.none) 0 [] .none .none .none .none none .none .none 0)))))))) (.node (boot_o_2 P) (.node (boot_o_4 P) (.node (boot_o_8 P) (.node (fl []) (.node (o32 P) (.node (o64 P) (.node (mf 19 (.none) 0 [] .none .none .none .none none .none .none 0) (lf (o256 P)) .nil) (lf (o192 P))) (.node (o96 P) (.node (fl []) (lf (o288 P)) .nil) (lf (o224 P)))) (.node (tq []) (.node (fl []) (.node (o144 P) (lf (mf 43 (.none) 0 [] .none .none .none .none none .none .none 0)) .nil) (lf (o208 P))) (.node (o112 P) (lf (o176 P)) (lf (o240 P))))) (.node (o24 P) (.node (mf 4 (.none) 0 [] .none .none .none .none none .none .none 0) (.node (o72 P) (.node (o136 P) (lf (fl [])) .nil) (lf (fl []))) (.node (fl []) (.node (mf 27 (.none) 0 [] .none .none .none .none none .none .none 0) (lf (o296 P)) .nil) (lf (mf 37 (.none) 0 [] .none .none .none .none none .none .none 0)))) (.node (o56 P) (.node (o88 P) (.node (o152 P) (lf (o280 P)) .nil) (lf (o216 P))) (.node (o120 P) (lf (o184 P)) (lf (o248 P)))))) (.node (fl [.int 2 0,.int 0 0,.ref 20,.int 6 0,.int 0 0,.ref 27,.int 11 0,.int 0 0,.ref 34,.int 13 0,.int 0 0,.ref 41,.int 19 0,.int 0 0,.ref 70,.int 21 0,.int 0 0,.ref 77,.int 28 0,.int 0 0,.ref 84,.int 30 0,.int 0 0,.ref 91,.int 36 0,.int 0 0,.ref 96,.int 43 0,.int 0 0,.ref 101,.int 45 0,.int 0 0,.ref 108,.int 47 0,.int 0 0,.ref 115,.int 51 0,.int 0 0,.ref 122,.int 53 0,.int 0 0,.ref 129,.int 58 0,.int 0 0,.ref 136,.int 60 0,.int 0 0,.ref 143,.int 65 0,.int 0 0,.ref 150,.int 70 0,.int 0 0,.ref 157,.int 72 0,.int 0 0,.ref 164,.int 86 0,.int 0 0,.ref 169,.int 97 0,.int 0 0,.ref 176,.int 106 0,.int 0 0,.ref 183,.int 109 0,.int 0 0,.ref 190,.int 115 0,.int 0 0,.ref 197,.int 117 0,.int 0 0,.ref 202,.int 122 0,.int 0 0,.ref 207,.int 125 0,.int 0 0,.ref 212,.int 130 0,.int 0 0,.ref 219,.int 136 0,.int 0 0,.ref 226,.int 139 0,.int 0 0,.ref 233,.int 143 0,.int 0 0,.ref 240,.int 154 0,.int 0 0,.ref 247,.int 160 0,.int 0 0,.ref 254,.int 165 0,.int 0 0,.ref 261,.int 175 0,.int 0 0,.ref 266,.int 184 0,.int 0 0,.ref 273,.int 188 0,.int 0 0,.ref 280,.int 196 0,.int 0 0,.ref 287,.int 201 0,.int 0 0,.ref 294,.int 206 0,.int 0 0,.ref 301]) (.node (o20 P) (.node (o36 P) (.node (o68 P) (.node (fl []) (lf (mf 41 (.none) 0 [] .none .none .none .none none .none .none 0)) .nil) (lf (mf 31 (.none) 0 [] .none .none .none .none none .none .none 0))) (.node (mf 15 (.none) 0 [] .none .none .none .none none .none .none 0) (.node (o164 P) (lf (o292 P)) .nil) (lf (o228 P)))) (.node (o52 P) (.node (o84 P) (.node (o148 P) (lf (fl [])) .nil) (lf (o212 P))) (.node (o116 P) (lf (o180 P)) (lf (o244 P))))) (.node (o28 P) (.node (tq []) (.node (mf 10 (.none) 0 [] .none .none .none .none none .none .none 0) (.node (o140 P) (lf (o268 P)) .nil) (lf (o204 P))) (.node (o108 P) (.node (fl []) (lf (mf 47 (.none) 0 [] .none .none .none .none none .none .none 0)) .nil) (lf (fl [])))) (.node (o60 P) (.node (o92 P) (.node (mf 25 (.none) 0 [] .none .none .none .none none .none .none 0) (lf (o284 P)) .nil) (lf (o220 P))) (.node (o124 P) (lf (o188 P)) (lf (o252 P))))))) (.node (boot_o_6 P) (.node (boot_o_10 P) (.node (o18 P) (.node (o34 P) (.node (fl []) (.node (o130 P) (lf (o258 P)) .nil) (lf (o194 P))) (.node (o98 P) (.node (o162 P) (lf (fl [])) .nil) (lf (o226 P)))) (.node (tq []) (.node (o82 P) (.node (fl []) (lf (o274 P)) .nil) (lf (fl []))) (.node (mf 17 (.none) 0 [] .none .none .none .none none .none .none 0) (lf (o178 P)) (lf (o242 P))))) (.node (mf 2 (.none) 0 [] .none .none .none .none none .none .none 0) (.node (o42 P) (.node (o74 P) (.node (o138 P) (lf (o266 P)) .nil) (lf (o202 P))) (.node (o106 P) (.node (o170 P) (lf (o298 P)) .nil) (lf (o234 P)))) (.node (o58 P) (.node (mf 12 (.none) 0 [] .none .none .none .none none .none .none 0) (.node (o154 P) (lf (o282 P)) .nil) (lf (mf 35 (.none) 0 [] .none .none .none .none none .none .none 0))) (.node (o122 P) (lf (fl [])) (lf (fl [])))))) (.node (⟨.type "frame",none,.plain,#[some (.ref 13),some (.ref 3),some (.ref 3),none,some (.str "__main__" 164),none,some (.ref 0)]⟩) (.node (o22 P) (.node (o38 P) (.node (o70 P) (.node (o134 P) (lf (o262 P)) .nil) (lf (o198 P))) (.node (o102 P) (.node (o166 P) (lf (o294 P)) .nil) (lf (o230 P)))) (.node (o54 P) (.node (o86 P) (.node (o150 P) (lf (o278 P)) .nil) (lf (o214 P))) (.node (fl []) (lf (mf 29 (.none) 0 [] .none .none .none .none none .none .none 0)) (lf (mf 39 (.none) 0 [] .none .none .none .none none .none .none 0))))) (.node (fl []) (.node (tq []) (.node (o78 P) (.node (mf 22 (.none) 0 [] .none .none .none .none none .none .none 0) (lf (o270 P)) .nil) (lf (mf 33 (.none) 0 [] .none .none .none .none none .none .none 0))) (.node (o110 P) (.node (o174 P) (lf (o302 P)) .nil) (lf (o238 P)))) (.node (o62 P) (.node (fl []) (.node (o158 P) (lf (mf 45 (.none) 0 [] .none .none .none .none none .none .none 0)) .nil) (lf (fl []))) (.node (o126 P) (lf (o190 P)) (lf (o254 P)))))))))
def stsR (a n:Nat):List Stmt:=(prog.main.body.drop a).take n
end H19
set_option maxHeartbeats 0
namespace H19
open PySem PySem.W HD
noncomputable abbrev T0 (w:World) (os:OsState):SharedT:=⟨pre.tree_35 w.params,44,{},⟨[]⟩,{},238,os⟩
abbrev D0:Obj:={ cls:=.type "dict",data:=.dict #[] }
abbrev tp (vs:List Value):Obj:={ cls:=.type "tuple",data:=.seq vs.toArray }
noncomputable abbrev T1 (w:World) (os:OsState):SharedT:=⟨(pre.tree_35 w.params).ins 44 D0,45,{},⟨[]⟩,{},238,os⟩
noncomputable def trP (P:Params):BT:=(((((((pre.tree_35 P).ins 44 D0).ins 45 (tp [.str "point" 238,.str "point" 239])).ins 46 (tp [.str "ahead" 240,.str "same" 241,.str "behind" 242])).ins 47 (tp [.str "point" 243,.str "stretch" 244])).ins 48 (tp [.str "ahead" 245,.str "begins" 246,.str "within" 247,.str "ends" 248,.str "behind" 249])).ins 49 (tp [.str "stretch" 250,.str "point" 251])).ins 50 (tp [.str "ahead" 252,.str "ended" 253,.str "holds" 254,.str "begun" 255,.str "behind" 256])
abbrev dO (es:List DictEntry):Obj:={ cls:=.type "dict",data:=.dict es.toArray es.length }
noncomputable abbrev TD (es:Params→List DictEntry) (w:World) (os:OsState) (k:Nat):SharedT:=⟨(trP w.params).ins 44 (dO (es w.params)),51,{},⟨[]⟩,{},k,os⟩
abbrev es0:Params→List DictEntry:=fun _=>[]
abbrev dp:Pos:=⟨17,14,17,204⟩
theorem zbk7:st=.Assign [.Name "POINT_WORDS" (pxOf st)] (.Dict (zap8 st) (zar3 st) (dpOf st)) (spOf st):=by kernel_rfl
section
variable (w:World) (os:OsState) (p:Program) (b:List Stmt)
abbrev RR {α:Type} (N:Nat) (m:Sem α) (s:SharedT) (pos:Pos) (a:α) (s':SharedT) (pos':Pos):Prop:=R N treeTable p w 11 (some (Value.ref 6)) (Code.body b pre.env_1) [topFrame q0] m s.abs pos a s'.abs pos'
theorem zaz4:RR w p b 34 (evalPairs (pairTrees (zap8 st) (zar3 st) pre.env_1 (dpOf st))) (T1 w os) dp [(.ref 45,.ref 46),(.ref 47,.ref 48),(.ref 49,.ref 50)] (TD es0 w os 257) dp :=
 R.leaf 34 fun K H gd lv=>by kernel_rfl
end
abbrev kh (P:Params) (z:Str):Int:=PyData.keyHash P z
def i1 (P:Params):Int:=Builtin.Tuple.tupleHashOf [kh P "point",kh P "point"]
def i2 (P:Params):Int:=Builtin.Tuple.tupleHashOf [kh P "point",kh P "stretch"]
def i3 (P:Params):Int:=Builtin.Tuple.tupleHashOf [kh P "stretch",kh P "point"]
def e1 (P:Params):DictEntry:=⟨reduceHash (i1 P),.ref 45,.ref 46⟩
def e2 (P:Params):DictEntry:=⟨reduceHash (i2 P),.ref 47,.ref 48⟩
def e3 (P:Params):DictEntry:=⟨reduceHash (i3 P),.ref 49,.ref 50⟩
abbrev es1:Params→List DictEntry:=fun P=>[e1 P]
abbrev es2:Params→List DictEntry:=fun P=>[e1 P,e2 P]
abbrev row:String:="special-get-raises"
section
variable (v:World) (os:OsState) (p:Program) (b:List Stmt)
theorem zF2 (w:World) (t:String) (sT:SharedT) (pos:Pos):RR w p b 1 (rule t) sT pos () sT pos:=R.leaf 1 fun K H gd lv=>by
 obtain ⟨T,n,l,g,d,k,o⟩:=sT
 rfl
theorem zO4 (w:World) (i:Int) (sT:SharedT) (pos:Pos):RR w p b 1 (pyHashByItsType.reduced i) sT pos (reduceHash i) sT pos:=by
 unfold pyHashByItsType.reduced reduceHash
 by_cases hr:(decide (-(2:Int) ^ 63≤i) && decide (i < 2 ^ 63))=true
 ·rw [if_pos hr,if_pos hr]
  exact R.mono (by decide) R.pure
 ·rw [if_neg hr,if_neg hr]
  exact R.mono (N1:=1 + 0) (by decide) (R.bind (zF2 p b w _ sT pos) R.pure)
theorem zam6:RR (v.withFollow row false) p b 26 (pyHash (.ref 45)) (TD es0 (v.withFollow row false) os 257) dp (reduceHash (i1 (v.withFollow row false).params)) (TD es0 (v.withFollow row false) os 260) dp:=by
 unfold pyHash pyHashByItsType
 refine R.mono (N1:=1 + (1 + (1 + (22 + 1)))) (by decide) (R.bind (R.leaf (sT':=(TD es0 (v.withFollow row false) os 257)) (a:=()) (pos':=dp) 1 fun K H gd lv=>by rw [Fast.te10295753902157049106,Fast.te14364793385576792824]; kernel_rfl) ?_)
 refine R.bind (R.leaf (sT':=(TD es0 (v.withFollow row false) os 257)) (a:=some (.builtin "tuple.__hash__")) (pos':=dp) 1 fun K H gd lv=>by rw [Fast.te10295753902157049106,Fast.te14364793385576792824]; kernel_rfl) ?_
 rw [if_neg (by decide)]
 refine R.bind (R.leaf (sT':=(TD es0 (v.withFollow row false) os 257)) (a:=some (.builtin "tuple.__hash__")) (pos':=dp) 1 fun K H gd lv=>by rw [Fast.te10295753902157049106,Fast.te14364793385576792824]; kernel_rfl) ?_
 rw [if_neg (by decide)]
 refine R.bind (R.leaf (sT':=(TD es0 (v.withFollow row false) os 260)) (a:=some (.int (i1 (v.withFollow row false).params) 259)) (pos':=dp) 22 fun K H gd lv=>by rw [Fast.te10295753902157049106,Fast.te14364793385576792824]; kernel_rfl) ?_
 exact zO4 p b _ _ _ _
theorem zaw3:RR (v.withFollow row true) p b 26 (pyHash (.ref 45)) (TD es0 (v.withFollow row true) os 257) dp (reduceHash (i1 (v.withFollow row true).params)) (TD es0 (v.withFollow row true) os 260) dp:=by
 unfold pyHash pyHashByItsType
 refine R.mono (N1:=1 + (1 + (1 + (22 + 1)))) (by decide) (R.bind (R.leaf (sT':=(TD es0 (v.withFollow row true) os 257)) (a:=()) (pos':=dp) 1 fun K H gd lv=>by rw [Fast.te10295753902157049106,Fast.te14364793385576792824]; kernel_rfl) ?_)
 refine R.bind (R.leaf (sT':=(TD es0 (v.withFollow row true) os 257)) (a:=some (.builtin "tuple.__hash__")) (pos':=dp) 1 fun K H gd lv=>by rw [Fast.te10295753902157049106,Fast.te14364793385576792824]; kernel_rfl) ?_
 rw [if_neg (by decide)]
 refine R.bind (R.leaf (sT':=(TD es0 (v.withFollow row true) os 257)) (a:=some (.builtin "tuple.__hash__")) (pos':=dp) 1 fun K H gd lv=>by rw [Fast.te10295753902157049106,Fast.te14364793385576792824]; kernel_rfl) ?_
 rw [if_neg (by decide)]
 refine R.bind (R.leaf (sT':=(TD es0 (v.withFollow row true) os 260)) (a:=some (.int (i1 (v.withFollow row true).params) 259)) (pos':=dp) 22 fun K H gd lv=>by rw [Fast.te10295753902157049106,Fast.te14364793385576792824]; kernel_rfl) ?_
 exact zO4 p b _ _ _ _
theorem zap3:RR (v.withFollow row false) p b 26 (pyHash (.ref 47)) (TD es1 (v.withFollow row false) os 260) dp (reduceHash (i2 (v.withFollow row false).params)) (TD es1 (v.withFollow row false) os 263) dp:=by
 unfold pyHash pyHashByItsType
 refine R.mono (N1:=1 + (1 + (1 + (22 + 1)))) (by decide) (R.bind (R.leaf (sT':=(TD es1 (v.withFollow row false) os 260)) (a:=()) (pos':=dp) 1 fun K H gd lv=>by rw [Fast.te10295753902157049106,Fast.te14364793385576792824]; kernel_rfl) ?_)
 refine R.bind (R.leaf (sT':=(TD es1 (v.withFollow row false) os 260)) (a:=some (.builtin "tuple.__hash__")) (pos':=dp) 1 fun K H gd lv=>by rw [Fast.te10295753902157049106,Fast.te14364793385576792824]; kernel_rfl) ?_
 rw [if_neg (by decide)]
 refine R.bind (R.leaf (sT':=(TD es1 (v.withFollow row false) os 260)) (a:=some (.builtin "tuple.__hash__")) (pos':=dp) 1 fun K H gd lv=>by rw [Fast.te10295753902157049106,Fast.te14364793385576792824]; kernel_rfl) ?_
 rw [if_neg (by decide)]
 refine R.bind (R.leaf (sT':=(TD es1 (v.withFollow row false) os 263)) (a:=some (.int (i2 (v.withFollow row false).params) 262)) (pos':=dp) 22 fun K H gd lv=>by rw [Fast.te10295753902157049106,Fast.te14364793385576792824]; kernel_rfl) ?_
 exact zO4 p b _ _ _ _
theorem zav9:RR (v.withFollow row true) p b 26 (pyHash (.ref 47)) (TD es1 (v.withFollow row true) os 260) dp (reduceHash (i2 (v.withFollow row true).params)) (TD es1 (v.withFollow row true) os 263) dp:=by
 unfold pyHash pyHashByItsType
 refine R.mono (N1:=1 + (1 + (1 + (22 + 1)))) (by decide) (R.bind (R.leaf (sT':=(TD es1 (v.withFollow row true) os 260)) (a:=()) (pos':=dp) 1 fun K H gd lv=>by rw [Fast.te10295753902157049106,Fast.te14364793385576792824]; kernel_rfl) ?_)
 refine R.bind (R.leaf (sT':=(TD es1 (v.withFollow row true) os 260)) (a:=some (.builtin "tuple.__hash__")) (pos':=dp) 1 fun K H gd lv=>by rw [Fast.te10295753902157049106,Fast.te14364793385576792824]; kernel_rfl) ?_
 rw [if_neg (by decide)]
 refine R.bind (R.leaf (sT':=(TD es1 (v.withFollow row true) os 260)) (a:=some (.builtin "tuple.__hash__")) (pos':=dp) 1 fun K H gd lv=>by rw [Fast.te10295753902157049106,Fast.te14364793385576792824]; kernel_rfl) ?_
 rw [if_neg (by decide)]
 refine R.bind (R.leaf (sT':=(TD es1 (v.withFollow row true) os 263)) (a:=some (.int (i2 (v.withFollow row true).params) 262)) (pos':=dp) 22 fun K H gd lv=>by rw [Fast.te10295753902157049106,Fast.te14364793385576792824]; kernel_rfl) ?_
 exact zO4 p b _ _ _ _
theorem zan7:RR (v.withFollow row false) p b 26 (pyHash (.ref 49)) (TD es2 (v.withFollow row false) os 263) dp (reduceHash (i3 (v.withFollow row false).params)) (TD es2 (v.withFollow row false) os 266) dp:=by
 unfold pyHash pyHashByItsType
 refine R.mono (N1:=1 + (1 + (1 + (22 + 1)))) (by decide) (R.bind (R.leaf (sT':=(TD es2 (v.withFollow row false) os 263)) (a:=()) (pos':=dp) 1 fun K H gd lv=>by rw [Fast.te10295753902157049106,Fast.te14364793385576792824]; kernel_rfl) ?_)
 refine R.bind (R.leaf (sT':=(TD es2 (v.withFollow row false) os 263)) (a:=some (.builtin "tuple.__hash__")) (pos':=dp) 1 fun K H gd lv=>by rw [Fast.te10295753902157049106,Fast.te14364793385576792824]; kernel_rfl) ?_
 rw [if_neg (by decide)]
 refine R.bind (R.leaf (sT':=(TD es2 (v.withFollow row false) os 263)) (a:=some (.builtin "tuple.__hash__")) (pos':=dp) 1 fun K H gd lv=>by rw [Fast.te10295753902157049106,Fast.te14364793385576792824]; kernel_rfl) ?_
 rw [if_neg (by decide)]
 refine R.bind (R.leaf (sT':=(TD es2 (v.withFollow row false) os 266)) (a:=some (.int (i3 (v.withFollow row false).params) 265)) (pos':=dp) 22 fun K H gd lv=>by rw [Fast.te10295753902157049106,Fast.te14364793385576792824]; kernel_rfl) ?_
 exact zO4 p b _ _ _ _
theorem zaw5:RR (v.withFollow row true) p b 26 (pyHash (.ref 49)) (TD es2 (v.withFollow row true) os 263) dp (reduceHash (i3 (v.withFollow row true).params)) (TD es2 (v.withFollow row true) os 266) dp:=by
 unfold pyHash pyHashByItsType
 refine R.mono (N1:=1 + (1 + (1 + (22 + 1)))) (by decide) (R.bind (R.leaf (sT':=(TD es2 (v.withFollow row true) os 263)) (a:=()) (pos':=dp) 1 fun K H gd lv=>by rw [Fast.te10295753902157049106,Fast.te14364793385576792824]; kernel_rfl) ?_)
 refine R.bind (R.leaf (sT':=(TD es2 (v.withFollow row true) os 263)) (a:=some (.builtin "tuple.__hash__")) (pos':=dp) 1 fun K H gd lv=>by rw [Fast.te10295753902157049106,Fast.te14364793385576792824]; kernel_rfl) ?_
 rw [if_neg (by decide)]
 refine R.bind (R.leaf (sT':=(TD es2 (v.withFollow row true) os 263)) (a:=some (.builtin "tuple.__hash__")) (pos':=dp) 1 fun K H gd lv=>by rw [Fast.te10295753902157049106,Fast.te14364793385576792824]; kernel_rfl) ?_
 rw [if_neg (by decide)]
 refine R.bind (R.leaf (sT':=(TD es2 (v.withFollow row true) os 266)) (a:=some (.int (i3 (v.withFollow row true).params) 265)) (pos':=dp) 22 fun K H gd lv=>by rw [Fast.te10295753902157049106,Fast.te14364793385576792824]; kernel_rfl) ?_
 exact zO4 p b _ _ _ _
end
section
variable (v:World) (bb:Bool) (os:OsState) (p:Program) (b:List Stmt)
noncomputable abbrev TX (es:List DictEntry) (w:World) (os:OsState) (k:Nat):SharedT:=⟨(trP w.params).ins 44 (dO es),51,{},⟨[]⟩,{},k,os⟩
theorem set1 (w:World) (x:Int):RR w p b 5 (dictSetHashed 44 (.ref 45) x (.ref 46)) (TX [] w os 260) dp () (TX [⟨x,.ref 45,.ref 46⟩] w os 260) dp :=
 R.leaf 5 fun K H gd lv=>by rw [Fast.te10295753902157049106,Fast.te14364793385576792824,Fast.te4359058424727691002]; kernel_rfl
theorem zaV6 (x y:Int) (k v:Value):placesWithHash (#[⟨x,k,v⟩]:Array DictEntry).size (fun i=>(#[⟨x,k,v⟩]:Array DictEntry)[i]?.map (·.hash)) y=if x=y then [0] else []:=by
 by_cases h:x=y <;> simp [placesWithHash,List.range_succ,h]
theorem zaQ8 (x x' y:Int) (k v k' v':Value):placesWithHash (#[⟨x,k,v⟩,⟨x',k',v'⟩]:Array DictEntry).size (fun i=>(#[⟨x,k,v⟩,⟨x',k',v'⟩]:Array DictEntry)[i]?.map (·.hash)) y=(if x=y then [0] else [])++(if x'=y then [1] else []):=by
 by_cases h:x=y <;> by_cases h':x'=y <;> simp [placesWithHash,List.range_succ,h,h']
theorem zbk5 (x y:Int):RR (v.withFollow row bb) p b 31 (dictFind 44 (.ref 47) y) (TX [⟨x,.ref 45,.ref 46⟩] (v.withFollow row bb) os 263) dp none (TX [⟨x,.ref 45,.ref 46⟩] (v.withFollow row bb) os 263) dp:=by
 unfold dictFind
 refine R.hold (R.bind (N1:=1) (N2:=30) (R.leaf (sT':=TX [⟨x,.ref 45,.ref 46⟩] (v.withFollow row bb) os 263) (a:=#[⟨x,.ref 45,.ref 46⟩]) (pos':=dp) 1 fun K H gd lv=>by rw [Fast.te10295753902157049106,Fast.te14364793385576792824]; kernel_rfl) ?_)
 have e:=zaV6 x y (.ref 45) (.ref 46)
 by_cases h:x=y
 ·subst h
  rw [if_pos rfl] at e
  rw [e]
  simp [carriedByValue,-bind_pure_comp,-map_pure]
  refine R.mono (N1:=6 + (1 + (20 + (1 + (1 + 0))))) (by decide) (R.bind (R.leaf (sT':=TX [⟨x,.ref 45,.ref 46⟩] (v.withFollow row bb) os 263) (a:=false) (pos':=dp) 6 fun K H gd lv=>by rw [Fast.te10295753902157049106,Fast.te14364793385576792824,Fast.te11445937954039399578]; cases bb <;> kernel_rfl) ?_)
  refine R.bind (R.leaf (sT':=TX [⟨x,.ref 45,.ref 46⟩] (v.withFollow row bb) os 263) (a:=1) (pos':=dp) 1 fun K H gd lv=>by rw [Fast.te10295753902157049106,Fast.te14364793385576792824]; kernel_rfl) ?_
  refine R.bind (R.leaf (sT':=TX [⟨x,.ref 45,.ref 46⟩] (v.withFollow row bb) os 263) (a:=false) (pos':=dp) 20 fun K H gd lv=>by rw [Fast.te10295753902157049106,Fast.te14364793385576792824,Fast.te13926502685295537346]; cases bb <;> kernel_rfl) ?_
  refine R.bind (R.leaf (sT':=TX [⟨x,.ref 45,.ref 46⟩] (v.withFollow row bb) os 263) (a:=1) (pos':=dp) 1 fun K H gd lv=>by rw [Fast.te10295753902157049106,Fast.te14364793385576792824]; kernel_rfl) ?_
  simp [-bind_pure_comp,-map_pure]
  exact R.mono (N1:=1 + 0) (by decide) (R.bind (zF2 p b _ _ _ _) R.pure)
 ·rw [if_neg h] at e
  rw [e]
  exact R.mono (by decide) (R.leaf 0 fun K H gd lv=>by kernel_rfl)
end
section
variable (v:World) (bb:Bool) (os:OsState) (p:Program) (b:List Stmt) (x x':Int)
noncomputable abbrev TY (x x':Int) (w:World) (os:OsState):SharedT:=TX [⟨x,.ref 45,.ref 46⟩,⟨x',.ref 47,.ref 48⟩] w os 266
theorem ep3 (w:World):RR w p b 1 (dictEpoch 44 (keyPart (.ref 49))) (TY x x' w os) dp 2 (TY x x' w os) dp:=R.leaf 1 fun K H gd lv=>by rw [Fast.te10295753902157049106,Fast.te14364793385576792824]; kernel_rfl
theorem eq13:RR (v.withFollow row bb) p b 16 (eqBool (.ref 45) (.ref 49)) (TY x x' (v.withFollow row bb) os) dp false (TY x x' (v.withFollow row bb) os) dp:=R.leaf 16 fun K H gd lv=>by rw [Fast.te10295753902157049106,Fast.te14364793385576792824,Fast.te13926502685295537346]; cases bb <;> kernel_rfl
theorem eq23:RR (v.withFollow row bb) p b 16 (eqBool (.ref 47) (.ref 49)) (TY x x' (v.withFollow row bb) os) dp false (TY x x' (v.withFollow row bb) os) dp:=R.leaf 16 fun K H gd lv=>by rw [Fast.te10295753902157049106,Fast.te14364793385576792824,Fast.te13926502685295537346]; cases bb <;> kernel_rfl
theorem tl12:RR (v.withFollow row bb) p b 9 (tableMayTell (.ref 49) [.ref 45,.ref 47]) (TY x x' (v.withFollow row bb) os) dp false (TY x x' (v.withFollow row bb) os) dp:=R.leaf 9 fun K H gd lv=>by rw [Fast.te10295753902157049106,Fast.te14364793385576792824,Fast.te11445937954039399578]; cases bb <;> kernel_rfl
theorem tl1:RR (v.withFollow row bb) p b 6 (tableMayTell (.ref 49) [.ref 45]) (TY x x' (v.withFollow row bb) os) dp false (TY x x' (v.withFollow row bb) os) dp:=R.leaf 6 fun K H gd lv=>by rw [Fast.te10295753902157049106,Fast.te14364793385576792824,Fast.te11445937954039399578]; cases bb <;> kernel_rfl
theorem tl2:RR (v.withFollow row bb) p b 6 (tableMayTell (.ref 49) [.ref 47]) (TY x x' (v.withFollow row bb) os) dp false (TY x x' (v.withFollow row bb) os) dp:=R.leaf 6 fun K H gd lv=>by rw [Fast.te10295753902157049106,Fast.te14364793385576792824,Fast.te11445937954039399578]; cases bb <;> kernel_rfl
theorem zbn7 (y:Int):RR (v.withFollow row bb) p b 101 (dictFind 44 (.ref 49) y) (TY x x' (v.withFollow row bb) os) dp none (TY x x' (v.withFollow row bb) os) dp:=by
 unfold dictFind
 refine R.hold (R.bind (N1:=1) (N2:=100) (R.leaf (sT':=TY x x' (v.withFollow row bb) os) (a:=#[⟨x,.ref 45,.ref 46⟩,⟨x',.ref 47,.ref 48⟩]) (pos':=dp) 1 fun K H gd lv=>by rw [Fast.te10295753902157049106,Fast.te14364793385576792824]; kernel_rfl) ?_)
 have e:=zaQ8 x x' y (.ref 45) (.ref 46) (.ref 47) (.ref 48)
 by_cases h:x=y <;> by_cases h':x'=y
 ·subst h
  rw [if_pos rfl,if_pos h'] at e
  rw [e]
  simp [carriedByValue,-bind_pure_comp,-map_pure,h']
  refine R.mono (N1:=9 + (1 + (16 + (1 + (1 + (1 + (16 + (1 + (1 + 0))))))))) (by decide) (R.bind (tl12 v bb os p b x x) ?_)
  rw [if_neg (by decide)]
  refine R.bind (ep3 os p b x x _) (R.bind (eq13 v bb os p b x x) (R.bind (ep3 os p b x x _) ?_))
  simp [-bind_pure_comp,-map_pure]
  refine R.mono (N1:=1 + (1 + (16 + (1 + (1 + 0))))) (by decide) (R.bind (zF2 p b _ _ _ _) ?_)
  refine R.bind (ep3 os p b x x _) (R.bind (eq23 v bb os p b x x) (R.bind (ep3 os p b x x _) ?_))
  simp [-bind_pure_comp,-map_pure]
  exact R.mono (N1:=1 + 0) (by decide) (R.bind (zF2 p b _ _ _ _) R.pure)
 ·subst h
  rw [if_pos rfl,if_neg h'] at e
  rw [e]
  simp [carriedByValue,-bind_pure_comp,-map_pure]
  refine R.mono (N1:=6 + (1 + (16 + (1 + (1 + 0))))) (by decide) (R.bind (tl1 v bb os p b x x') ?_)
  refine R.bind (ep3 os p b x x' _) (R.bind (eq13 v bb os p b x x') (R.bind (ep3 os p b x x' _) ?_))
  simp [-bind_pure_comp,-map_pure]
  exact R.mono (N1:=1 + 0) (by decide) (R.bind (zF2 p b _ _ _ _) R.pure)
 ·subst h'
  rw [if_neg h,if_pos rfl] at e
  rw [e]
  simp [carriedByValue,-bind_pure_comp,-map_pure]
  refine R.mono (N1:=6 + (1 + (16 + (1 + (1 + 0))))) (by decide) (R.bind (tl2 v bb os p b x x') ?_)
  refine R.bind (ep3 os p b x x' _) (R.bind (eq23 v bb os p b x x') (R.bind (ep3 os p b x x' _) ?_))
  simp [-bind_pure_comp,-map_pure]
  exact R.mono (N1:=1 + 0) (by decide) (R.bind (zF2 p b _ _ _ _) R.pure)
 ·rw [if_neg h,if_neg h'] at e
  rw [e]
  exact R.mono (by decide) (R.leaf 0 fun K H gd lv=>by kernel_rfl)
theorem put2 (y:Int):RR (v.withFollow row bb) p b 35 (dictSetHashed 44 (.ref 47) y (.ref 48)) (TX [⟨x,.ref 45,.ref 46⟩] (v.withFollow row bb) os 263) dp () (TX [⟨x,.ref 45,.ref 46⟩,⟨y,.ref 47,.ref 48⟩] (v.withFollow row bb) os 263) dp:=by
 unfold dictSetHashed
 refine R.hold (R.bind (N1:=31) (N2:=4) (zbk5 v bb os p b x y) ?_)
 exact R.leaf 4 fun K H gd lv=>by rw [Fast.te10295753902157049106,Fast.te14364793385576792824]; kernel_rfl
theorem put3 (y:Int):RR (v.withFollow row bb) p b 105 (dictSetHashed 44 (.ref 49) y (.ref 50)) (TY x x' (v.withFollow row bb) os) dp () (TX [⟨x,.ref 45,.ref 46⟩,⟨x',.ref 47,.ref 48⟩,⟨y,.ref 49,.ref 50⟩] (v.withFollow row bb) os 266) dp:=by
 unfold dictSetHashed
 refine R.hold (R.bind (N1:=101) (N2:=4) (zbn7 v bb os p b x x' y) ?_)
 exact R.leaf 4 fun K H gd lv=>by rw [Fast.te10295753902157049106,Fast.te14364793385576792824]; kernel_rfl
end
section
variable (v:World) (bb:Bool) (os:OsState) (p:Program) (b:List Stmt)
abbrev p5:Pos:=⟨16,0,16,5⟩
abbrev sp:Pos:=⟨17,0,17,204⟩
abbrev px:Pos:=⟨17,0,17,11⟩
abbrev dE (P:Params):List DictEntry:=[⟨reduceHash (i1 P),.ref 45,.ref 46⟩,⟨reduceHash (i2 P),.ref 47,.ref 48⟩,⟨reduceHash (i3 P),.ref 49,.ref 50⟩]
noncomputable def trQ (P:Params) (es:List DictEntry):BT:=((trP P).ins 44 (dO es)).set 3 (Obj.putName "POINT_WORDS" (kh P "POINT_WORDS") (.str "POINT_WORDS" 266) (.ref 44))
noncomputable abbrev T6 (es:List DictEntry) (w:World) (os:OsState):SharedT:=⟨trQ w.params es,51,{},⟨[]⟩,{},267,os⟩
theorem zaA0 (w:World) (sT:SharedT) (q q':Pos):RR w p b 1 (standAt q') sT q () sT q':=R.leaf 1 fun K H gd lv=>by
 obtain ⟨T,n,l,g,d,k,o⟩:=sT
 rfl
theorem zbn3:RR (v.withFollow row bb) p b 26 (pyHash (.ref 45)) (TX [] (v.withFollow row bb) os 257) dp (reduceHash (i1 (v.withFollow row bb).params)) (TX [] (v.withFollow row bb) os 260) dp:=by
 cases bb
 ·exact zam6 v os p b
 ·exact zaw3 v os p b
theorem zbn5:RR (v.withFollow row bb) p b 26 (pyHash (.ref 47)) (TX [e1 (v.withFollow row bb).params] (v.withFollow row bb) os 260) dp (reduceHash (i2 (v.withFollow row bb).params)) (TX [e1 (v.withFollow row bb).params] (v.withFollow row bb) os 263) dp:=by
 cases bb
 ·exact zap3 v os p b
 ·exact zav9 v os p b
theorem zbm0:RR (v.withFollow row bb) p b 26 (pyHash (.ref 49)) (TX [e1 (v.withFollow row bb).params,e2 (v.withFollow row bb).params] (v.withFollow row bb) os 263) dp (reduceHash (i3 (v.withFollow row bb).params)) (TX [e1 (v.withFollow row bb).params,e2 (v.withFollow row bb).params] (v.withFollow row bb) os 266) dp:=by
 cases bb
 ·exact zan7 v os p b
 ·exact zaw5 v os p b
theorem zaG7 (w:World) (es:List DictEntry):RR w p b 6 (bindName pre.env_1 "POINT_WORDS" (.ref 44)) (TX es w os 266) px () (T6 es w os) px:=R.leaf 6 fun K H gd lv=>by rw [Fast.te10295753902157049106,Fast.te14364793385576792824,Fast.te7536695828754713326]; kernel_rfl
theorem zax4 (w:World):RR w p b 1 (alloc D0) (T0 w os) dp 44 (T1 w os) dp:=R.leaf 1 fun K H gd lv=>by kernel_rfl
theorem zbe7:dpOf st=dp:=by kernel_rfl
theorem zbn1:pxOf st=px:=by kernel_rfl
theorem zbj1:spOf st=sp:=by kernel_rfl
theorem zai3:RR (v.withFollow row bb) p b 300 (exec st pre.env_1) (T0 (v.withFollow row bb) os) p5 .next (T6 (dE (v.withFollow row bb).params) (v.withFollow row bb) os) px:=by
 rw [zbk7,exec_Assign_Name (env:=pre.env_1) "POINT_WORDS" (pxOf st) (.Dict (zap8 st) (zar3 st) (dpOf st)) (spOf st) (by rfl),zbj1,zbn1]
 refine R.mono (N1:=1 + (292 + (1 + (6 + 0)))) (by decide) (R.bind (zaA0 p b _ _ _ _) (R.bind (a:=.ref 44) (pos1:=dp) ?_ (R.bind (zaA0 p b _ _ _ _) (R.bind (zaG7 os p b _ _) R.pure))))
 rw [arm_eval_Dict,zip_pairTrees (zap8 st) (zar3 st) pre.env_1 (dpOf st) (by kernel_rfl) (by kernel_rfl),dictDisplay_pairs _ (fun h=>by have:=congrArg List.length h; rw [pairTrees_length _ _ _ _ (by kernel_rfl) (by kernel_rfl)] at this; exact absurd this (by decide)) (by rw [pairTrees_length _ _ _ _ (by kernel_rfl) (by kernel_rfl)]; decide)]
 rw [zbe7]
 refine R.bind (N1:=1) (N2:=291) (zaA0 p b _ _ _ _) (R.bind (N1:=291) (N2:=0) (a:=44) (pos1:=dp) ?_ R.pure)
 unfold subDict
 refine R.bind (N1:=1) (N2:=290) (zax4 os p b _) (R.bind (N1:=290) (N2:=0) (a:=()) (pos1:=dp) (R.hold ?_) R.pure)
 rw [if_pos (by rw [pairTrees_length _ _ _ _ (by kernel_rfl) (by kernel_rfl)]; decide)]
 have pr:=zaz4 (v.withFollow row bb) os p b
 rw [zbe7] at pr
 refine R.bind (N1:=34) (N2:=256) pr (R.hold ?_)
 simp only [List.forIn_cons,List.forIn_nil,bind_assoc,pure_bind]
 refine R.mono (N1:=26 + 5 + (26 + 35 + (26 + 105 + 0))) (by decide) (R.bind (R.hold (R.bind (zbn3 v bb os p b) (set1 os p b _ _))) ?_)
 refine R.bind (R.hold (R.bind (zbn5 v bb os p b) (put2 v bb os p b _ _))) ?_
 refine R.bind (R.hold (R.bind (zbm0 v bb os p b) (put3 v bb os p b _ _ _))) ?_
 exact R.pure
end
end H19
set_option maxHeartbeats 0
namespace H19
open PySem PySem.W HD
noncomputable def ov (es:List DictEntry) (t:BT):BT:=((((((t.ins 44 (dO es)).ins 45 (tp [.str "point" 238,.str "point" 239])).ins 46 (tp [.str "ahead" 240,.str "same" 241,.str "behind" 242])).ins 47 (tp [.str "point" 243,.str "stretch" 244])).ins 48 (tp [.str "ahead" 245,.str "begins" 246,.str "within" 247,.str "ends" 248,.str "behind" 249])).ins 49 (tp [.str "stretch" 250,.str "point" 251])).ins 50 (tp [.str "ahead" 252,.str "ended" 253,.str "holds" 254,.str "begun" 255,.str "behind" 256])
noncomputable abbrev TV (es:List DictEntry) (t:BT) (n k:Nat) (os:OsState):SharedT:=⟨ov es t,n,{},⟨[]⟩,{},k,os⟩
section
variable (w:World) (p:Program) (b:List Stmt) (os:OsState) (es:List DictEntry)
noncomputable abbrev cB (b:List Stmt):Code:=Code.body b pre.env_1
theorem run1:segRunT treeTable p w 11 (some (.ref 6)) 1 1537 (T6 es w os) (piecesOf (stsR 8 40) pre.env_1 (cB b) ⟨17,0,17,11⟩ [topFrame q0])=some (.next,TV es (tF w.params) 303 722 os,cB b,⟨206,0,224,15⟩):=by
 refine byRow2 "special-get-raises" (P:=fun w=>segRunT treeTable p w 11 (some (.ref 6)) 1 1537 (T6 es w os) (piecesOf (stsR 8 40) pre.env_1 (cB b) ⟨17,0,17,11⟩ [topFrame q0])=some (.next,TV es (tF w.params) 303 722 os,cB b,⟨206,0,224,15⟩)) (fun w=>?_) (fun w=>?_) w
 ·rw [Fast.te10110043849684766642,Fast.te14364793385576792824]; kernel_rfl
 ·rw [Fast.te10110043849684766642,Fast.te14364793385576792824]; kernel_rfl
end
noncomputable abbrev bE:List Stmt:=behindTheImports prog
theorem zaT6:bE=pre.sts_4++(st :: (stsR 8 40++[])):=by kernel_rfl
noncomputable abbrev SB (w:World) (os:OsState):SharedT:=⟨pre.tree_4 w.params,15,{},⟨[]⟩,{},187,os⟩
section
variable (w:World) (os:OsState)
theorem zaO9:topGo treeTable prog w 11 (some (.ref 6)) 12 ⟨boot_heap w.params,⟨[]⟩,boot_drawn,boot_toks,os⟩ (topStub prog)=some ((SB w os).abs,⟨denote treeTable (.body bE pre.env_1),.body bE pre.env_1,q0,[topFrame q0]⟩):=by
 rw [Fast.te15667345088766844465,Fast.te11892475500146522536,Fast.te14364793385576792824]; kernel_rfl
theorem zaA8:segRun treeTable prog w 11 (some (.ref 6)) 1 1 (SB w os).abs (blockOf bE pre.env_1 (.body bE pre.env_1) q0 [topFrame q0])=some (.next,(SB w os).abs,.body bE pre.env_1,q0):=by
 kernel_rfl
theorem zaT2 (b:List Stmt) (es:List DictEntry):topRun treeTable prog w 11 (some (.ref 6)) 2 (TV es (tF w.params) 303 722 os).abs ⟨doneF .next,cB b,⟨206,0,224,15⟩,[topFrame q0]⟩=some (TV es (tF w.params) 303 722 os).abs:=by
 kernel_rfl
theorem zaF5 {rest:List Stmt} {N:Nat} {r:Shared} (b:List Stmt) (h:topRun treeTable prog w 11 (some (.ref 6)) N (T6 (dE w.params) w os).abs (restOf rest pre.env_1 (.body b pre.env_1) ⟨17,0,17,11⟩ [topFrame q0])=some r) :
  topRun treeTable prog w 11 (some (.ref 6)) (301 + N) (T0 w os).abs (restOf (st :: rest) pre.env_1 (.body b pre.env_1) ⟨16,0,16,5⟩ [topFrame q0])=some r:=by
 revert h
 refine byRow2 "special-get-raises" (P:=fun w=>topRun treeTable prog w 11 (some (.ref 6)) N (T6 (dE w.params) w os).abs (restOf rest pre.env_1 (.body b pre.env_1) ⟨17,0,17,11⟩ [topFrame q0])=some r→topRun treeTable prog w 11 (some (.ref 6)) (301 + N) (T0 w os).abs (restOf (st :: rest) pre.env_1 (.body b pre.env_1) ⟨16,0,16,5⟩ [topFrame q0])=some r) (fun w h=>?_) (fun w h=>?_) w
 ·obtain ⟨n,l,e⟩:=R.piece (zai3 w false os prog b)
  have:=topRun_mono (301 - n) _ _ _ _ (piece_cons e h)
  rw [show n + N + (301 - n)=301 + N by omega] at this
  exact this
 ·obtain ⟨n,l,e⟩:=R.piece (zai3 w true os prog b)
  have:=topRun_mono (301 - n) _ _ _ _ (piece_cons e h)
  rw [show n + N + (301 - n)=301 + N by omega] at this
  exact this
theorem zaL2 (b:List Stmt) (es:List DictEntry):topRun treeTable prog w 11 (some (.ref 6)) (1537 + 2) (T6 es w os).abs (restOf (stsR 8 40++[]) pre.env_1 (.body b pre.env_1) ⟨17,0,17,11⟩ [topFrame q0])=some (TV es (tF w.params) 303 722 os).abs:=by
 exact piece_app (segRun_of (run1 w prog b os es)) (piece_nil (zaT2 w os b es))
noncomputable def H1 (P:Params):Heap:=absHeap (ov (dE P) (tF P)) 303 {}
theorem zaS4:topRun treeTable prog w 11 (some (.ref 6)) (12 + (1 + (163 + (301 + (1537 + 2))))) ⟨boot_heap w.params,⟨[]⟩,boot_drawn,boot_toks,os⟩ (topStub prog)=some ⟨H1 w.params,⟨[]⟩,{},722,os⟩:=by
 refine go_top (zaO9 w os) (piece_block (zaA8 w os) ?_)
 rw [zaT6]
 exact pre.chain prog _ w os _ _ _ (zaF5 w os _ (zaL2 w os _ _))
end
def qv:Program:=view prog [1,2,3,4,6,7,8,9,10,11,12,13,15,16,17,18,19,21,22,23,25,26,27,28,29,30,31,32,33,34,35,36,37,38,39,40,41,42,43,44,45,46,47]
def lo:List Str:=[Str.ofString "POINT_WORDS",Str.ofString "WAYS"]
abbrev lw:OpenLaw:=PySem.Challenge.rw_whens_k19_faults_and_rows_had
abbrev XT:Shared→Bool:=fun s=>xlAt qv [] s && recOk (RowW.records lw.row.toRowW) s
theorem zay8 (N:Nat) (h:Nat.ble 600 N=true):∀ w:World,(fencedOpening treeTable prog w N).map (fun s=>(s.heap,s.gens,s.drawn,s.toks))=some (boot_heap w.params,⟨[]⟩,boot_drawn,boot_toks):=boot_open (by kernel_rfl) h (fun _=>rfl)
theorem zaF6 (w:World):((boot_heap w.params).isNs mainGlobals && (⟨[]⟩:Array GenState).size == 0,(boot_heap w.params).objs.size,(boot_heap w.params).nsMap mainGlobals "__annotations__")=(true,11,some (.ref 6)):=by kernel_rfl
theorem zbl0 (w:World) (os:OsState):(staticsOk (importedModules prog.main.body) (boot_heap w.params) (H1 w.params) && namesBound prog (H1 w.params) && gensDone ⟨H1 w.params,⟨[]⟩,{},722,os⟩ && laidKept (boot_heap w.params) (H1 w.params))=true:=by kernel_rfl
theorem zbk0 (w:World) (os:OsState):openSeen qv lo (importedModules prog.main.body) XT true ⟨H1 w.params,⟨[]⟩,{},722,os⟩=openGood qv lo:=by
 rw [Fast.te4187177175401517315]; kernel_rfl
theorem left (H:Hook) (hH:∀ (w:World) (os:OsState),H.obs ⟨H1 w.params,⟨[]⟩,{},722,os⟩=H.val w):LeftO prog qv lo XT H.obs H.val 4684 :=
 LeftO.of_pieces (H₀:=boot_heap) (H₁:=H1) (gs₀:=⟨[]⟩) (gs₁:=⟨[]⟩) (d₀:=boot_drawn) (d₁:={}) (k₀:=boot_toks) (k₁:=722) (m₀:=11) (ann:=some (.ref 6)) (M:=2016) (zay8 4684 (by decide)) zaF6 zaS4 (by decide) fun w=>funext fun os=>by rw [zbl0 w os,zbk0 w os,hH w os]
theorem head {H:Hook} {d:DefRec} {kwd:List (Str×Expr)} (hH:∀ (w:World) (os:OsState),H.obs ⟨H1 w.params,⟨[]⟩,{},722,os⟩=H.val w) (k1:lw.row.wellSaid=true) (hdef:defOf qv lw.row.name=some (d,kwd)) (hp:lw.row.prog.theDef lw.row.name=some (d.params,d.body,d.scope)) (hk:kwWritten? d.params.kwonlyargs d.params.kw_defaults=some kwd)
  (hw:lw.row.toRowW.promised) (call:WalkO qv lo (XL qv []) H.says lw.row.toRowW d kwd fun f vs=>PySem.call f vs):lw.row.Holds :=
 holds_open (q:=qv) (loose:=lo) (Xt:=XT) (XP:=XL qv []) (Yf:=H.obs) (Ya:=H.val) (YP:=H.says) (N:=4684) (left H hH) (Hook.of H) (Hook.keeps H) (fun s e=>xl_of s (Bool.and_eq_true_iff.mp e).1) XL.keeps hdef hp hk (fun s e=>recFacts_of (Bool.and_eq_true_iff.mp e).2) (by rfl) k1 (by decide +kernel) ⟨rfl,rfl,rfl,rfl,rfl,by decide +kernel⟩ hw call
end H19
namespace K19
open PySem PySem.Spec PyProof.Rows L2 DL
theorem us_n {P:List Value→Prop} (h:P []):∀ us:List Value,us.length=0→P us
 | [],_=>h
 | _ :: _,e=>nomatch e
theorem us_c {P:List Value→Prop} {n:Nat} (h:∀ a us,us.length=n→P (a :: us)):∀ us:List Value,us.length=n + 1→P us
 | [],e=>nomatch e
 | a :: us,e=>h a us (Nat.succ.inj e)
theorem us_1 {fd:FuncData} {ps:List Str} (h:∀ a0,bindArgs fd { pos:=[a0] }=pure (ps.zip [a0])) (us:List Value) (hl:us.length=1):bindArgs fd { pos:=us }=pure (ps.zip us) :=
 (us_c (P:=fun us=>bindArgs fd { pos:=us }=pure (ps.zip (us))) (fun a0=>us_n (P:=fun us=>bindArgs fd { pos:=a0 :: us }=pure (ps.zip (a0 :: us))) (h a0))) us hl
theorem us_2 {fd:FuncData} {ps:List Str} (h:∀ a0 a1,bindArgs fd { pos:=[a0,a1] }=pure (ps.zip [a0,a1])) (us:List Value) (hl:us.length=2):bindArgs fd { pos:=us }=pure (ps.zip us) :=
 (us_c (P:=fun us=>bindArgs fd { pos:=us }=pure (ps.zip (us))) (fun a0=>us_c (P:=fun us=>bindArgs fd { pos:=a0 :: us }=pure (ps.zip (a0 :: us))) (fun a1=>us_n (P:=fun us=>bindArgs fd { pos:=a0 :: a1 :: us }=pure (ps.zip (a0 :: a1 :: us))) (h a0 a1)))) us hl
theorem us_3 {fd:FuncData} {ps:List Str} (h:∀ a0 a1 a2,bindArgs fd { pos:=[a0,a1,a2] }=pure (ps.zip [a0,a1,a2])) (us:List Value) (hl:us.length=3):bindArgs fd { pos:=us }=pure (ps.zip us) :=
 (us_c (P:=fun us=>bindArgs fd { pos:=us }=pure (ps.zip (us))) (fun a0=>us_c (P:=fun us=>bindArgs fd { pos:=a0 :: us }=pure (ps.zip (a0 :: us))) (fun a1=>us_c (P:=fun us=>bindArgs fd { pos:=a0 :: a1 :: us }=pure (ps.zip (a0 :: a1 :: us))) (fun a2=>us_n (P:=fun us=>bindArgs fd { pos:=a0 :: a1 :: a2 :: us }=pure (ps.zip (a0 :: a1 :: a2 :: us))) (h a0 a1 a2))))) us hl
theorem us_4 {fd:FuncData} {ps:List Str} (h:∀ a0 a1 a2 a3,bindArgs fd { pos:=[a0,a1,a2,a3] }=pure (ps.zip [a0,a1,a2,a3])) (us:List Value) (hl:us.length=4):bindArgs fd { pos:=us }=pure (ps.zip us) :=
 (us_c (P:=fun us=>bindArgs fd { pos:=us }=pure (ps.zip (us))) (fun a0=>us_c (P:=fun us=>bindArgs fd { pos:=a0 :: us }=pure (ps.zip (a0 :: us))) (fun a1=>us_c (P:=fun us=>bindArgs fd { pos:=a0 :: a1 :: us }=pure (ps.zip (a0 :: a1 :: us))) (fun a2=>us_c (P:=fun us=>bindArgs fd { pos:=a0 :: a1 :: a2 :: us }=pure (ps.zip (a0 :: a1 :: a2 :: us))) (fun a3=>us_n (P:=fun us=>bindArgs fd { pos:=a0 :: a1 :: a2 :: a3 :: us }=pure (ps.zip (a0 :: a1 :: a2 :: a3 :: us))) (h a0 a1 a2 a3)))))) us hl
theorem us_5 {fd:FuncData} {ps:List Str} (h:∀ a0 a1 a2 a3 a4,bindArgs fd { pos:=[a0,a1,a2,a3,a4] }=pure (ps.zip [a0,a1,a2,a3,a4])) (us:List Value) (hl:us.length=5):bindArgs fd { pos:=us }=pure (ps.zip us) :=
 (us_c (P:=fun us=>bindArgs fd { pos:=us }=pure (ps.zip (us))) (fun a0=>us_c (P:=fun us=>bindArgs fd { pos:=a0 :: us }=pure (ps.zip (a0 :: us))) (fun a1=>us_c (P:=fun us=>bindArgs fd { pos:=a0 :: a1 :: us }=pure (ps.zip (a0 :: a1 :: us))) (fun a2=>us_c (P:=fun us=>bindArgs fd { pos:=a0 :: a1 :: a2 :: us }=pure (ps.zip (a0 :: a1 :: a2 :: us))) (fun a3=>us_c (P:=fun us=>bindArgs fd { pos:=a0 :: a1 :: a2 :: a3 :: us }=pure (ps.zip (a0 :: a1 :: a2 :: a3 :: us))) (fun a4=>us_n (P:=fun us=>bindArgs fd { pos:=a0 :: a1 :: a2 :: a3 :: a4 :: us }=pure (ps.zip (a0 :: a1 :: a2 :: a3 :: a4 :: us))) (h a0 a1 a2 a3 a4))))))) us hl
theorem all_mk {l:PySem.W.OpenLaw} {w:World} {K:PySem.W.Frag} {h:Heap} {mg:Str→Option Value} {fa:Addr} (X:K.In h) (G:h.Ns mainGlobals mg) (hfa:mg "law"=some (.ref fa))
  {f_common:Addr} {od_0 an_0:Option Addr} {sl_0:Array (Option Value)} {oc_0 kV_0 dc_0 pm_0 cd_0 ct_0:Value} (a0:PySem.W.nsIn K mainGlobals "common"=some (some (.ref f_common))) (l0:K.lookup f_common=some ⟨oc_0,od_0,.func (PySem.W.fnOf "common" "common" (zc3 zy4) (zc0 zy4) (za7 zy4) .none kV_0 dc_0 pm_0 an_0 cd_0 ct_0),sl_0⟩) (c0:PySem.W.codeIn K cd_0 "common"=true) (k0:PySem.W.keepIn K (.ref f_common)=true)
  {f_fraction:Addr} {od_1 an_1:Option Addr} {sl_1:Array (Option Value)} {oc_1 kV_1 dc_1 pm_1 cd_1 ct_1:Value} (a1:PySem.W.nsIn K mainGlobals "fraction"=some (some (.ref f_fraction))) (l1:K.lookup f_fraction=some ⟨oc_1,od_1,.func (PySem.W.fnOf "fraction" "fraction" (zc3 zo4) (zc0 zo4) (za7 zo4) .none kV_1 dc_1 pm_1 an_1 cd_1 ct_1),sl_1⟩) (c1:PySem.W.codeIn K cd_1 "fraction"=true) (k1:PySem.W.keepIn K (.ref f_fraction)=true)
  {f_less:Addr} {od_2 an_2:Option Addr} {sl_2:Array (Option Value)} {oc_2 kV_2 dc_2 pm_2 cd_2 ct_2:Value} (a2:PySem.W.nsIn K mainGlobals "less"=some (some (.ref f_less))) (l2:K.lookup f_less=some ⟨oc_2,od_2,.func (PySem.W.fnOf "less" "less" (zc3 zV1) (zc0 zV1) (za7 zV1) .none kV_2 dc_2 pm_2 an_2 cd_2 ct_2),sl_2⟩) (c2:PySem.W.codeIn K cd_2 "less"=true) (k2:PySem.W.keepIn K (.ref f_less)=true)
  {f_is_below:Addr} {od_3 an_3:Option Addr} {sl_3:Array (Option Value)} {oc_3 kV_3 dc_3 pm_3 cd_3 ct_3:Value} (a3:PySem.W.nsIn K mainGlobals "is_below"=some (some (.ref f_is_below))) (l3:K.lookup f_is_below=some ⟨oc_3,od_3,.func (PySem.W.fnOf "is_below" "is_below" (zc3 zm6) (zc0 zm6) (za7 zm6) .none kV_3 dc_3 pm_3 an_3 cd_3 ct_3),sl_3⟩) (c3:PySem.W.codeIn K cd_3 "is_below"=true) (k3:PySem.W.keepIn K (.ref f_is_below)=true)
  {f_words_of:Addr} {od_4 an_4:Option Addr} {sl_4:Array (Option Value)} {oc_4 kV_4 dc_4 pm_4 cd_4 ct_4:Value} (a4:PySem.W.nsIn K mainGlobals "words_of"=some (some (.ref f_words_of))) (l4:K.lookup f_words_of=some ⟨oc_4,od_4,.func (PySem.W.fnOf "words_of" "words_of" (zc3 zp1) (zc0 zp1) (za7 zp1) .none kV_4 dc_4 pm_4 an_4 cd_4 ct_4),sl_4⟩) (c4:PySem.W.codeIn K cd_4 "words_of"=true) (k4:PySem.W.keepIn K (.ref f_words_of)=true)
  {f_ways_by:Addr} {od_5 an_5:Option Addr} {sl_5:Array (Option Value)} {oc_5 kV_5 dc_5 pm_5 cd_5 ct_5:Value} (a5:PySem.W.nsIn K mainGlobals "ways_by"=some (some (.ref f_ways_by))) (l5:K.lookup f_ways_by=some ⟨oc_5,od_5,.func (PySem.W.fnOf "ways_by" "ways_by" (zc3 zs6) (zc0 zs6) (za7 zs6) .none kV_5 dc_5 pm_5 an_5 cd_5 ct_5),sl_5⟩) (c5:PySem.W.codeIn K cd_5 "ways_by"=true) (k5:PySem.W.keepIn K (.ref f_ways_by)=true)
  {f_is_point:Addr} {od_6 an_6:Option Addr} {sl_6:Array (Option Value)} {oc_6 kV_6 dc_6 pm_6 cd_6 ct_6:Value} (a6:PySem.W.nsIn K mainGlobals "is_point"=some (some (.ref f_is_point))) (l6:K.lookup f_is_point=some ⟨oc_6,od_6,.func (PySem.W.fnOf "is_point" "is_point" (zc3 zp4) (zc0 zp4) (za7 zp4) .none kV_6 dc_6 pm_6 an_6 cd_6 ct_6),sl_6⟩) (c6:PySem.W.codeIn K cd_6 "is_point"=true) (k6:PySem.W.keepIn K (.ref f_is_point)=true)
  {f_way_of:Addr} {od_7 an_7:Option Addr} {sl_7:Array (Option Value)} {oc_7 kV_7 dc_7 pm_7 cd_7 ct_7:Value} (a7:PySem.W.nsIn K mainGlobals "way_of"=some (some (.ref f_way_of))) (l7:K.lookup f_way_of=some ⟨oc_7,od_7,.func (PySem.W.fnOf "way_of" "way_of" (zc3 zy9) (zc0 zy9) (za7 zy9) .none kV_7 dc_7 pm_7 an_7 cd_7 ct_7),sl_7⟩) (c7:PySem.W.codeIn K cd_7 "way_of"=true) (k7:PySem.W.keepIn K (.ref f_way_of)=true)
  {f_word_of:Addr} {od_8 an_8:Option Addr} {sl_8:Array (Option Value)} {oc_8 kV_8 dc_8 pm_8 cd_8 ct_8:Value} (a8:PySem.W.nsIn K mainGlobals "word_of"=some (some (.ref f_word_of))) (l8:K.lookup f_word_of=some ⟨oc_8,od_8,.func (PySem.W.fnOf "word_of" "word_of" (zc3 zu5) (zc0 zu5) (za7 zu5) .none kV_8 dc_8 pm_8 an_8 cd_8 ct_8),sl_8⟩) (c8:PySem.W.codeIn K cd_8 "word_of"=true) (k8:PySem.W.keepIn K (.ref f_word_of)=true)
  {f_names_of:Addr} {od_9 an_9:Option Addr} {sl_9:Array (Option Value)} {oc_9 kV_9 dc_9 pm_9 cd_9 ct_9:Value} (a9:PySem.W.nsIn K mainGlobals "names_of"=some (some (.ref f_names_of))) (l9:K.lookup f_names_of=some ⟨oc_9,od_9,.func (PySem.W.fnOf "names_of" "names_of" (zc3 zn9) (zc0 zn9) (za7 zn9) .none kV_9 dc_9 pm_9 an_9 cd_9 ct_9),sl_9⟩) (c9:PySem.W.codeIn K cd_9 "names_of"=true) (k9:PySem.W.keepIn K (.ref f_names_of)=true)
  {f_times_of:Addr} {od_10 an_10:Option Addr} {sl_10:Array (Option Value)} {oc_10 kV_10 dc_10 pm_10 cd_10 ct_10:Value} (a10:PySem.W.nsIn K mainGlobals "times_of"=some (some (.ref f_times_of))) (l10:K.lookup f_times_of=some ⟨oc_10,od_10,.func (PySem.W.fnOf "times_of" "times_of" (zc3 zm4) (zc0 zm4) (za7 zm4) .none kV_10 dc_10 pm_10 an_10 cd_10 ct_10),sl_10⟩) (c10:PySem.W.codeIn K cd_10 "times_of"=true) (k10:PySem.W.keepIn K (.ref f_times_of)=true)
  {f_time_of:Addr} {od_11 an_11:Option Addr} {sl_11:Array (Option Value)} {oc_11 kV_11 dc_11 pm_11 cd_11 ct_11:Value} (a11:PySem.W.nsIn K mainGlobals "time_of"=some (some (.ref f_time_of))) (l11:K.lookup f_time_of=some ⟨oc_11,od_11,.func (PySem.W.fnOf "time_of" "time_of" (zc3 zt3) (zc0 zt3) (za7 zt3) .none kV_11 dc_11 pm_11 an_11 cd_11 ct_11),sl_11⟩) (c11:PySem.W.codeIn K cd_11 "time_of"=true) (k11:PySem.W.keepIn K (.ref f_time_of)=true)
  {f_word_between:Addr} {od_12 an_12:Option Addr} {sl_12:Array (Option Value)} {oc_12 kV_12 dc_12 pm_12 cd_12 ct_12:Value} (a12:PySem.W.nsIn K mainGlobals "word_between"=some (some (.ref f_word_between))) (l12:K.lookup f_word_between=some ⟨oc_12,od_12,.func (PySem.W.fnOf "word_between" "word_between" (zc3 zg3) (zc0 zg3) (za7 zg3) .none kV_12 dc_12 pm_12 an_12 cd_12 ct_12),sl_12⟩) (c12:PySem.W.codeIn K cd_12 "word_between"=true) (k12:PySem.W.keepIn K (.ref f_word_between)=true)
  {f_is_gap_met:Addr} {od_13 an_13:Option Addr} {sl_13:Array (Option Value)} {oc_13 kV_13 dc_13 pm_13 cd_13 ct_13:Value} (a13:PySem.W.nsIn K mainGlobals "is_gap_met"=some (some (.ref f_is_gap_met))) (l13:K.lookup f_is_gap_met=some ⟨oc_13,od_13,.func (PySem.W.fnOf "is_gap_met" "is_gap_met" (zc3 zi6) (zc0 zi6) (za7 zi6) .none kV_13 dc_13 pm_13 an_13 cd_13 ct_13),sl_13⟩) (c13:PySem.W.codeIn K cd_13 "is_gap_met"=true) (k13:PySem.W.keepIn K (.ref f_is_gap_met)=true)
  {f_is_may_row:Addr} {od_14 an_14:Option Addr} {sl_14:Array (Option Value)} {oc_14 kV_14 dc_14 pm_14 cd_14 ct_14:Value} (a14:PySem.W.nsIn K mainGlobals "is_may_row"=some (some (.ref f_is_may_row))) (l14:K.lookup f_is_may_row=some ⟨oc_14,od_14,.func (PySem.W.fnOf "is_may_row" "is_may_row" (zc3 zh0) (zc0 zh0) (za7 zh0) .none kV_14 dc_14 pm_14 an_14 cd_14 ct_14),sl_14⟩) (c14:PySem.W.codeIn K cd_14 "is_may_row"=true) (k14:PySem.W.keepIn K (.ref f_is_may_row)=true)
  {f_is_fault:Addr} {od_15 an_15:Option Addr} {sl_15:Array (Option Value)} {oc_15 kV_15 dc_15 pm_15 cd_15 ct_15:Value} (a15:PySem.W.nsIn K mainGlobals "is_fault"=some (some (.ref f_is_fault))) (l15:K.lookup f_is_fault=some ⟨oc_15,od_15,.func (PySem.W.fnOf "is_fault" "is_fault" (zc3 zo2) (zc0 zo2) (za7 zo2) .none kV_15 dc_15 pm_15 an_15 cd_15 ct_15),sl_15⟩) (c15:PySem.W.codeIn K cd_15 "is_fault"=true) (k15:PySem.W.keepIn K (.ref f_is_fault)=true)
  {f_has_row:Addr} {od_16 an_16:Option Addr} {sl_16:Array (Option Value)} {oc_16 kV_16 dc_16 pm_16 cd_16 ct_16:Value} (a16:PySem.W.nsIn K mainGlobals "has_row"=some (some (.ref f_has_row))) (l16:K.lookup f_has_row=some ⟨oc_16,od_16,.func (PySem.W.fnOf "has_row" "has_row" (zc3 zt9) (zc0 zt9) (za7 zt9) .none kV_16 dc_16 pm_16 an_16 cd_16 ct_16),sl_16⟩) (c16:PySem.W.codeIn K cd_16 "has_row"=true) (k16:PySem.W.keepIn K (.ref f_has_row)=true)
  {f__law_feed:Addr} {od_17 an_17:Option Addr} {sl_17:Array (Option Value)} {oc_17 kV_17 dc_17 pm_17 cd_17 ct_17:Value} (a17:PySem.W.nsIn K mainGlobals "_law_feed"=some (some (.ref f__law_feed))) (l17:K.lookup f__law_feed=some ⟨oc_17,od_17,.func (PySem.W.fnOf "_law_feed" "_law_feed" (zc3 zl9) (zc0 zl9) (za7 zl9) .none kV_17 dc_17 pm_17 an_17 cd_17 ct_17),sl_17⟩) (c17:PySem.W.codeIn K cd_17 "_law_feed"=true) (k17:PySem.W.keepIn K (.ref f__law_feed)=true)
  {f__law_draw:Addr} {od_18 an_18:Option Addr} {sl_18:Array (Option Value)} {oc_18 kV_18 dc_18 pm_18 cd_18 ct_18:Value} (a18:PySem.W.nsIn K mainGlobals "_law_draw"=some (some (.ref f__law_draw))) (l18:K.lookup f__law_draw=some ⟨oc_18,od_18,.func (PySem.W.fnOf "_law_draw" "_law_draw" (zc3 ze0) (zc0 ze0) (za7 ze0) .none kV_18 dc_18 pm_18 an_18 cd_18 ct_18),sl_18⟩) (c18:PySem.W.codeIn K cd_18 "_law_draw"=true) (k18:PySem.W.keepIn K (.ref f__law_draw)=true)
  {f__law_things:Addr} {od_19 an_19:Option Addr} {sl_19:Array (Option Value)} {oc_19 kV_19 dc_19 pm_19 cd_19 ct_19:Value} (a19:PySem.W.nsIn K mainGlobals "_law_things"=some (some (.ref f__law_things))) (l19:K.lookup f__law_things=some ⟨oc_19,od_19,.func (PySem.W.fnOf "_law_things" "_law_things" (zc3 zh4) (zc0 zh4) (za7 zh4) .none kV_19 dc_19 pm_19 an_19 cd_19 ct_19),sl_19⟩) (c19:PySem.W.codeIn K cd_19 "_law_things"=true) (k19:PySem.W.keepIn K (.ref f__law_things)=true)
  {f__law_words:Addr} {od_20 an_20:Option Addr} {sl_20:Array (Option Value)} {oc_20 kV_20 dc_20 pm_20 cd_20 ct_20:Value} (a20:PySem.W.nsIn K mainGlobals "_law_words"=some (some (.ref f__law_words))) (l20:K.lookup f__law_words=some ⟨oc_20,od_20,.func (PySem.W.fnOf "_law_words" "_law_words" (zc3 zf2) (zc0 zf2) (za7 zf2) .none kV_20 dc_20 pm_20 an_20 cd_20 ct_20),sl_20⟩) (c20:PySem.W.codeIn K cd_20 "_law_words"=true) (k20:PySem.W.keepIn K (.ref f__law_words)=true)
  {f__law_back:Addr} {od_21 an_21:Option Addr} {sl_21:Array (Option Value)} {oc_21 kV_21 dc_21 pm_21 cd_21 ct_21:Value} (a21:PySem.W.nsIn K mainGlobals "_law_back"=some (some (.ref f__law_back))) (l21:K.lookup f__law_back=some ⟨oc_21,od_21,.func (PySem.W.fnOf "_law_back" "_law_back" (zc3 zm2) (zc0 zm2) (za7 zm2) .none kV_21 dc_21 pm_21 an_21 cd_21 ct_21),sl_21⟩) (c21:PySem.W.codeIn K cd_21 "_law_back"=true) (k21:PySem.W.keepIn K (.ref f__law_back)=true)
  {f__law_sign:Addr} {od_22 an_22:Option Addr} {sl_22:Array (Option Value)} {oc_22 kV_22 dc_22 pm_22 cd_22 ct_22:Value} (a22:PySem.W.nsIn K mainGlobals "_law_sign"=some (some (.ref f__law_sign))) (l22:K.lookup f__law_sign=some ⟨oc_22,od_22,.func (PySem.W.fnOf "_law_sign" "_law_sign" (zc3 zg2) (zc0 zg2) (za7 zg2) .none kV_22 dc_22 pm_22 an_22 cd_22 ct_22),sl_22⟩) (c22:PySem.W.codeIn K cd_22 "_law_sign"=true) (k22:PySem.W.keepIn K (.ref f__law_sign)=true)
  {f__law_sides:Addr} {od_23 an_23:Option Addr} {sl_23:Array (Option Value)} {oc_23 kV_23 dc_23 pm_23 cd_23 ct_23:Value} (a23:PySem.W.nsIn K mainGlobals "_law_sides"=some (some (.ref f__law_sides))) (l23:K.lookup f__law_sides=some ⟨oc_23,od_23,.func (PySem.W.fnOf "_law_sides" "_law_sides" (zc3 ze5) (zc0 ze5) (za7 ze5) .none kV_23 dc_23 pm_23 an_23 cd_23 ct_23),sl_23⟩) (c23:PySem.W.codeIn K cd_23 "_law_sides"=true) (k23:PySem.W.keepIn K (.ref f__law_sides)=true)
  {f__law_all_signs:Addr} {od_24 an_24:Option Addr} {sl_24:Array (Option Value)} {oc_24 kV_24 dc_24 pm_24 cd_24 ct_24:Value} (a24:PySem.W.nsIn K mainGlobals "_law_all_signs"=some (some (.ref f__law_all_signs))) (l24:K.lookup f__law_all_signs=some ⟨oc_24,od_24,.func (PySem.W.fnOf "_law_all_signs" "_law_all_signs" (zc3 zd9) (zc0 zd9) (za7 zd9) .none kV_24 dc_24 pm_24 an_24 cd_24 ct_24),sl_24⟩) (c24:PySem.W.codeIn K cd_24 "_law_all_signs"=true) (k24:PySem.W.keepIn K (.ref f__law_all_signs)=true)
  {f__law_kinds:Addr} {od_25 an_25:Option Addr} {sl_25:Array (Option Value)} {oc_25 kV_25 dc_25 pm_25 cd_25 ct_25:Value} (a25:PySem.W.nsIn K mainGlobals "_law_kinds"=some (some (.ref f__law_kinds))) (l25:K.lookup f__law_kinds=some ⟨oc_25,od_25,.func (PySem.W.fnOf "_law_kinds" "_law_kinds" (zc3 zh1) (zc0 zh1) (za7 zh1) .none kV_25 dc_25 pm_25 an_25 cd_25 ct_25),sl_25⟩) (c25:PySem.W.codeIn K cd_25 "_law_kinds"=true) (k25:PySem.W.keepIn K (.ref f__law_kinds)=true)
  {f__law_all_ends:Addr} {od_26 an_26:Option Addr} {sl_26:Array (Option Value)} {oc_26 kV_26 dc_26 pm_26 cd_26 ct_26:Value} (a26:PySem.W.nsIn K mainGlobals "_law_all_ends"=some (some (.ref f__law_all_ends))) (l26:K.lookup f__law_all_ends=some ⟨oc_26,od_26,.func (PySem.W.fnOf "_law_all_ends" "_law_all_ends" (zc3 ze8) (zc0 ze8) (za7 ze8) .none kV_26 dc_26 pm_26 an_26 cd_26 ct_26),sl_26⟩) (c26:PySem.W.codeIn K cd_26 "_law_all_ends"=true) (k26:PySem.W.keepIn K (.ref f__law_all_ends)=true)
  {f__law_lowest:Addr} {od_27 an_27:Option Addr} {sl_27:Array (Option Value)} {oc_27 kV_27 dc_27 pm_27 cd_27 ct_27:Value} (a27:PySem.W.nsIn K mainGlobals "_law_lowest"=some (some (.ref f__law_lowest))) (l27:K.lookup f__law_lowest=some ⟨oc_27,od_27,.func (PySem.W.fnOf "_law_lowest" "_law_lowest" (zc3 zf5) (zc0 zf5) (za7 zf5) .none kV_27 dc_27 pm_27 an_27 cd_27 ct_27),sl_27⟩) (c27:PySem.W.codeIn K cd_27 "_law_lowest"=true) (k27:PySem.W.keepIn K (.ref f__law_lowest)=true)
  {f__law_added:Addr} {od_28 an_28:Option Addr} {sl_28:Array (Option Value)} {oc_28 kV_28 dc_28 pm_28 cd_28 ct_28:Value} (a28:PySem.W.nsIn K mainGlobals "_law_added"=some (some (.ref f__law_added))) (l28:K.lookup f__law_added=some ⟨oc_28,od_28,.func (PySem.W.fnOf "_law_added" "_law_added" (zc3 zh2) (zc0 zh2) (za7 zh2) .none kV_28 dc_28 pm_28 an_28 cd_28 ct_28),sl_28⟩) (c28:PySem.W.codeIn K cd_28 "_law_added"=true) (k28:PySem.W.keepIn K (.ref f__law_added)=true)
  {f__law_time:Addr} {od_29 an_29:Option Addr} {sl_29:Array (Option Value)} {oc_29 kV_29 dc_29 pm_29 cd_29 ct_29:Value} (a29:PySem.W.nsIn K mainGlobals "_law_time"=some (some (.ref f__law_time))) (l29:K.lookup f__law_time=some ⟨oc_29,od_29,.func (PySem.W.fnOf "_law_time" "_law_time" (zc3 zl8) (zc0 zl8) (za7 zl8) .none kV_29 dc_29 pm_29 an_29 cd_29 ct_29),sl_29⟩) (c29:PySem.W.codeIn K cd_29 "_law_time"=true) (k29:PySem.W.keepIn K (.ref f__law_time)=true)
  {f__law_telling:Addr} {od_30 an_30:Option Addr} {sl_30:Array (Option Value)} {oc_30 kV_30 dc_30 pm_30 cd_30 ct_30:Value} (a30:PySem.W.nsIn K mainGlobals "_law_telling"=some (some (.ref f__law_telling))) (l30:K.lookup f__law_telling=some ⟨oc_30,od_30,.func (PySem.W.fnOf "_law_telling" "_law_telling" (zc3 zg5) (zc0 zg5) (za7 zg5) .none kV_30 dc_30 pm_30 an_30 cd_30 ct_30),sl_30⟩) (c30:PySem.W.codeIn K cd_30 "_law_telling"=true) (k30:PySem.W.keepIn K (.ref f__law_telling)=true)
  {f__law_clock:Addr} {od_31 an_31:Option Addr} {sl_31:Array (Option Value)} {oc_31 kV_31 dc_31 pm_31 cd_31 ct_31:Value} (a31:PySem.W.nsIn K mainGlobals "_law_clock"=some (some (.ref f__law_clock))) (l31:K.lookup f__law_clock=some ⟨oc_31,od_31,.func (PySem.W.fnOf "_law_clock" "_law_clock" (zc3 zj7) (zc0 zj7) (za7 zj7) .none kV_31 dc_31 pm_31 an_31 cd_31 ct_31),sl_31⟩) (c31:PySem.W.codeIn K cd_31 "_law_clock"=true) (k31:PySem.W.keepIn K (.ref f__law_clock)=true)
  {f__law_order:Addr} {od_32 an_32:Option Addr} {sl_32:Array (Option Value)} {oc_32 kV_32 dc_32 pm_32 cd_32 ct_32:Value} (a32:PySem.W.nsIn K mainGlobals "_law_order"=some (some (.ref f__law_order))) (l32:K.lookup f__law_order=some ⟨oc_32,od_32,.func (PySem.W.fnOf "_law_order" "_law_order" (zc3 zj8) (zc0 zj8) (za7 zj8) .none kV_32 dc_32 pm_32 an_32 cd_32 ct_32),sl_32⟩) (c32:PySem.W.codeIn K cd_32 "_law_order"=true) (k32:PySem.W.keepIn K (.ref f__law_order)=true)
  {f__law_word:Addr} {od_33 an_33:Option Addr} {sl_33:Array (Option Value)} {oc_33 kV_33 dc_33 pm_33 cd_33 ct_33:Value} (a33:PySem.W.nsIn K mainGlobals "_law_word"=some (some (.ref f__law_word))) (l33:K.lookup f__law_word=some ⟨oc_33,od_33,.func (PySem.W.fnOf "_law_word" "_law_word" (zc3 zl5) (zc0 zl5) (za7 zl5) .none kV_33 dc_33 pm_33 an_33 cd_33 ct_33),sl_33⟩) (c33:PySem.W.codeIn K cd_33 "_law_word"=true) (k33:PySem.W.keepIn K (.ref f__law_word)=true)
  {f__law_may:Addr} {od_34 an_34:Option Addr} {sl_34:Array (Option Value)} {oc_34 kV_34 dc_34 pm_34 cd_34 ct_34:Value} (a34:PySem.W.nsIn K mainGlobals "_law_may"=some (some (.ref f__law_may))) (l34:K.lookup f__law_may=some ⟨oc_34,od_34,.func (PySem.W.fnOf "_law_may" "_law_may" (zc3 zn5) (zc0 zn5) (za7 zn5) .none kV_34 dc_34 pm_34 an_34 cd_34 ct_34),sl_34⟩) (c34:PySem.W.codeIn K cd_34 "_law_may"=true) (k34:PySem.W.keepIn K (.ref f__law_may)=true)
  {f__law_two:Addr} {od_35 an_35:Option Addr} {sl_35:Array (Option Value)} {oc_35 kV_35 dc_35 pm_35 cd_35 ct_35:Value} (a35:PySem.W.nsIn K mainGlobals "_law_two"=some (some (.ref f__law_two))) (l35:K.lookup f__law_two=some ⟨oc_35,od_35,.func (PySem.W.fnOf "_law_two" "_law_two" (zc3 zo3) (zc0 zo3) (za7 zo3) .none kV_35 dc_35 pm_35 an_35 cd_35 ct_35),sl_35⟩) (c35:PySem.W.codeIn K cd_35 "_law_two"=true) (k35:PySem.W.keepIn K (.ref f__law_two)=true)
  {f__law_gap:Addr} {od_36 an_36:Option Addr} {sl_36:Array (Option Value)} {oc_36 kV_36 dc_36 pm_36 cd_36 ct_36:Value} (a36:PySem.W.nsIn K mainGlobals "_law_gap"=some (some (.ref f__law_gap))) (l36:K.lookup f__law_gap=some ⟨oc_36,od_36,.func (PySem.W.fnOf "_law_gap" "_law_gap" (zc3 zo5) (zc0 zo5) (za7 zo5) .none kV_36 dc_36 pm_36 an_36 cd_36 ct_36),sl_36⟩) (c36:PySem.W.codeIn K cd_36 "_law_gap"=true) (k36:PySem.W.keepIn K (.ref f__law_gap)=true)
  {f__law_gap_due:Addr} {od_37 an_37:Option Addr} {sl_37:Array (Option Value)} {oc_37 kV_37 dc_37 pm_37 cd_37 ct_37:Value} (a37:PySem.W.nsIn K mainGlobals "_law_gap_due"=some (some (.ref f__law_gap_due))) (l37:K.lookup f__law_gap_due=some ⟨oc_37,od_37,.func (PySem.W.fnOf "_law_gap_due" "_law_gap_due" (zc3 zf9) (zc0 zf9) (za7 zf9) .none kV_37 dc_37 pm_37 an_37 cd_37 ct_37),sl_37⟩) (c37:PySem.W.codeIn K cd_37 "_law_gap_due"=true) (k37:PySem.W.keepIn K (.ref f__law_gap_due)=true)
  {f__law_right:Addr} {od_38 an_38:Option Addr} {sl_38:Array (Option Value)} {oc_38 kV_38 dc_38 pm_38 cd_38 ct_38:Value} (a38:PySem.W.nsIn K mainGlobals "_law_right"=some (some (.ref f__law_right))) (l38:K.lookup f__law_right=some ⟨oc_38,od_38,.func (PySem.W.fnOf "_law_right" "_law_right" (zc3 zi9) (zc0 zi9) (za7 zi9) .none kV_38 dc_38 pm_38 an_38 cd_38 ct_38),sl_38⟩) (c38:PySem.W.codeIn K cd_38 "_law_right"=true) (k38:PySem.W.keepIn K (.ref f__law_right)=true)
  {f_law:Addr} {od_39 an_39:Option Addr} {sl_39:Array (Option Value)} {oc_39 kV_39 dc_39 pm_39 cd_39 ct_39:Value} (a39:PySem.W.nsIn K mainGlobals "law"=some (some (.ref f_law))) (l39:K.lookup f_law=some ⟨oc_39,od_39,.func (PySem.W.fnOf "law" "law" (zc3 zab8) (zc0 zab8) (za7 zab8) .none kV_39 dc_39 pm_39 an_39 cd_39 ct_39),sl_39⟩) (c39:PySem.W.codeIn K cd_39 "law"=true) (k39:PySem.W.keepIn K (.ref f_law)=true)
  {c_WAYS r_WAYS_0 r_WAYS_1 r_WAYS_2 r_WAYS_3 r_WAYS_4 r_WAYS_5 r_WAYS_6 r_WAYS_7 r_WAYS_8 r_WAYS_9 r_WAYS_10 r_WAYS_11 r_WAYS_12:Addr} {n_WAYS:Nat} {t_WAYS_0 u_WAYS_0_0 u_WAYS_0_1 u_WAYS_0_2 u_WAYS_0_3 t_WAYS_1 u_WAYS_1_0 u_WAYS_1_1 u_WAYS_1_2 u_WAYS_1_3 t_WAYS_2 u_WAYS_2_0 u_WAYS_2_1 u_WAYS_2_2 u_WAYS_2_3 t_WAYS_3 u_WAYS_3_0 u_WAYS_3_1 u_WAYS_3_2 u_WAYS_3_3 t_WAYS_4 u_WAYS_4_0 u_WAYS_4_1 u_WAYS_4_2 u_WAYS_4_3 t_WAYS_5 u_WAYS_5_0 u_WAYS_5_1 u_WAYS_5_2 u_WAYS_5_3 t_WAYS_6 u_WAYS_6_0 u_WAYS_6_1 u_WAYS_6_2 u_WAYS_6_3 t_WAYS_7 u_WAYS_7_0 u_WAYS_7_1 u_WAYS_7_2 u_WAYS_7_3 t_WAYS_8 u_WAYS_8_0 u_WAYS_8_1 u_WAYS_8_2 u_WAYS_8_3 t_WAYS_9 u_WAYS_9_0 u_WAYS_9_1 u_WAYS_9_2 u_WAYS_9_3 t_WAYS_10 u_WAYS_10_0 u_WAYS_10_1 u_WAYS_10_2 u_WAYS_10_3 t_WAYS_11 u_WAYS_11_0 u_WAYS_11_1 u_WAYS_11_2 u_WAYS_11_3 t_WAYS_12 u_WAYS_12_0 u_WAYS_12_1 u_WAYS_12_2 u_WAYS_12_3:Tok} (a_WAYS:PySem.W.nsIn K mainGlobals "WAYS"=some (some (.ref c_WAYS))) (l_WAYS:K.lookup c_WAYS=some ⟨.type "dict",none,.dict #[⟨PyData.keyHash w.params "ahead",.str "ahead" t_WAYS_0,.ref r_WAYS_0⟩,⟨PyData.keyHash w.params "meets",.str "meets" t_WAYS_1,.ref r_WAYS_1⟩,⟨PyData.keyHash w.params "overlaps",.str "overlaps" t_WAYS_2,.ref r_WAYS_2⟩,⟨PyData.keyHash w.params "begins",.str "begins" t_WAYS_3,.ref r_WAYS_3⟩,⟨PyData.keyHash w.params "within",.str "within" t_WAYS_4,.ref r_WAYS_4⟩,⟨PyData.keyHash w.params "ends",.str "ends" t_WAYS_5,.ref r_WAYS_5⟩,⟨PyData.keyHash w.params "same",.str "same" t_WAYS_6,.ref r_WAYS_6⟩,⟨PyData.keyHash w.params "ended",.str "ended" t_WAYS_7,.ref r_WAYS_7⟩,⟨PyData.keyHash w.params "holds",.str "holds" t_WAYS_8,.ref r_WAYS_8⟩,⟨PyData.keyHash w.params "begun",.str "begun" t_WAYS_9,.ref r_WAYS_9⟩,⟨PyData.keyHash w.params "lapped",.str "lapped" t_WAYS_10,.ref r_WAYS_10⟩,⟨PyData.keyHash w.params "met",.str "met" t_WAYS_11,.ref r_WAYS_11⟩,⟨PyData.keyHash w.params "behind",.str "behind" t_WAYS_12,.ref r_WAYS_12⟩] n_WAYS,#[]⟩) {n_WAYS_0:Nat} {sl_WAYS_0:Array (Option Value)} (l_WAYS_0:K.lookup r_WAYS_0=some ⟨.type "tuple",none,.seq #[.int (-1) u_WAYS_0_0,.int (-1) u_WAYS_0_1,.int (-1) u_WAYS_0_2,.int (-1) u_WAYS_0_3] n_WAYS_0,sl_WAYS_0⟩) {n_WAYS_1:Nat} {sl_WAYS_1:Array (Option Value)} (l_WAYS_1:K.lookup r_WAYS_1=some ⟨.type "tuple",none,.seq #[.int (-1) u_WAYS_1_0,.int (-1) u_WAYS_1_1,.int (0) u_WAYS_1_2,.int (-1) u_WAYS_1_3] n_WAYS_1,sl_WAYS_1⟩) {n_WAYS_2:Nat} {sl_WAYS_2:Array (Option Value)} (l_WAYS_2:K.lookup r_WAYS_2=some ⟨.type "tuple",none,.seq #[.int (-1) u_WAYS_2_0,.int (-1) u_WAYS_2_1,.int (1) u_WAYS_2_2,.int (-1) u_WAYS_2_3] n_WAYS_2,sl_WAYS_2⟩) {n_WAYS_3:Nat} {sl_WAYS_3:Array (Option Value)} (l_WAYS_3:K.lookup r_WAYS_3=some ⟨.type "tuple",none,.seq #[.int (0) u_WAYS_3_0,.int (-1) u_WAYS_3_1,.int (1) u_WAYS_3_2,.int (-1) u_WAYS_3_3] n_WAYS_3,sl_WAYS_3⟩) {n_WAYS_4:Nat} {sl_WAYS_4:Array (Option Value)} (l_WAYS_4:K.lookup r_WAYS_4=some ⟨.type "tuple",none,.seq #[.int (1) u_WAYS_4_0,.int (-1) u_WAYS_4_1,.int (1) u_WAYS_4_2,.int (-1) u_WAYS_4_3] n_WAYS_4,sl_WAYS_4⟩) {n_WAYS_5:Nat} {sl_WAYS_5:Array (Option Value)} (l_WAYS_5:K.lookup r_WAYS_5=some ⟨.type "tuple",none,.seq #[.int (1) u_WAYS_5_0,.int (-1) u_WAYS_5_1,.int (1) u_WAYS_5_2,.int (0) u_WAYS_5_3] n_WAYS_5,sl_WAYS_5⟩) {n_WAYS_6:Nat} {sl_WAYS_6:Array (Option Value)} (l_WAYS_6:K.lookup r_WAYS_6=some ⟨.type "tuple",none,.seq #[.int (0) u_WAYS_6_0,.int (-1) u_WAYS_6_1,.int (1) u_WAYS_6_2,.int (0) u_WAYS_6_3] n_WAYS_6,sl_WAYS_6⟩) {n_WAYS_7:Nat} {sl_WAYS_7:Array (Option Value)} (l_WAYS_7:K.lookup r_WAYS_7=some ⟨.type "tuple",none,.seq #[.int (-1) u_WAYS_7_0,.int (-1) u_WAYS_7_1,.int (1) u_WAYS_7_2,.int (0) u_WAYS_7_3] n_WAYS_7,sl_WAYS_7⟩) {n_WAYS_8:Nat} {sl_WAYS_8:Array (Option Value)} (l_WAYS_8:K.lookup r_WAYS_8=some ⟨.type "tuple",none,.seq #[.int (-1) u_WAYS_8_0,.int (-1) u_WAYS_8_1,.int (1) u_WAYS_8_2,.int (1) u_WAYS_8_3] n_WAYS_8,sl_WAYS_8⟩) {n_WAYS_9:Nat} {sl_WAYS_9:Array (Option Value)} (l_WAYS_9:K.lookup r_WAYS_9=some ⟨.type "tuple",none,.seq #[.int (0) u_WAYS_9_0,.int (-1) u_WAYS_9_1,.int (1) u_WAYS_9_2,.int (1) u_WAYS_9_3] n_WAYS_9,sl_WAYS_9⟩) {n_WAYS_10:Nat} {sl_WAYS_10:Array (Option Value)} (l_WAYS_10:K.lookup r_WAYS_10=some ⟨.type "tuple",none,.seq #[.int (1) u_WAYS_10_0,.int (-1) u_WAYS_10_1,.int (1) u_WAYS_10_2,.int (1) u_WAYS_10_3] n_WAYS_10,sl_WAYS_10⟩) {n_WAYS_11:Nat} {sl_WAYS_11:Array (Option Value)} (l_WAYS_11:K.lookup r_WAYS_11=some ⟨.type "tuple",none,.seq #[.int (1) u_WAYS_11_0,.int (0) u_WAYS_11_1,.int (1) u_WAYS_11_2,.int (1) u_WAYS_11_3] n_WAYS_11,sl_WAYS_11⟩) {n_WAYS_12:Nat} {sl_WAYS_12:Array (Option Value)} (l_WAYS_12:K.lookup r_WAYS_12=some ⟨.type "tuple",none,.seq #[.int (1) u_WAYS_12_0,.int (1) u_WAYS_12_1,.int (1) u_WAYS_12_2,.int (1) u_WAYS_12_3] n_WAYS_12,sl_WAYS_12⟩) (y_WAYS:(c_WAYS == sysModules)=false)
  {c_POINT_WORDS k_POINT_WORDS_0 r_POINT_WORDS_0 k_POINT_WORDS_1 r_POINT_WORDS_1 k_POINT_WORDS_2 r_POINT_WORDS_2:Addr} {n_POINT_WORDS:Nat} {tk_POINT_WORDS_0_0 tk_POINT_WORDS_0_1 tr_POINT_WORDS_0_0 tr_POINT_WORDS_0_1 tr_POINT_WORDS_0_2 tk_POINT_WORDS_1_0 tk_POINT_WORDS_1_1 tr_POINT_WORDS_1_0 tr_POINT_WORDS_1_1 tr_POINT_WORDS_1_2 tr_POINT_WORDS_1_3 tr_POINT_WORDS_1_4 tk_POINT_WORDS_2_0 tk_POINT_WORDS_2_1 tr_POINT_WORDS_2_0 tr_POINT_WORDS_2_1 tr_POINT_WORDS_2_2 tr_POINT_WORDS_2_3 tr_POINT_WORDS_2_4:Tok} (a_POINT_WORDS:PySem.W.nsIn K mainGlobals "POINT_WORDS"=some (some (.ref c_POINT_WORDS))) (l_POINT_WORDS:K.lookup c_POINT_WORDS=some ⟨.type "dict",none,.dict #[⟨reduceHash (Builtin.Tuple.tupleHashOf [PyData.keyHash w.params "point",PyData.keyHash w.params "point"]),.ref k_POINT_WORDS_0,.ref r_POINT_WORDS_0⟩,⟨reduceHash (Builtin.Tuple.tupleHashOf [PyData.keyHash w.params "point",PyData.keyHash w.params "stretch"]),.ref k_POINT_WORDS_1,.ref r_POINT_WORDS_1⟩,⟨reduceHash (Builtin.Tuple.tupleHashOf [PyData.keyHash w.params "stretch",PyData.keyHash w.params "point"]),.ref k_POINT_WORDS_2,.ref r_POINT_WORDS_2⟩] n_POINT_WORDS,#[]⟩) {nk_POINT_WORDS_0:Nat} {slk_POINT_WORDS_0:Array (Option Value)} (lk_POINT_WORDS_0:K.lookup k_POINT_WORDS_0=some ⟨.type "tuple",none,.seq #[.str "point" tk_POINT_WORDS_0_0,.str "point" tk_POINT_WORDS_0_1] nk_POINT_WORDS_0,slk_POINT_WORDS_0⟩) {nr_POINT_WORDS_0:Nat} {slr_POINT_WORDS_0:Array (Option Value)} (lr_POINT_WORDS_0:K.lookup r_POINT_WORDS_0=some ⟨.type "tuple",none,.seq #[.str "ahead" tr_POINT_WORDS_0_0,.str "same" tr_POINT_WORDS_0_1,.str "behind" tr_POINT_WORDS_0_2] nr_POINT_WORDS_0,slr_POINT_WORDS_0⟩) {nk_POINT_WORDS_1:Nat} {slk_POINT_WORDS_1:Array (Option Value)} (lk_POINT_WORDS_1:K.lookup k_POINT_WORDS_1=some ⟨.type "tuple",none,.seq #[.str "point" tk_POINT_WORDS_1_0,.str "stretch" tk_POINT_WORDS_1_1] nk_POINT_WORDS_1,slk_POINT_WORDS_1⟩) {nr_POINT_WORDS_1:Nat} {slr_POINT_WORDS_1:Array (Option Value)} (lr_POINT_WORDS_1:K.lookup r_POINT_WORDS_1=some ⟨.type "tuple",none,.seq #[.str "ahead" tr_POINT_WORDS_1_0,.str "begins" tr_POINT_WORDS_1_1,.str "within" tr_POINT_WORDS_1_2,.str "ends" tr_POINT_WORDS_1_3,.str "behind" tr_POINT_WORDS_1_4] nr_POINT_WORDS_1,slr_POINT_WORDS_1⟩) {nk_POINT_WORDS_2:Nat} {slk_POINT_WORDS_2:Array (Option Value)} (lk_POINT_WORDS_2:K.lookup k_POINT_WORDS_2=some ⟨.type "tuple",none,.seq #[.str "stretch" tk_POINT_WORDS_2_0,.str "point" tk_POINT_WORDS_2_1] nk_POINT_WORDS_2,slk_POINT_WORDS_2⟩) {nr_POINT_WORDS_2:Nat} {slr_POINT_WORDS_2:Array (Option Value)} (lr_POINT_WORDS_2:K.lookup r_POINT_WORDS_2=some ⟨.type "tuple",none,.seq #[.str "ahead" tr_POINT_WORDS_2_0,.str "ended" tr_POINT_WORDS_2_1,.str "holds" tr_POINT_WORDS_2_2,.str "begun" tr_POINT_WORDS_2_3,.str "behind" tr_POINT_WORDS_2_4] nr_POINT_WORDS_2,slr_POINT_WORDS_2⟩) (y_POINT_WORDS:(c_POINT_WORDS == sysModules)=false)
  {c_ORDER:Addr} {n_ORDER:Nat} {sl_ORDER:Array (Option Value)} {t_ORDER_0 t_ORDER_1 t_ORDER_2 t_ORDER_3 t_ORDER_4 t_ORDER_5 t_ORDER_6 t_ORDER_7 t_ORDER_8 t_ORDER_9 t_ORDER_10 t_ORDER_11 t_ORDER_12:Tok} (a_ORDER:PySem.W.nsIn K mainGlobals "ORDER"=some (some (.ref c_ORDER))) (l_ORDER:K.lookup c_ORDER=some ⟨.type "tuple",none,.seq #[.str "ahead" t_ORDER_0,.str "meets" t_ORDER_1,.str "overlaps" t_ORDER_2,.str "begins" t_ORDER_3,.str "within" t_ORDER_4,.str "ends" t_ORDER_5,.str "same" t_ORDER_6,.str "ended" t_ORDER_7,.str "holds" t_ORDER_8,.str "begun" t_ORDER_9,.str "lapped" t_ORDER_10,.str "met" t_ORDER_11,.str "behind" t_ORDER_12] n_ORDER,sl_ORDER⟩)
  (z_abs:PySem.W.nsIn K mainGlobals "abs"=some none)
  (z_isinstance:PySem.W.nsIn K mainGlobals "isinstance"=some none)
  (z_tuple:PySem.W.nsIn K mainGlobals "tuple"=some none)
  (z_dict:PySem.W.nsIn K mainGlobals "dict"=some none)
  (z_len:PySem.W.nsIn K mainGlobals "len"=some none)
  (z_list:PySem.W.nsIn K mainGlobals "list"=some none)
  (z_int:PySem.W.nsIn K mainGlobals "int"=some none)
  (z_sorted:PySem.W.nsIn K mainGlobals "sorted"=some none)
  (z_range:PySem.W.nsIn K mainGlobals "range"=some none)
  (z_zip:PySem.W.nsIn K mainGlobals "zip"=some none)
  (z_repr:PySem.W.nsIn K mainGlobals "repr"=some none)
  : ∃ fd:FuncData,(∀ (s:Shared) (v:Value),BindsTo s fd ⟨[v],[]⟩ [("_law_script",v)])∧∀ base:Heap,K.In base→base.Ns mainGlobals mg→FnOk l.prog w K mg base CX0 9 fa fd ["_law_script"] (LSp K 1 zZ1):=by
 have e:=hfa.symm.trans (PySem.W.mg_of X G a39)
 cases e
 have F_common:=zd3 (st:=zy4) l0 c0 k0
 have B_common:=(F_common).binds (ps:=zy2) fun _ _ _ _ _ _ us hl=>us_2 (by intros; rfl) us hl
 have M_common:=PySem.W.mg_of X G a0
 have F_fraction:=zd3 (st:=zo4) l1 c1 k1
 have B_fraction:=(F_fraction).binds (ps:=zn7) fun _ _ _ _ _ _ us hl=>us_2 (by intros; rfl) us hl
 have M_fraction:=PySem.W.mg_of X G a1
 have F_less:=zd3 (st:=zV1) l2 c2 k2
 have B_less:=(F_less).binds (ps:=zU6) fun _ _ _ _ _ _ us hl=>us_2 (by intros; rfl) us hl
 have M_less:=PySem.W.mg_of X G a2
 have F_is_below:=zd3 (st:=zm6) l3 c3 k3
 have B_is_below:=(F_is_below).binds (ps:=zk3) fun _ _ _ _ _ _ us hl=>us_2 (by intros; rfl) us hl
 have M_is_below:=PySem.W.mg_of X G a3
 have F_words_of:=zd3 (st:=zp1) l4 c4 k4
 have B_words_of:=(F_words_of).binds (ps:=zp3) fun _ _ _ _ _ _ us hl=>us_1 (by intros; rfl) us hl
 have M_words_of:=PySem.W.mg_of X G a4
 have F_ways_by:=zd3 (st:=zs6) l5 c5 k5
 have B_ways_by:=(F_ways_by).binds (ps:=zu7) fun _ _ _ _ _ _ us hl=>us_2 (by intros; rfl) us hl
 have M_ways_by:=PySem.W.mg_of X G a5
 have F_is_point:=zd3 (st:=zp4) l6 c6 k6
 have B_is_point:=(F_is_point).binds (ps:=zo7) fun _ _ _ _ _ _ us hl=>us_1 (by intros; rfl) us hl
 have M_is_point:=PySem.W.mg_of X G a6
 have F_way_of:=zd3 (st:=zy9) l7 c7 k7
 have B_way_of:=(F_way_of).binds (ps:=zz4) fun _ _ _ _ _ _ us hl=>us_2 (by intros; rfl) us hl
 have M_way_of:=PySem.W.mg_of X G a7
 have F_word_of:=zd3 (st:=zu5) l8 c8 k8
 have B_word_of:=(F_word_of).binds (ps:=zu4) fun _ _ _ _ _ _ us hl=>us_2 (by intros; rfl) us hl
 have M_word_of:=PySem.W.mg_of X G a8
 have F_names_of:=zd3 (st:=zn9) l9 c9 k9
 have B_names_of:=(F_names_of).binds (ps:=zp5) fun _ _ _ _ _ _ us hl=>us_1 (by intros; rfl) us hl
 have M_names_of:=PySem.W.mg_of X G a9
 have F_times_of:=zd3 (st:=zm4) l10 c10 k10
 have B_times_of:=(F_times_of).binds (ps:=zk2) fun _ _ _ _ _ _ us hl=>us_3 (by intros; rfl) us hl
 have M_times_of:=PySem.W.mg_of X G a10
 have F_time_of:=zd3 (st:=zt3) l11 c11 k11
 have B_time_of:=(F_time_of).binds (ps:=zt7) fun _ _ _ _ _ _ us hl=>us_3 (by intros; rfl) us hl
 have M_time_of:=PySem.W.mg_of X G a11
 have F_word_between:=zd3 (st:=zg3) l12 c12 k12
 have B_word_between:=(F_word_between).binds (ps:=zf8) fun _ _ _ _ _ _ us hl=>us_4 (by intros; rfl) us hl
 have M_word_between:=PySem.W.mg_of X G a12
 have F_is_gap_met:=zd3 (st:=zi6) l13 c13 k13
 have B_is_gap_met:=(F_is_gap_met).binds (ps:=zj0) fun _ _ _ _ _ _ us hl=>us_3 (by intros; rfl) us hl
 have M_is_gap_met:=PySem.W.mg_of X G a13
 have F_is_may_row:=zd3 (st:=zh0) l14 c14 k14
 have B_is_may_row:=(F_is_may_row).binds (ps:=zf4) fun _ _ _ _ _ _ us hl=>us_1 (by intros; rfl) us hl
 have M_is_may_row:=PySem.W.mg_of X G a14
 have F_is_fault:=zd3 (st:=zo2) l15 c15 k15
 have B_is_fault:=(F_is_fault).binds (ps:=zo0) fun _ _ _ _ _ _ us hl=>us_1 (by intros; rfl) us hl
 have M_is_fault:=PySem.W.mg_of X G a15
 have F_has_row:=zd3 (st:=zt9) l16 c16 k16
 have B_has_row:=(F_has_row).binds (ps:=zt0) fun _ _ _ _ _ _ us hl=>us_3 (by intros; rfl) us hl
 have M_has_row:=PySem.W.mg_of X G a16
 have F__law_feed:=zd3 (st:=zl9) l17 c17 k17
 have B__law_feed:=(F__law_feed).binds (ps:=zl1) fun _ _ _ _ _ _ us hl=>us_1 (by intros; rfl) us hl
 have M__law_feed:=PySem.W.mg_of X G a17
 have F__law_draw:=zd3 (st:=ze0) l18 c18 k18
 have B__law_draw:=(F__law_draw).binds (ps:=zc7) fun _ _ _ _ _ _ us hl=>us_2 (by intros; rfl) us hl
 have M__law_draw:=PySem.W.mg_of X G a18
 have F__law_things:=zd3 (st:=zh4) l19 c19 k19
 have B__law_things:=(F__law_things).binds (ps:=zh7) fun _ _ _ _ _ _ us hl=>us_3 (by intros; rfl) us hl
 have M__law_things:=PySem.W.mg_of X G a19
 have F__law_words:=zd3 (st:=zf2) l20 c20 k20
 have B__law_words:=(F__law_words).binds (ps:=zd7) fun _ _ _ _ _ _ us hl=>us_1 (by intros; rfl) us hl
 have M__law_words:=PySem.W.mg_of X G a20
 have F__law_back:=zd3 (st:=zm2) l21 c21 k21
 have B__law_back:=(F__law_back).binds (ps:=zl7) fun _ _ _ _ _ _ us hl=>us_1 (by intros; rfl) us hl
 have M__law_back:=PySem.W.mg_of X G a21
 have F__law_sign:=zd3 (st:=zg2) l22 c22 k22
 have B__law_sign:=(F__law_sign).binds (ps:=zd4) fun _ _ _ _ _ _ us hl=>us_4 (by intros; rfl) us hl
 have M__law_sign:=PySem.W.mg_of X G a22
 have F__law_sides:=zd3 (st:=ze5) l23 c23 k23
 have B__law_sides:=(F__law_sides).binds (ps:=zd0) fun _ _ _ _ _ _ us hl=>us_1 (by intros; rfl) us hl
 have M__law_sides:=PySem.W.mg_of X G a23
 have F__law_all_signs:=zd3 (st:=zd9) l24 c24 k24
 have B__law_all_signs:=(F__law_all_signs).binds (ps:=zd8) fun _ _ _ _ _ _ us hl=>us_2 (by intros; rfl) us hl
 have M__law_all_signs:=PySem.W.mg_of X G a24
 have F__law_kinds:=zd3 (st:=zh1) l25 c25 k25
 have B__law_kinds:=(F__law_kinds).binds (ps:=zf3) fun _ _ _ _ _ _ us hl=>us_2 (by intros; rfl) us hl
 have M__law_kinds:=PySem.W.mg_of X G a25
 have F__law_all_ends:=zd3 (st:=ze8) l26 c26 k26
 have B__law_all_ends:=(F__law_all_ends).binds (ps:=ze7) fun _ _ _ _ _ _ us hl=>us_1 (by intros; rfl) us hl
 have M__law_all_ends:=PySem.W.mg_of X G a26
 have F__law_lowest:=zd3 (st:=zf5) l27 c27 k27
 have B__law_lowest:=(F__law_lowest).binds (ps:=ze3) fun _ _ _ _ _ _ us hl=>us_2 (by intros; rfl) us hl
 have M__law_lowest:=PySem.W.mg_of X G a27
 have F__law_added:=zd3 (st:=zh2) l28 c28 k28
 have B__law_added:=(F__law_added).binds (ps:=zf6) fun _ _ _ _ _ _ us hl=>us_3 (by intros; rfl) us hl
 have M__law_added:=PySem.W.mg_of X G a28
 have F__law_time:=zd3 (st:=zl8) l29 c29 k29
 have B__law_time:=(F__law_time).binds (ps:=zl2) fun _ _ _ _ _ _ us hl=>us_1 (by intros; rfl) us hl
 have M__law_time:=PySem.W.mg_of X G a29
 have F__law_telling:=zd3 (st:=zg5) l30 c30 k30
 have B__law_telling:=(F__law_telling).binds (ps:=zg1) fun _ _ _ _ _ _ us hl=>us_2 (by intros; rfl) us hl
 have M__law_telling:=PySem.W.mg_of X G a30
 have F__law_clock:=zd3 (st:=zj7) l31 c31 k31
 have B__law_clock:=(F__law_clock).binds (ps:=zi8) fun _ _ _ _ _ _ us hl=>us_2 (by intros; rfl) us hl
 have M__law_clock:=PySem.W.mg_of X G a31
 have F__law_order:=zd3 (st:=zj8) l32 c32 k32
 have B__law_order:=(F__law_order).binds (ps:=zj5) fun _ _ _ _ _ _ us hl=>us_3 (by intros; rfl) us hl
 have M__law_order:=PySem.W.mg_of X G a32
 have F__law_word:=zd3 (st:=zl5) l33 c33 k33
 have B__law_word:=(F__law_word).binds (ps:=zm1) fun _ _ _ _ _ _ us hl=>us_4 (by intros; rfl) us hl
 have M__law_word:=PySem.W.mg_of X G a33
 have F__law_may:=zd3 (st:=zn5) l34 c34 k34
 have B__law_may:=(F__law_may).binds (ps:=zn4) fun _ _ _ _ _ _ us hl=>us_2 (by intros; rfl) us hl
 have M__law_may:=PySem.W.mg_of X G a34
 have F__law_two:=zd3 (st:=zo3) l35 c35 k35
 have B__law_two:=(F__law_two).binds (ps:=zp6) fun _ _ _ _ _ _ us hl=>us_2 (by intros; rfl) us hl
 have M__law_two:=PySem.W.mg_of X G a35
 have F__law_gap:=zd3 (st:=zo5) l36 c36 k36
 have B__law_gap:=(F__law_gap).binds (ps:=zo9) fun _ _ _ _ _ _ us hl=>us_3 (by intros; rfl) us hl
 have M__law_gap:=PySem.W.mg_of X G a36
 have F__law_gap_due:=zd3 (st:=zf9) l37 c37 k37
 have B__law_gap_due:=(F__law_gap_due).binds (ps:=zg4) fun _ _ _ _ _ _ us hl=>us_2 (by intros; rfl) us hl
 have M__law_gap_due:=PySem.W.mg_of X G a37
 have F__law_right:=zd3 (st:=zi9) l38 c38 k38
 have B__law_right:=(F__law_right).binds (ps:=zj2) fun _ _ _ _ _ _ us hl=>us_5 (by intros; rfl) us hl
 have M__law_right:=PySem.W.mg_of X G a38
 have F_law:=zd3 (st:=zab8) l39 c39 k39
 have M_POINT_WORDS:=PySem.W.mg_of X G a_POINT_WORDS
 have Kk_POINT_WORDS_0:KT K k_POINT_WORDS_0 ["point","point"]:=⟨_,_,_,lk_POINT_WORDS_0,rfl,rfl,rfl,by show 2≤sizeLine; rw [sizeLine_eq]; decide,.cons ⟨_,rfl⟩ (.cons ⟨_,rfl⟩ (.nil))⟩
 have Kr_POINT_WORDS_0:KT K r_POINT_WORDS_0 ["ahead","same","behind"]:=⟨_,_,_,lr_POINT_WORDS_0,rfl,rfl,rfl,by show 3≤sizeLine; rw [sizeLine_eq]; decide,.cons ⟨_,rfl⟩ (.cons ⟨_,rfl⟩ (.cons ⟨_,rfl⟩ (.nil)))⟩
 have Kk_POINT_WORDS_1:KT K k_POINT_WORDS_1 ["point","stretch"]:=⟨_,_,_,lk_POINT_WORDS_1,rfl,rfl,rfl,by show 2≤sizeLine; rw [sizeLine_eq]; decide,.cons ⟨_,rfl⟩ (.cons ⟨_,rfl⟩ (.nil))⟩
 have Kr_POINT_WORDS_1:KT K r_POINT_WORDS_1 ["ahead","begins","within","ends","behind"]:=⟨_,_,_,lr_POINT_WORDS_1,rfl,rfl,rfl,by show 5≤sizeLine; rw [sizeLine_eq]; decide,.cons ⟨_,rfl⟩ (.cons ⟨_,rfl⟩ (.cons ⟨_,rfl⟩ (.cons ⟨_,rfl⟩ (.cons ⟨_,rfl⟩ (.nil)))))⟩
 have Kk_POINT_WORDS_2:KT K k_POINT_WORDS_2 ["stretch","point"]:=⟨_,_,_,lk_POINT_WORDS_2,rfl,rfl,rfl,by show 2≤sizeLine; rw [sizeLine_eq]; decide,.cons ⟨_,rfl⟩ (.cons ⟨_,rfl⟩ (.nil))⟩
 have Kr_POINT_WORDS_2:KT K r_POINT_WORDS_2 ["ahead","ended","holds","begun","behind"]:=⟨_,_,_,lr_POINT_WORDS_2,rfl,rfl,rfl,by show 5≤sizeLine; rw [sizeLine_eq]; decide,.cons ⟨_,rfl⟩ (.cons ⟨_,rfl⟩ (.cons ⟨_,rfl⟩ (.cons ⟨_,rfl⟩ (.cons ⟨_,rfl⟩ (.nil)))))⟩
 have K_POINT_WORDS:KTD K w c_POINT_WORDS zw2:=⟨[(["point","point"],k_POINT_WORDS_0,.ref r_POINT_WORDS_0),(["point","stretch"],k_POINT_WORDS_1,.ref r_POINT_WORDS_1),(["stretch","point"],k_POINT_WORDS_2,.ref r_POINT_WORDS_2)],⟨_,_,_,l_POINT_WORDS,rfl,rfl,rfl,rfl,⟨rfl,rfl,rfl,Kk_POINT_WORDS_0,⟨rfl,rfl,rfl,Kk_POINT_WORDS_1,⟨rfl,rfl,rfl,Kk_POINT_WORDS_2,True.intro⟩⟩⟩,by show List.Nodup ([["point","point"],["point","stretch"],["stretch","point"]]:List (List Str)); decide +kernel,y_POINT_WORDS⟩,fun Z m H=>⟨_,_,rfl,KT.rp Kr_POINT_WORDS_0,⟨_,_,rfl,KT.rp Kr_POINT_WORDS_1,⟨_,_,rfl,KT.rp Kr_POINT_WORDS_2,rfl⟩⟩⟩⟩
 have M_ORDER:=PySem.W.mg_of X G a_ORDER
 have K_ORDER:KT K c_ORDER ["ahead","meets","overlaps","begins","within","ends","same","ended","holds","begun","lapped","met","behind"]:=⟨_,_,_,l_ORDER,rfl,rfl,rfl,by show 13≤sizeLine; rw [sizeLine_eq]; decide,.cons ⟨_,rfl⟩ (.cons ⟨_,rfl⟩ (.cons ⟨_,rfl⟩ (.cons ⟨_,rfl⟩ (.cons ⟨_,rfl⟩ (.cons ⟨_,rfl⟩ (.cons ⟨_,rfl⟩ (.cons ⟨_,rfl⟩ (.cons ⟨_,rfl⟩ (.cons ⟨_,rfl⟩ (.cons ⟨_,rfl⟩ (.cons ⟨_,rfl⟩ (.cons ⟨_,rfl⟩ (.nil)))))))))))))⟩
 have M_WAYS:=PySem.W.mg_of X G a_WAYS
 have K_WAYS:KD K w c_WAYS zab6:=⟨[("ahead",.ref r_WAYS_0),("meets",.ref r_WAYS_1),("overlaps",.ref r_WAYS_2),("begins",.ref r_WAYS_3),("within",.ref r_WAYS_4),("ends",.ref r_WAYS_5),("same",.ref r_WAYS_6),("ended",.ref r_WAYS_7),("holds",.ref r_WAYS_8),("begun",.ref r_WAYS_9),("lapped",.ref r_WAYS_10),("met",.ref r_WAYS_11),("behind",.ref r_WAYS_12)],⟨_,_,_,l_WAYS,rfl,rfl,rfl,rfl,⟨rfl,⟨_,rfl⟩,rfl,⟨rfl,⟨_,rfl⟩,rfl,⟨rfl,⟨_,rfl⟩,rfl,⟨rfl,⟨_,rfl⟩,rfl,⟨rfl,⟨_,rfl⟩,rfl,⟨rfl,⟨_,rfl⟩,rfl,⟨rfl,⟨_,rfl⟩,rfl,⟨rfl,⟨_,rfl⟩,rfl,⟨rfl,⟨_,rfl⟩,rfl,⟨rfl,⟨_,rfl⟩,rfl,⟨rfl,⟨_,rfl⟩,rfl,⟨rfl,⟨_,rfl⟩,rfl,⟨rfl,⟨_,rfl⟩,rfl,True.intro⟩⟩⟩⟩⟩⟩⟩⟩⟩⟩⟩⟩⟩,by show List.Nodup (["ahead","meets","overlaps","begins","within","ends","same","ended","holds","begun","lapped","met","behind"]:List Str); decide +kernel,y_WAYS⟩,fun Z m H=>⟨_,_,rfl,zp2 (is:=[-1,-1,-1,-1]) (.inr ⟨_,_,_,l_WAYS_0,⟨rfl,rfl⟩,rfl,by show 4≤sizeLine; rw [sizeLine_eq]; decide,.cons ⟨_,rfl⟩ (.cons ⟨_,rfl⟩ (.cons ⟨_,rfl⟩ (.cons ⟨_,rfl⟩ (.nil))))⟩),⟨_,_,rfl,zp2 (is:=[-1,-1,0,-1]) (.inr ⟨_,_,_,l_WAYS_1,⟨rfl,rfl⟩,rfl,by show 4≤sizeLine; rw [sizeLine_eq]; decide,.cons ⟨_,rfl⟩ (.cons ⟨_,rfl⟩ (.cons ⟨_,rfl⟩ (.cons ⟨_,rfl⟩ (.nil))))⟩),⟨_,_,rfl,zp2 (is:=[-1,-1,1,-1]) (.inr ⟨_,_,_,l_WAYS_2,⟨rfl,rfl⟩,rfl,by show 4≤sizeLine; rw [sizeLine_eq]; decide,.cons ⟨_,rfl⟩ (.cons ⟨_,rfl⟩ (.cons ⟨_,rfl⟩ (.cons ⟨_,rfl⟩ (.nil))))⟩),⟨_,_,rfl,zp2 (is:=[0,-1,1,-1]) (.inr ⟨_,_,_,l_WAYS_3,⟨rfl,rfl⟩,rfl,by show 4≤sizeLine; rw [sizeLine_eq]; decide,.cons ⟨_,rfl⟩ (.cons ⟨_,rfl⟩ (.cons ⟨_,rfl⟩ (.cons ⟨_,rfl⟩ (.nil))))⟩),⟨_,_,rfl,zp2 (is:=[1,-1,1,-1]) (.inr ⟨_,_,_,l_WAYS_4,⟨rfl,rfl⟩,rfl,by show 4≤sizeLine; rw [sizeLine_eq]; decide,.cons ⟨_,rfl⟩ (.cons ⟨_,rfl⟩ (.cons ⟨_,rfl⟩ (.cons ⟨_,rfl⟩ (.nil))))⟩),⟨_,_,rfl,zp2 (is:=[1,-1,1,0]) (.inr ⟨_,_,_,l_WAYS_5,⟨rfl,rfl⟩,rfl,by show 4≤sizeLine; rw [sizeLine_eq]; decide,.cons ⟨_,rfl⟩ (.cons ⟨_,rfl⟩ (.cons ⟨_,rfl⟩ (.cons ⟨_,rfl⟩ (.nil))))⟩),⟨_,_,rfl,zp2 (is:=[0,-1,1,0]) (.inr ⟨_,_,_,l_WAYS_6,⟨rfl,rfl⟩,rfl,by show 4≤sizeLine; rw [sizeLine_eq]; decide,.cons ⟨_,rfl⟩ (.cons ⟨_,rfl⟩ (.cons ⟨_,rfl⟩ (.cons ⟨_,rfl⟩ (.nil))))⟩),⟨_,_,rfl,zp2 (is:=[-1,-1,1,0]) (.inr ⟨_,_,_,l_WAYS_7,⟨rfl,rfl⟩,rfl,by show 4≤sizeLine; rw [sizeLine_eq]; decide,.cons ⟨_,rfl⟩ (.cons ⟨_,rfl⟩ (.cons ⟨_,rfl⟩ (.cons ⟨_,rfl⟩ (.nil))))⟩),⟨_,_,rfl,zp2 (is:=[-1,-1,1,1]) (.inr ⟨_,_,_,l_WAYS_8,⟨rfl,rfl⟩,rfl,by show 4≤sizeLine; rw [sizeLine_eq]; decide,.cons ⟨_,rfl⟩ (.cons ⟨_,rfl⟩ (.cons ⟨_,rfl⟩ (.cons ⟨_,rfl⟩ (.nil))))⟩),⟨_,_,rfl,zp2 (is:=[0,-1,1,1]) (.inr ⟨_,_,_,l_WAYS_9,⟨rfl,rfl⟩,rfl,by show 4≤sizeLine; rw [sizeLine_eq]; decide,.cons ⟨_,rfl⟩ (.cons ⟨_,rfl⟩ (.cons ⟨_,rfl⟩ (.cons ⟨_,rfl⟩ (.nil))))⟩),⟨_,_,rfl,zp2 (is:=[1,-1,1,1]) (.inr ⟨_,_,_,l_WAYS_10,⟨rfl,rfl⟩,rfl,by show 4≤sizeLine; rw [sizeLine_eq]; decide,.cons ⟨_,rfl⟩ (.cons ⟨_,rfl⟩ (.cons ⟨_,rfl⟩ (.cons ⟨_,rfl⟩ (.nil))))⟩),⟨_,_,rfl,zp2 (is:=[1,0,1,1]) (.inr ⟨_,_,_,l_WAYS_11,⟨rfl,rfl⟩,rfl,by show 4≤sizeLine; rw [sizeLine_eq]; decide,.cons ⟨_,rfl⟩ (.cons ⟨_,rfl⟩ (.cons ⟨_,rfl⟩ (.cons ⟨_,rfl⟩ (.nil))))⟩),⟨_,_,rfl,zp2 (is:=[1,1,1,1]) (.inr ⟨_,_,_,l_WAYS_12,⟨rfl,rfl⟩,rfl,by show 4≤sizeLine; rw [sizeLine_eq]; decide,.cons ⟨_,rfl⟩ (.cons ⟨_,rfl⟩ (.cons ⟨_,rfl⟩ (.cons ⟨_,rfl⟩ (.nil))))⟩),rfl⟩⟩⟩⟩⟩⟩⟩⟩⟩⟩⟩⟩⟩⟩
 have m_abs:=PySem.W.mg_none_of X G z_abs
 have m_isinstance:=PySem.W.mg_none_of X G z_isinstance
 have m_tuple:=PySem.W.mg_none_of X G z_tuple
 have m_dict:=PySem.W.mg_none_of X G z_dict
 have m_len:=PySem.W.mg_none_of X G z_len
 have m_list:=PySem.W.mg_none_of X G z_list
 have m_int:=PySem.W.mg_none_of X G z_int
 have m_sorted:=PySem.W.mg_none_of X G z_sorted
 have m_range:=PySem.W.mg_none_of X G z_range
 have m_zip:=PySem.W.mg_none_of X G z_zip
 have m_repr:=PySem.W.mg_none_of X G z_repr
 refine ⟨PySem.W.fnOf "law" "law" (zc3 zab8) (zc0 zab8) (za7 zab8) .none kV_39 dc_39 pm_39 an_39 cd_39 ct_39,fun s v=>.of_eq rfl,fun base _ _=>?_⟩
 have C__law_feed:=zah8 (P:=l.prog) (w:=w) (mg:=mg) (base:=base) F__law_feed m_list m_int zag1
 have C__law_draw:=zaj1 (P:=l.prog) (w:=w) (mg:=mg) (base:=base) F__law_draw m_len zak1
 have C__law_things:=zY1 (P:=l.prog) (w:=w) (mg:=mg) (base:=base) F__law_things F__law_draw B__law_draw M__law_draw C__law_draw m_sorted m_range m_tuple m_zip zX8
 have C__law_lowest:=zX9 (P:=l.prog) (w:=w) (mg:=mg) (base:=base) F__law_lowest m_abs zY0
 have C__law_time:=zai8 (P:=l.prog) (w:=w) (mg:=mg) (base:=base) F__law_time F__law_draw B__law_draw M__law_draw C__law_draw F__law_lowest B__law_lowest M__law_lowest C__law_lowest zai1
 have C__law_telling:=zV7 (P:=l.prog) (w:=w) (mg:=mg) (base:=base) F__law_telling F__law_time B__law_time M__law_time C__law_time m_tuple zV0
 have C__law_sides:=zab4 (P:=l.prog) (w:=w) (mg:=mg) (base:=base) F__law_sides zae8
 have C__law_clock:=zae2 (P:=l.prog) (w:=w) (mg:=mg) (base:=base) F__law_clock F__law_sides B__law_sides M__law_sides C__law_sides m_zip zae0
 have C__law_all_ends:=zS1 (P:=l.prog) (w:=w) (mg:=mg) (base:=base) F__law_all_ends F__law_sides B__law_sides M__law_sides C__law_sides zR8
 have C__law_added:=zac7 (P:=l.prog) (w:=w) (mg:=mg) (base:=base) F__law_added F__law_lowest B__law_lowest M__law_lowest C__law_lowest zad3
 have C__law_gap:=zam9 (P:=l.prog) (w:=w) (mg:=mg) (base:=base) F__law_gap F__law_all_ends B__law_all_ends M__law_all_ends C__law_all_ends F__law_draw B__law_draw M__law_draw C__law_draw F__law_added B__law_added M__law_added C__law_added m_len m_int zao8
 have C_is_may_row:=zaa9 (P:=l.prog) (w:=w) (mg:=mg) (base:=base) F_is_may_row m_len zac8
 have C_is_point:=zal0 (P:=l.prog) (w:=w) (mg:=mg) (base:=base) F_is_point m_isinstance m_tuple zam0
 have C_is_below:=zan3 (P:=l.prog) (w:=w) (mg:=mg) (base:=base) F_is_below zao7
 have C_way_of:=zaF2 (P:=l.prog) (w:=w) (mg:=mg) (base:=base) F_way_of F_is_below B_is_below M_is_below C_is_below zax6
 have C_words_of:=zal5 (P:=l.prog) (w:=w) (mg:=mg) (base:=base) F_words_of M_POINT_WORDS K_POINT_WORDS M_ORDER K_ORDER zam2
 have C_ways_by:=zav0 (P:=l.prog) (w:=w) (mg:=mg) (base:=base) F_ways_by M_WAYS K_WAYS zaw4
 have C_word_of:=zaw2 (P:=l.prog) (w:=w) (mg:=mg) (base:=base) F_word_of F_is_point B_is_point M_is_point C_is_point F_way_of B_way_of M_way_of C_way_of F_words_of B_words_of M_words_of C_words_of F_ways_by B_ways_by M_ways_by C_ways_by m_tuple zaw9
 have C_names_of:=zao0 (P:=l.prog) (w:=w) (mg:=mg) (base:=base) F_names_of zap7
 have C_times_of:=zam3 (P:=l.prog) (w:=w) (mg:=mg) (base:=base) F_times_of F_names_of B_names_of M_names_of C_names_of zam7
 have C_word_between:=zW4 (P:=l.prog) (w:=w) (mg:=mg) (base:=base) F_word_between F_word_of B_word_of M_word_of C_word_of F_times_of B_times_of M_times_of C_times_of zX0
 have C_common:=zaF1 (P:=l.prog) (w:=w) (mg:=mg) (base:=base) F_common m_abs zay7
 have C_fraction:=zan8 (P:=l.prog) (w:=w) (mg:=mg) (base:=base) F_fraction F_common B_common M_common C_common zak8
 have C_less:=zaW7 (P:=l.prog) (w:=w) (mg:=mg) (base:=base) F_less F_fraction B_fraction M_fraction C_fraction zaV2
 have C_time_of:=zaw6 (P:=l.prog) (w:=w) (mg:=mg) (base:=base) F_time_of F_times_of B_times_of M_times_of C_times_of m_dict zau2
 have C_is_gap_met:=zae9 (P:=l.prog) (w:=w) (mg:=mg) (base:=base) F_is_gap_met F_less B_less M_less C_less F_time_of B_time_of M_time_of C_time_of F_is_below B_is_below M_is_below C_is_below zaf0
 have C_has_row:=zat9 (P:=l.prog) (w:=w) (mg:=mg) (base:=base) F_has_row F_is_may_row B_is_may_row M_is_may_row C_is_may_row F_word_between B_word_between M_word_between C_word_between F_is_gap_met B_is_gap_met M_is_gap_met C_is_gap_met zav4
 have C_is_fault:=zal1 (P:=l.prog) (w:=w) (mg:=mg) (base:=base) F_is_fault F_is_may_row B_is_may_row M_is_may_row C_is_may_row zal8
 have C__law_right:=zab1 (P:=l.prog) (w:=w) (mg:=mg) (base:=base) F__law_right F_has_row B_has_row M_has_row C_has_row F_is_fault B_is_fault M_is_fault C_is_fault m_repr zaf8
 have C__law_gap_due:=zX4 (P:=l.prog) (w:=w) (mg:=mg) (base:=base) F__law_gap_due F__law_added B__law_added M__law_added C__law_added zT8
 have C__law_two:=zao6 (P:=l.prog) (w:=w) (mg:=mg) (base:=base) F__law_two F__law_draw B__law_draw M__law_draw C__law_draw m_len zap4
 have C__law_words:=zac6 (P:=l.prog) (w:=w) (mg:=mg) (base:=base) F__law_words zad1
 have C__law_may:=zao3 (P:=l.prog) (w:=w) (mg:=mg) (base:=base) F__law_may F__law_words B__law_words M__law_words C__law_words F__law_draw B__law_draw M__law_draw C__law_draw m_len m_range m_tuple zao9
 have C__law_kinds:=zad7 (P:=l.prog) (w:=w) (mg:=mg) (base:=base) F__law_kinds m_dict m_tuple zag0
 have C__law_order:=zac9 (P:=l.prog) (w:=w) (mg:=mg) (base:=base) F__law_order m_int zae7
 have C__law_back:=zai2 (P:=l.prog) (w:=w) (mg:=mg) (base:=base) F__law_back F__law_words B__law_words M__law_words C__law_words zah0
 have C__law_sign0:FnOk l.prog w K mg base CX0 (0 + 3) f__law_sign (PySem.W.fnOf "_law_sign" "_law_sign" (zc3 zg2) (zc0 zg2) (za7 zg2) .none kV_22 dc_22 pm_22 an_22 cd_22 ct_22) zd4 (LSp K 4 (zd1 0)):=zaS0 fun _ _ _ h=>h
 have C__law_sign1:=zD0 (j:=0) (P:=l.prog) (w:=w) (mg:=mg) (base:=base) F__law_sign B__law_sign M__law_sign C__law_sign0 F__law_back B__law_back M__law_back C__law_back zaf2
 have C__law_sign2:=zD0 (j:=1) (P:=l.prog) (w:=w) (mg:=mg) (base:=base) F__law_sign B__law_sign M__law_sign C__law_sign1 F__law_back B__law_back M__law_back C__law_back zad9
 have C__law_sign:=zD0 (j:=2) (P:=l.prog) (w:=w) (mg:=mg) (base:=base) F__law_sign B__law_sign M__law_sign C__law_sign2 F__law_back B__law_back M__law_back C__law_back zae5
 have C__law_all_signs:=zM8 (P:=l.prog) (w:=w) (mg:=mg) (base:=base) F__law_all_signs F__law_sides B__law_sides M__law_sides C__law_sides F__law_sign B__law_sign M__law_sign C__law_sign m_tuple zN0
 have C__law_word:=zag7 (P:=l.prog) (w:=w) (mg:=mg) (base:=base) F__law_word F__law_kinds B__law_kinds M__law_kinds C__law_kinds F__law_order B__law_order M__law_order C__law_order F__law_sides B__law_sides M__law_sides C__law_sides F__law_all_signs B__law_all_signs M__law_all_signs C__law_all_signs F__law_words B__law_words M__law_words C__law_words m_list zak2
 exact zbg5 F_law F__law_feed B__law_feed M__law_feed C__law_feed F__law_things B__law_things M__law_things C__law_things F__law_telling B__law_telling M__law_telling C__law_telling F__law_clock B__law_clock M__law_clock C__law_clock F__law_gap B__law_gap M__law_gap C__law_gap F__law_right B__law_right M__law_right C__law_right F__law_gap_due B__law_gap_due M__law_gap_due C__law_gap_due F__law_two B__law_two M__law_two C__law_two F__law_may B__law_may M__law_may C__law_may F__law_kinds B__law_kinds M__law_kinds C__law_kinds F__law_draw B__law_draw M__law_draw C__law_draw F__law_word B__law_word M__law_word C__law_word m_range m_int m_len zbb5
theorem walk {l:PySem.W.OpenLaw} {q:Program} {loose:List Str} {XP:(Str→Option Value)→Heap→Prop} {YP:World→Heap→Prop} {d:DefRec} {K:Params→PySem.W.Frag} (hn:l.most=some 63) (hdf:d.params.defaults=[])
  (hY:∀ (w:World) (h:Heap),YP w h→(K w.params).In h)
  (F:∀ (w:World) (mg:Str→Option Value) (fa:Addr) (h:Heap),(K w.params).In h→h.Ns mainGlobals mg→mg d.name=some (.ref fa) →
   ∃ fd:FuncData,(∀ (s:Shared) (u:Value),BindsTo s fd ⟨[u],[]⟩ [("_law_script",u)])∧∀ base:Heap,(K w.params).In base→base.Ns mainGlobals mg→FnOk l.prog w (K w.params) mg base CX0 9 fa fd ["_law_script"] (LSp (K w.params) 1 zZ1)) :
  PySem.W.WalkO q loose XP YP l.row.toRowW d [] (fun f vs=>PySem.call f vs) :=
 L2.walk_of (n:=63) (k:=9) (x:="_law_script") (CX:=fun _=>CX0) (sp:=fun w=>LSp (K w.params) 1 zZ1) hn (by decide) hdf ⟨rfl,rfl,by decide,by decide⟩ hY F (fun _ _ a ns hl _ hS=>zaP1 hS ⟨ns,rfl,hl,fun _=>rfl⟩) fun _ _ _ _ _ z=>z
def zbj8 (P:Params):Obj:=⟨Value.type "dict",none,Data.dict #[{ hash:=reduceHash (Builtin.Tuple.tupleHashOf [PyData.keyHash P (Str.ofString "point"),PyData.keyHash P (Str.ofString "point")]),key:=Value.ref 45,val:=Value.ref 46 },{ hash:=reduceHash (Builtin.Tuple.tupleHashOf [PyData.keyHash P (Str.ofString "point"),PyData.keyHash P (Str.ofString "stretch")]),key:=Value.ref 47,val:=Value.ref 48 },{ hash:=reduceHash (Builtin.Tuple.tupleHashOf [PyData.keyHash P (Str.ofString "stretch"),PyData.keyHash P (Str.ofString "point")]),key:=Value.ref 49,val:=Value.ref 50 }] 3,#[]⟩
def zbm7 (P:Params):Obj:=⟨Value.type "tuple",none,Data.seq #[Value.str (Str.ofString "point") 238,Value.str (Str.ofString "point") 239],#[]⟩
def zbh5 (P:Params):Obj:=⟨Value.type "tuple",none,Data.seq #[Value.str (Str.ofString "ahead") 240,Value.str (Str.ofString "same") 241,Value.str (Str.ofString "behind") 242],#[]⟩
def zbi9 (P:Params):Obj:=⟨Value.type "tuple",none,Data.seq #[Value.str (Str.ofString "point") 243,Value.str (Str.ofString "stretch") 244],#[]⟩
def zbn4 (P:Params):Obj:=⟨Value.type "tuple",none,Data.seq #[Value.str (Str.ofString "ahead") 245,Value.str (Str.ofString "begins") 246,Value.str (Str.ofString "within") 247,Value.str (Str.ofString "ends") 248,Value.str (Str.ofString "behind") 249],#[]⟩
def zbi7 (P:Params):Obj:=⟨Value.type "tuple",none,Data.seq #[Value.str (Str.ofString "stretch") 250,Value.str (Str.ofString "point") 251],#[]⟩
def zbl9 (P:Params):Obj:=⟨Value.type "tuple",none,Data.seq #[Value.str (Str.ofString "ahead") 252,Value.str (Str.ofString "ended") 253,Value.str (Str.ofString "holds") 254,Value.str (Str.ofString "begun") 255,Value.str (Str.ofString "behind") 256],#[]⟩
noncomputable def kk (P:Params):PySem.W.Frag:=[(3,H19.o3 P),(20,H19.o20 P),(21,H19.o21 P),(27,H19.o27 P),(28,H19.o28 P),(34,H19.o34 P),(35,H19.o35 P),(41,H19.o41 P),(42,H19.o42 P),(43,H19.o43 P),(44,zbj8 P),(45,zbm7 P),(46,zbh5 P),(47,zbi9 P),(48,zbn4 P),(49,zbi7 P),(50,zbl9 P),(51,H19.o51 P),(52,H19.o52 P),(53,H19.o53 P),(54,H19.o54 P),(55,H19.o55 P),(56,H19.o56 P),(57,H19.o57 P),(58,H19.o58 P),(59,H19.o59 P),(60,H19.o60 P),(61,H19.o61 P),(62,H19.o62 P),(63,H19.o63 P),(64,H19.o64 P),(70,H19.o70 P),(71,H19.o71 P),(77,H19.o77 P),(78,H19.o78 P),(84,H19.o84 P),(85,H19.o85 P),(91,H19.o91 P),(92,H19.o92 P),(96,H19.o96 P),(97,H19.o97 P),(101,H19.o101 P),(102,H19.o102 P),(108,H19.o108 P),(109,H19.o109 P),(115,H19.o115 P),(116,H19.o116 P),(122,H19.o122 P),(123,H19.o123 P),(129,H19.o129 P),(130,H19.o130 P),(136,H19.o136 P),(137,H19.o137 P),(143,H19.o143 P),(144,H19.o144 P),(150,H19.o150 P),(151,H19.o151 P),(157,H19.o157 P),(158,H19.o158 P),(164,H19.o164 P),(165,H19.o165 P),(169,H19.o169 P),(170,H19.o170 P),(176,H19.o176 P),(177,H19.o177 P),(183,H19.o183 P),(184,H19.o184 P),(190,H19.o190 P),(191,H19.o191 P),(197,H19.o197 P),(198,H19.o198 P),(202,H19.o202 P),(203,H19.o203 P),(207,H19.o207 P),(208,H19.o208 P),(212,H19.o212 P),(213,H19.o213 P),(219,H19.o219 P),(220,H19.o220 P),(226,H19.o226 P),(227,H19.o227 P),(233,H19.o233 P),(234,H19.o234 P),(240,H19.o240 P),(241,H19.o241 P),(247,H19.o247 P),(248,H19.o248 P),(254,H19.o254 P),(255,H19.o255 P),(261,H19.o261 P),(262,H19.o262 P),(266,H19.o266 P),(267,H19.o267 P),(273,H19.o273 P),(274,H19.o274 P),(280,H19.o280 P),(281,H19.o281 P),(287,H19.o287 P),(288,H19.o288 P),(294,H19.o294 P),(295,H19.o295 P),(301,H19.o301 P),(302,H19.o302 P)]
end K19
open PySem PySem.W PyProof.Rows
set_option maxRecDepth 100000 in
set_option maxHeartbeats 0 in
theorem PySem.Challenge.cw_whens_k19_faults_and_rows_had_holds : PySem.Challenge.rw_whens_k19_faults_and_rows_had.Holds := by
 w_on; o_law; refine H19.head (H:=kHook K19.kk [3,20,21,27,28,34,35,41,42,43,44,45,46,47,48,49,50,51,52,53,54,55,56,57,58,59,60,61,62,63,64,70,71,77,78,84,85,91,92,96,97,101,102,108,109,115,116,122,123,129,130,136,137,143,144,150,151,157,158,164,165,169,170,176,177,183,184,190,191,197,198,202,203,207,208,212,213,219,220,226,227,233,234,240,241,247,248,254,255,261,262,266,267,273,274,280,281,287,288,294,295,301,302] (fun _=>by kernel_rfl)) (fun w os=>by kernel_rfl) (by assumption) (by rfl) (by rfl) (by rfl) ?hw ?hc; (case hw=>w_witness2)
 k_fill
 refine K19.walk (l:=PySem.Challenge.rw_whens_k19_faults_and_rows_had) rfl rfl (fun w h Y=>PySem.W.kIn_of Y) ?F
 case F =>
  intro w mg fa h KX G hmg
  refine' K19.all_mk (f_common:=21) (f_fraction:=28) (f_less:=35) (f_is_below:=42) (f_words_of:=71) (f_ways_by:=78) (f_is_point:=85) (f_way_of:=92) (f_word_of:=97) (f_names_of:=102) (f_times_of:=109) (f_time_of:=116) (f_word_between:=123) (f_is_gap_met:=130) (f_is_may_row:=137) (f_is_fault:=144) (f_has_row:=151) (f__law_feed:=158) (f__law_draw:=165) (f__law_things:=170) (f__law_words:=177) (f__law_back:=184) (f__law_sign:=191) (f__law_sides:=198) (f__law_all_signs:=203) (f__law_kinds:=208) (f__law_all_ends:=213) (f__law_lowest:=220) (f__law_added:=227) (f__law_time:=234) (f__law_telling:=241) (f__law_clock:=248) (f__law_order:=255) (f__law_word:=262) (f__law_may:=267) (f__law_two:=274) (f__law_gap:=281) (f__law_gap_due:=288) (f__law_right:=295) (f_law:=302) (c_POINT_WORDS:=44) (c_ORDER:=43) (c_WAYS:=51) KX G hmg ?a0 ?l0 ?c0 ?k0 ?a1 ?l1 ?c1 ?k1 ?a2 ?l2 ?c2 ?k2 ?a3 ?l3 ?c3 ?k3 ?a4 ?l4 ?c4 ?k4 ?a5 ?l5 ?c5 ?k5 ?a6 ?l6 ?c6 ?k6 ?a7 ?l7 ?c7 ?k7 ?a8 ?l8 ?c8 ?k8 ?a9 ?l9 ?c9 ?k9 ?a10 ?l10 ?c10 ?k10 ?a11 ?l11 ?c11 ?k11 ?a12 ?l12 ?c12 ?k12 ?a13 ?l13 ?c13 ?k13 ?a14 ?l14 ?c14 ?k14 ?a15 ?l15 ?c15 ?k15 ?a16 ?l16 ?c16 ?k16 ?a17 ?l17 ?c17 ?k17 ?a18 ?l18 ?c18 ?k18 ?a19 ?l19 ?c19 ?k19 ?a20 ?l20 ?c20 ?k20 ?a21 ?l21 ?c21 ?k21 ?a22 ?l22 ?c22 ?k22 ?a23 ?l23 ?c23 ?k23 ?a24 ?l24 ?c24 ?k24 ?a25 ?l25 ?c25 ?k25 ?a26 ?l26 ?c26 ?k26 ?a27 ?l27 ?c27 ?k27 ?a28 ?l28 ?c28 ?k28 ?a29 ?l29 ?c29 ?k29 ?a30 ?l30 ?c30 ?k30 ?a31 ?l31 ?c31 ?k31 ?a32 ?l32 ?c32 ?k32 ?a33 ?l33 ?c33 ?k33 ?a34 ?l34 ?c34 ?k34 ?a35 ?l35 ?c35 ?k35 ?a36 ?l36 ?c36 ?k36 ?a37 ?l37 ?c37 ?k37 ?a38 ?l38 ?c38 ?k38 ?a39 ?l39 ?c39 ?k39 ?a_WAYS ?l_WAYS ?l_WAYS_0 ?l_WAYS_1 ?l_WAYS_2 ?l_WAYS_3 ?l_WAYS_4 ?l_WAYS_5 ?l_WAYS_6 ?l_WAYS_7 ?l_WAYS_8 ?l_WAYS_9 ?l_WAYS_10 ?l_WAYS_11 ?l_WAYS_12 ?y_WAYS ?a_POINT_WORDS ?l_POINT_WORDS ?lk_POINT_WORDS_0 ?lr_POINT_WORDS_0 ?lk_POINT_WORDS_1 ?lr_POINT_WORDS_1 ?lk_POINT_WORDS_2 ?lr_POINT_WORDS_2 ?y_POINT_WORDS ?a_ORDER ?l_ORDER ?z_abs ?z_isinstance ?z_tuple ?z_dict ?z_len ?z_list ?z_int ?z_sorted ?z_range ?z_zip ?z_repr
  (case a0=>kernel_rfl)
  (case l0=>exact rfl)
  (case c0=>kernel_rfl)
  (case k0=>kernel_rfl)
  (case a1=>kernel_rfl)
  (case l1=>exact rfl)
  (case c1=>kernel_rfl)
  (case k1=>kernel_rfl)
  (case a2=>kernel_rfl)
  (case l2=>exact rfl)
  (case c2=>kernel_rfl)
  (case k2=>kernel_rfl)
  (case a3=>kernel_rfl)
  (case l3=>exact rfl)
  (case c3=>kernel_rfl)
  (case k3=>kernel_rfl)
  (case a4=>kernel_rfl)
  (case l4=>exact rfl)
  (case c4=>kernel_rfl)
  (case k4=>kernel_rfl)
  (case a5=>kernel_rfl)
  (case l5=>exact rfl)
  (case c5=>kernel_rfl)
  (case k5=>kernel_rfl)
  (case a6=>kernel_rfl)
  (case l6=>exact rfl)
  (case c6=>kernel_rfl)
  (case k6=>kernel_rfl)
  (case a7=>kernel_rfl)
  (case l7=>exact rfl)
  (case c7=>kernel_rfl)
  (case k7=>kernel_rfl)
  (case a8=>kernel_rfl)
  (case l8=>exact rfl)
  (case c8=>kernel_rfl)
  (case k8=>kernel_rfl)
  (case a9=>kernel_rfl)
  (case l9=>exact rfl)
  (case c9=>kernel_rfl)
  (case k9=>kernel_rfl)
  (case a10=>kernel_rfl)
  (case l10=>exact rfl)
  (case c10=>kernel_rfl)
  (case k10=>kernel_rfl)
  (case a11=>kernel_rfl)
  (case l11=>exact rfl)
  (case c11=>kernel_rfl)
  (case k11=>kernel_rfl)
  (case a12=>kernel_rfl)
  (case l12=>exact rfl)
  (case c12=>kernel_rfl)
  (case k12=>kernel_rfl)
  (case a13=>kernel_rfl)
  (case l13=>exact rfl)
  (case c13=>kernel_rfl)
  (case k13=>kernel_rfl)
  (case a14=>kernel_rfl)
  (case l14=>exact rfl)
  (case c14=>kernel_rfl)
  (case k14=>kernel_rfl)
  (case a15=>kernel_rfl)
  (case l15=>exact rfl)
  (case c15=>kernel_rfl)
  (case k15=>kernel_rfl)
  (case a16=>kernel_rfl)
  (case l16=>exact rfl)
  (case c16=>kernel_rfl)
  (case k16=>kernel_rfl)
  (case a17=>kernel_rfl)
  (case l17=>exact rfl)
  (case c17=>kernel_rfl)
  (case k17=>kernel_rfl)
  (case a18=>kernel_rfl)
  (case l18=>exact rfl)
  (case c18=>kernel_rfl)
  (case k18=>kernel_rfl)
  (case a19=>kernel_rfl)
  (case l19=>exact rfl)
  (case c19=>kernel_rfl)
  (case k19=>kernel_rfl)
  (case a20=>kernel_rfl)
  (case l20=>exact rfl)
  (case c20=>kernel_rfl)
  (case k20=>kernel_rfl)
  (case a21=>kernel_rfl)
  (case l21=>exact rfl)
  (case c21=>kernel_rfl)
  (case k21=>kernel_rfl)
  (case a22=>kernel_rfl)
  (case l22=>exact rfl)
  (case c22=>kernel_rfl)
  (case k22=>kernel_rfl)
  (case a23=>kernel_rfl)
  (case l23=>exact rfl)
  (case c23=>kernel_rfl)
  (case k23=>kernel_rfl)
  (case a24=>kernel_rfl)
  (case l24=>exact rfl)
  (case c24=>kernel_rfl)
  (case k24=>kernel_rfl)
  (case a25=>kernel_rfl)
  (case l25=>exact rfl)
  (case c25=>kernel_rfl)
  (case k25=>kernel_rfl)
  (case a26=>kernel_rfl)
  (case l26=>exact rfl)
  (case c26=>kernel_rfl)
  (case k26=>kernel_rfl)
  (case a27=>kernel_rfl)
  (case l27=>exact rfl)
  (case c27=>kernel_rfl)
  (case k27=>kernel_rfl)
  (case a28=>kernel_rfl)
  (case l28=>exact rfl)
  (case c28=>kernel_rfl)
  (case k28=>kernel_rfl)
  (case a29=>kernel_rfl)
  (case l29=>exact rfl)
  (case c29=>kernel_rfl)
  (case k29=>kernel_rfl)
  (case a30=>kernel_rfl)
  (case l30=>exact rfl)
  (case c30=>kernel_rfl)
  (case k30=>kernel_rfl)
  (case a31=>kernel_rfl)
  (case l31=>exact rfl)
  (case c31=>kernel_rfl)
  (case k31=>kernel_rfl)
  (case a32=>kernel_rfl)
  (case l32=>exact rfl)
  (case c32=>kernel_rfl)
  (case k32=>kernel_rfl)
  (case a33=>kernel_rfl)
  (case l33=>exact rfl)
  (case c33=>kernel_rfl)
  (case k33=>kernel_rfl)
  (case a34=>kernel_rfl)
  (case l34=>exact rfl)
  (case c34=>kernel_rfl)
  (case k34=>kernel_rfl)
  (case a35=>kernel_rfl)
  (case l35=>exact rfl)
  (case c35=>kernel_rfl)
  (case k35=>kernel_rfl)
  (case a36=>kernel_rfl)
  (case l36=>exact rfl)
  (case c36=>kernel_rfl)
  (case k36=>kernel_rfl)
  (case a37=>kernel_rfl)
  (case l37=>exact rfl)
  (case c37=>kernel_rfl)
  (case k37=>kernel_rfl)
  (case a38=>kernel_rfl)
  (case l38=>exact rfl)
  (case c38=>kernel_rfl)
  (case k38=>kernel_rfl)
  (case a39=>kernel_rfl)
  (case l39=>exact rfl)
  (case c39=>kernel_rfl)
  (case k39=>kernel_rfl)
  (case a_WAYS=>kernel_rfl)
  (case l_WAYS=>exact rfl)
  (case l_WAYS_0=>exact rfl)
  (case l_WAYS_1=>exact rfl)
  (case l_WAYS_2=>exact rfl)
  (case l_WAYS_3=>exact rfl)
  (case l_WAYS_4=>exact rfl)
  (case l_WAYS_5=>exact rfl)
  (case l_WAYS_6=>exact rfl)
  (case l_WAYS_7=>exact rfl)
  (case l_WAYS_8=>exact rfl)
  (case l_WAYS_9=>exact rfl)
  (case l_WAYS_10=>exact rfl)
  (case l_WAYS_11=>exact rfl)
  (case l_WAYS_12=>exact rfl)
  (case y_WAYS=>rfl)
  (case a_POINT_WORDS=>kernel_rfl)
  (case l_POINT_WORDS=>exact rfl)
  (case lk_POINT_WORDS_0=>exact rfl)
  (case lr_POINT_WORDS_0=>exact rfl)
  (case lk_POINT_WORDS_1=>exact rfl)
  (case lr_POINT_WORDS_1=>exact rfl)
  (case lk_POINT_WORDS_2=>exact rfl)
  (case lr_POINT_WORDS_2=>exact rfl)
  (case y_POINT_WORDS=>rfl)
  (case a_ORDER=>kernel_rfl)
  (case l_ORDER=>exact rfl)
  (case z_abs=>kernel_rfl)
  (case z_isinstance=>kernel_rfl)
  (case z_tuple=>kernel_rfl)
  (case z_dict=>kernel_rfl)
  (case z_len=>kernel_rfl)
  (case z_list=>kernel_rfl)
  (case z_int=>kernel_rfl)
  (case z_sorted=>kernel_rfl)
  (case z_range=>kernel_rfl)
  (case z_zip=>kernel_rfl)
  (case z_repr=>kernel_rfl)
#print axioms PySem.Challenge.cw_whens_k19_faults_and_rows_had_holds
